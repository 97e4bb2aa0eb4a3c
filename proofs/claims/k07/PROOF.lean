import PyProof.Rows.All
import Wide.All
import OpenK.AllK
import Wide.FinOn
import HandS.ForMost
import HandS.ForExc
import HandS.ExcInit
import HandS.ExcField
import HandS.ClsMeth
import HandS.TryMany
import HandS.ExcIs
import HandS.IsInst
import HandS.Wide
import HandS.OwnEq
import HandS.Flow
import HandS.NoneIn
import HandS.Evl
import HandS.Style
import HandS.SortKw
import HandS.MakeKw
import HandS.Star
import HandS.Deep
import HandS.TupAny
import HandS.TupLen
import KE.GoesEnumKw
import KE.DataMinMax
import HandS.DictComp
import KE.KDictKeyed
import KE.KDictDisplayH
import KE.KDictCopyH
import HandS.HotCalls
import KE.DatumOrd
import HandS.Codes
import HandS.Conv
import HandS.Walk
import HandS.DictComp
import HandS.CallLocal
import HandS.SetFor
import HandS.Deep
import KE.DataFind
import HandS.Sort
import HandS.More
import HandS.Comp
import HandS.Head0
import HandS.Head1
import HandS.Head2
import HandS.HeadEnd
import HandS.HeadHook1
import HandS.HeadHook2
import HandS.HeadHook3
import HandS.HeadHook4
import PySem.Challenge.RW_heapcode_k07_lists_of_the_kinds
set_option Elab.async false
set_option linter.all false
set_option maxRecDepth 100000
set_option maxHeartbeats 4000000
/-! ## Errors over an own base class: Base.__init__(self, 'text') and fields -/
namespace Hx
open PySem PySem.Spec PyProof.Rows L2
section
variable {X : Cx} {e : Expr} {es : List Expr} {ta : TA} {p1 p2 pos : Pos}
/-- Base.__init__(self, ..), Base an own class at D that leaves __init__ to ValueError -/
theorem pe_binit {x : Str} {D : Addr} {pl : Sem Bool} (hD : X.mg x = some (.ref D)) (rd : ClX.CRead X.K D (.type "type"))
    (fc : PySem.W.findCls X.K (.ref D) (.type "type") "__init__" = some (.val (.builtin "ValueError.__init__"))) (ha : PA X (e :: es) ta) (hg : Gl X x := by rfl)
    (hdb : (x == ("__debug__" : Str)) = false := by decide)
    (hc : eval (.Call (.Attribute (.Name x p1) "__init__" p2) (e :: es) [] pos) X.env = (do
      let vv ← eval (.Name x p1) X.env
      standAt p2.atName
      let (g, hd) ← holding [vv] (getMethod vv "__init__" pl)
      callWith pos g hd (backTo pos (starEach (e :: es) X.env)) (backToKw pos (keywordEach [] X.env))) := by rfl)
    (hs : starEach (e :: es) X.env = (false, eval e X.env) :: starEach es X.env := by rfl) (hp : (backTo pos (starEach es X.env)).any (·.1) = false := by rfl) :
    PE X (.Call (.Attribute (.Name x p1) "__init__" p2) (e :: es) [] pos) (tVeI X.K ta) := by
  constructor
  intro pins s σ H Q I0 hq
  refine PySem.W.methodCall_KW (ld_glob I0 hg hD ?_ hdb) hc
  refine PySem.W.method_cls I0.kIn rd.ga ?_
  refine PySem.W.cls_value I0.kIn rd.rd fc rfl ?_
  refine PyProof.Rows.callWith_method1 (thn (ha.run pos pins _ σ H _ (I0.tok _) hq) ?_) hs hp
  rintro us s2 ⟨vs, H2, I2, rv, a, C, ws, rfl, hl, T, ea, q⟩
  cases rv with
  | @cons _ u0 _ ur ra rw' =>
    cases (show u0 = Value.ref a from ra)
    have hz : ur.length ≤ sizeLine := by rw [← Paired.length rw', sizeLine_eq]; omega
    exact oinit_ok T I2 ea hz fun s3 J => ⟨V.non, H2, J, rfl, q⟩
end
end Hx
/-! ## try with any number of clauses, named or not -/
namespace Hx
open PySem PySem.Spec PyProof.Rows L2
/-- a clause: the class, the slot of its name if it has one, the suite's reading -/
structure Cla where
  c : Value
  o : Option Nat
  ts : Addr → Value → Option Addr → TS
/-- behind the suite the name is gone -/
def endsOf (o : Option Nat) (D : Ends) : Ends := match o with
  | none => D
  | some i => { nx := fun ρ G => D.nx (ρ.set i none) G, rt := D.rt, bk := fun ρ G => D.bk (ρ.set i none) G, ct := fun ρ G => D.ct (ρ.set i none) G }
def named (o : Option Nat) (σ : L2.St) (a : Addr) : L2.St := match o with
  | none => σ
  | some i => σ.set i (some (.ref a))
def wAny (K : PySem.W.Frag) (Wout : WX) (D : Ends) : List Cla → WX
  | [] => Wout
  | k :: r => fun cls d σ H => ∃ b, PySem.W.exmOne K cls k.c = some b ∧ (b = true → ∀ a, H a = none → k.ts a cls d (endsOf k.o D) (named k.o σ a) H) ∧ (b = false → wAny K Wout D r cls d σ H)
inductive ClaOk (X : Cx) : List ExceptHandler → List Cla → Prop
  | nil : ClaOk X [] []
  | bare {x : Str} {c : Value} {ts : Addr → Value → Option Addr → TS} {s₀ : Stmt} {su : List Stmt} {np q : Pos} {hs : List ExceptHandler} {l : List Cla} (hc : Names X x c)
      (hsu : ∀ (a : Addr) (oe : Obj) (cls : Value) (d : Option Addr) (pn : List (Addr × Obj)), Zc cls d oe → (∃ vs, oe.data = .fields vs) → PSs (X.suite a ((a, oe) :: pn)) (s₀ :: su) (ts a cls d)) (r : ClaOk X hs l) :
      ClaOk X (.ExceptHandler (some (.Name x np)) none (s₀ :: su) q :: hs) (⟨c, none, ts⟩ :: l)
  | as {x n : Str} {i : Nat} {c : Value} {ts : Addr → Value → Option Addr → TS} {s₀ : Stmt} {su : List Stmt} {np q : Pos} {hs : List ExceptHandler} {l : List Cla} (hN : X.N.Nodup) (hi : X.N[i]? = some n) (hln : X.env.kindOf n = some .local) (hc : Names X x c)
      (hsu : ∀ (a : Addr) (oe : Obj) (cls : Value) (d : Option Addr) (pn : List (Addr × Obj)), Zc cls d oe → (∃ vs, oe.data = .fields vs) → PSs (X.suite a ((a, oe) :: pn)) (s₀ :: su) (ts a cls d)) (r : ClaOk X hs l) :
      ClaOk X (.ExceptHandler (some (.Name x np)) (some n) (s₀ :: su) q :: hs) (⟨c, some i, ts⟩ :: l)
section
variable {X : Cx} {body : List Stmt} {h₀ : ExceptHandler} {hds : List ExceptHandler} {l : List Cla} {pos : Pos} {tb : WX → TS} {Wout : WX}
theorem ps_try_any (hstk : X.stack = X.env :: X.outer) (hfrm : X.env.frame = some X.env.locals) (tkO : Takes X Wout)
    (hbody : ∀ (W : WX) (pn : List (Addr × Obj)) (xe : Value → Shared → Prop), Takes (X.tr pn xe) W → PassesOwn (model X.prog X.w) X.A X.env xe → PSs (X.tr pn xe) body (tb W))
    (hcl : ClaOk X (h₀ :: hds) l) : PS X (.Try body (h₀ :: hds) [] [] pos) (fun D σ H => tb (wAny X.K Wout D l) D σ H) := by
  constructor
  intro pins s σ H D I0 hrd
  have ok := I0.ok
  have hA : X.A.frames = some (X.env :: X.outer) := by rw [ok.frames, hstk]
  refine wpAny_Try_except ?_
  refine wpAny_mono ((hbody (wAny X.K Wout D l) (X.pn ++ pins) (fun e t1 => wpAny (model X.prog X.w) X.A (noteFrame e X.env) (fun _ t2 =>
    wpAny (model X.prog X.w) X.A (setFlight e none) (fun _ t3 =>
      wpAny (model X.prog X.w) X.A (handleBy e X.env (h₀ :: hds)) (SP X pins D) X.xe t3) X.xe t2) X.xe t1) ?raised PassesOwn.looking).run [] s σ H D (I0.toTry _) hrd) ?through (fun _ _ z => z)
  case through =>
    intro f t hsp
    cases f with
    | next => obtain ⟨ρ, G, J, q⟩ := hsp; exact wpAny_execs_nil ⟨ρ, G, J.ofTry ok, q⟩
    | brk => obtain ⟨ρ, G, J, q⟩ := hsp; exact ⟨ρ, G, J.ofTry ok, q⟩
    | cont => obtain ⟨ρ, G, J, q⟩ := hsp; exact ⟨ρ, G, J.ofTry ok, q⟩
    | ret u => obtain ⟨v, ρ, G, J, r, q⟩ := hsp; exact ⟨v, ρ, G, J.ofTry ok, r, q⟩
  case raised =>
    rintro u t ⟨a, B, sI, pins', ρ, G, cls, d, rfl, JT, nb, up, sky0, na, os, ag, hw⟩
    have J : Inv X pins ρ G sI := JT.ofTry ok
    have sky : Sky B (X.env :: X.outer) a (Zc cls d) X.env.locals t.heap := by rw [← hstk]; exact sky0
    show wpAny (model X.prog X.w) X.A (noteFrame (.ref a) X.env) _ _ _
    refine Sky.land Zc.steady hA hfrm sky fun g3 fl up3 => ?_
    have J3 : Inv X pins ρ G { t with heap := g3 } := J.landed nb fl.1 (up.trans up3) os ag
    obtain ⟨ob, vz, hob, hz, hdz⟩ := fl.there
    have nIn : ∀ L ∈ frs (X.env :: X.outer), a ≠ L := by
      intro L hL e
      subst e
      obtain ⟨_, o2, e2, nf⟩ := fl.2.2.1.mem hL
      rw [hob] at e2
      cases e2
      exact nf _ hdz
    have nL : a ≠ X.env.locals := nIn _ (List.mem_filterMap.mpr ⟨X.env, List.mem_cons_self, hfrm⟩)
    have nF : a ∉ X.fs := fun hm => by
      obtain ⟨e, he, q⟩ := List.mem_filterMap.mp hm
      exact nIn a (List.mem_filterMap.mpr ⟨e, List.mem_cons_of_mem _ he, q⟩) rfl
    have S3 := J3.suite hob hdz na nL nF
    have LT : PySem.W.Looks (model X.prog X.w) g3 (typeOf (.ref a)) cls := fun A Q E s k q => wpAny_typeOf_ref (k _ _ hob) (by rw [hz.1]; exact q)
    -- the class that a clause names is found
    have find : ∀ {x : Str} {c : Value} {np : Pos}, Names X x c → ∀ {Q E : Value → Shared → Prop}, Q c { t with heap := g3 } → wpAny (model X.prog X.w) (X.A.mark (some (.ref a))) (eval (.Name x np) X.env) Q E { t with heap := g3 } := by
      rintro x c np ⟨hg, hdb, hm | ⟨hm, hv, hnn⟩⟩ Q E q
      · exact ld_glob (X := X.suite a ((a, ob) :: (X.pn ++ pins))) S3 hg hm q hdb
      · exact ld_blt (X := X.suite a ((a, ob) :: (X.pn ++ pins))) S3 hg hm hv q hnn hdb
    have run : ∀ {hs : List ExceptHandler} {m : List Cla}, ClaOk X hs m → wAny X.K Wout D m cls d ρ G →
        wpAny (model X.prog X.w) X.A (handleBy (.ref a) X.env hs) (SP X pins D) X.xe { t with heap := g3 } := by
      intro hs m hk
      induction hk with
      | nil =>
        intro hw
        refine wpAny_handleBy_nil ?_
        obtain ⟨_, _, _, oe, vs, T, oT, ts', he, _, hd', h1, _⟩ := id fl
        unfold PySem.passOn
        refine wpAny_bind (wpAny_field he hd' h1 ?_)
        rw [if_neg (show ¬ ((Value.ref T == Value.none) = true) from by simp)]
        have off : wpAny (model X.prog X.w) X.A (setFlight (.ref a) X.env.frame) (fun _ t4 => wpAny (model X.prog X.w) X.A (throw (.ref a) : Sem Flow) (SP X pins D) X.xe t4) X.xe { t with heap := g3 } := by
          rw [hfrm]
          refine HandSPX.setFlight_upZ fl fun g4 held up4 => wpAny_throw (tkO _ _ ?_)
          exact ⟨a, B, sI, pins, ρ, G, cls, d, rfl, J, nb, (up.trans up3).trans up4, .inr (.inr (by rw [hstk]; exact held)), na, os, ag, hw⟩
        first
          | exact wpAny_bind (wpAny_pure (wpAny_bind off))
          | exact wpAny_bind off
      | bare hc hsu r ih =>
        rintro ⟨b, hb1, hyes, hno⟩
        refine wpAny_handleBy_cons (codeAny_handlers_test ?_) (by intro q; cases q)
        refine find hc ((PySem.W.exm_one (M := model X.prog X.w) J3.kIn LT hb1).here ?_)
        cases b with
        | false => exact ih (hno rfl)
        | true =>
          refine codeAny_handlers_suite (HandSPX.lands_againZ fl fun g4 fl4 up4 => ?_)
          have J4 : Inv X pins ρ G { t with heap := g4 } := J.landed nb fl4.1 ((up.trans up3).trans up4) os ag
          obtain ⟨o4, v4, he4, hz4, hd4⟩ := fl4.there
          refine wpAny_mono ((hsu a o4 cls d (X.pn ++ pins) hz4 ⟨_, hd4⟩).run [] _ _ G _ (J4.suite he4 hd4 na nL nF) (hyes rfl a na)) (fun f t6 hsp => ?_) (fun _ _ z => False.elim z)
          cases f with
          | next => obtain ⟨ρ6, G6, S6, q6⟩ := hsp; exact ⟨ρ6, G6, S6.unsuite ok, q6⟩
          | brk => obtain ⟨ρ6, G6, S6, q6⟩ := hsp; exact ⟨ρ6, G6, S6.unsuite ok, q6⟩
          | cont => obtain ⟨ρ6, G6, S6, q6⟩ := hsp; exact ⟨ρ6, G6, S6.unsuite ok, q6⟩
          | ret u => obtain ⟨v6, ρ6, G6, S6, r6, q6⟩ := hsp; exact ⟨v6, ρ6, G6, S6.unsuite ok, r6, q6⟩
      | @as x n i c ts s₀ su np q hs l hN hi hln hc hsu r ih =>
        rintro ⟨b, hb1, hyes, hno⟩
        refine wpAny_handleBy_cons (codeAny_handlers_test ?_) (by intro q; cases q)
        refine find hc ((PySem.W.exm_one (M := model X.prog X.w) J3.kIn LT hb1).here ?_)
        cases b with
        | false => exact ih (hno rfl)
        | true =>
          refine codeAny_handlers_suite_as (HandSPX.lands_againZ fl fun g4 fl4 up4 => ?_)
          have J4 : Inv X pins ρ G { t with heap := g4 } := J.landed nb fl4.1 ((up.trans up3).trans up4) os ag
          obtain ⟨o4, v4, he4, hz4, hd4⟩ := fl4.there
          refine store_ok (X := X.suite a ((a, o4) :: (X.pn ++ pins))) (v := .ref a) (J4.suite he4 hd4 na nL nF) hN hi (.inl hln) rfl (fun t5 S5 => ?_) (.inr hln)
          refine wpAny_mono ((hsu a o4 cls d (X.pn ++ pins) hz4 ⟨_, hd4⟩).run [] t5 _ G _ S5 (hyes rfl a na)) (fun f t6 hsp => ?_) (fun _ _ z => False.elim z)
          cases f with
          | next => obtain ⟨ρ6, G6, S6, q6⟩ := hsp; exact gone_ok (S6.unsuite ok) hN hi hln fun t7 J7 => ⟨_, _, J7, q6⟩
          | brk => obtain ⟨ρ6, G6, S6, q6⟩ := hsp; exact gone_ok (S6.unsuite ok) hN hi hln fun t7 J7 => ⟨_, _, J7, q6⟩
          | cont => obtain ⟨ρ6, G6, S6, q6⟩ := hsp; exact gone_ok (S6.unsuite ok) hN hi hln fun t7 J7 => ⟨_, _, J7, q6⟩
          | ret u => obtain ⟨v6, ρ6, G6, S6, r6, q6⟩ := hsp; exact gone_ok (S6.unsuite ok) hN hi hln fun t7 J7 => ⟨_, _, _, J7, r6, q6⟩
    exact run hcl hw
end
end Hx
/-! ## isinstance of an error that has its own dict -/
namespace Hx
open PySem PySem.Spec PySem.Calls PyProof.Rows PySem.W
section
variable {prog : Program} {w : World} {A : Around} {E : Value → Shared → Prop} {s : Shared} {K : Frag} {x D : Addr} {ox : Obj} {od : Option Obj}
theorem bind_found {C : Addr} {nm : Str} {a g : Value} (hc : (clsIn K C).isSome = true) (ha : findIn K (.ref C) nm = some (some a)) (hg : specialIn K a "__get__" = some (some g)) (ht : takesIn K a = some true) :
    findObj K C od nm = some (.bind g a) := by
  obtain ⟨cd, hcd⟩ := Option.isSome_iff_exists.mp hc
  show (clsIn K C).bind _ = _
  rw [hcd, Option.bind_some, ha]
  simp [hg, ht]
theorem class_of_err {Q : Option Value → Shared → Prop} (T : L2.ExcC K D) (X : K.In s.heap) (I : InstAt s.heap x ox D od) (h : Q (some (.ref D)) { s with toks := s.toks + 1 }) :
    wpAny (model prog w) A (getAttr? (.ref x) "__class__") Q E s := by
  have hf : findObj K D od "__class__" = some (.bind (.builtin "getset_descriptor.__get__") (.builtin "object.__class__")) :=
    bind_found (by obtain ⟨cd, hc, _⟩ := any_some T.hd; rw [hc]; rfl) T.ha T.hn T.ht
  obtain ⟨hp, gs, dr, tk, os⟩ := s
  have K0 := I.type (M := model prog w)
  have K1 := looks_findIn (M := model prog w) X T.hg
  have K2 := looks_findIn (M := model prog w) X T.hk
  have K3 := looks_find (M := model prog w) X I hf
  have isB : Looks (model prog w) hp (isInstance (.ref x) (.type "BaseException")) true := K0.andThen (looks_subIn X T.hs)
  have ne2 : (Value.builtin "BaseException.__getattribute__" == Value.builtin "object.__getattribute__") = false := by decide +kernel
  have ne1 : (onTheHeap (Value.ref D) && Value.builtin "BaseException.__getattribute__" == Value.builtin "object.__getattribute__") = false := by rw [ne2]; rfl
  have ne0 : (false && onTheHeap (Value.builtin "BaseException.__getattribute__")) = false := rfl
  unfold getAttr? getAttrBy? getAttrBy
  refine wpAny_bind (wpAny_mkText (wpAny_bind (wpAny_attempt (wpAny_holding (wpAny_bind (K0.at (wpAny_bind (K1.at ?_))))))))
  show wpAny _ _ (if (onTheHeap (Value.ref D) && Value.builtin "BaseException.__getattribute__" == Value.builtin "object.__getattribute__") = true then _ else _) _ _ _
  rw [ne1, if_neg Bool.false_ne_true]
  unfold getAttrByItsOwn hookBefore
  refine wpAny_bind ?_
  rw [if_pos (show onTheHeap (Value.ref D) = true from rfl)]
  refine K2.at (wpAny_bind (wpAny_attempt (wpAny_holding ?_)))
  unfold callGetattribute
  rw [ne0, if_neg Bool.false_ne_true]
  unfold boundAndCalled
  rw [F.excAttr_ValueError.ga.bind (.ref x)]
  refine wpAny_bind (wpAny_pure ?_)
  show wpAny _ _ (call (.builtin "BaseException.__getattribute__") [.ref x, .str "__class__" tk]) _ _ _
  refine wpAny_call (codeAny_call_builtin F.excAttr_ValueError.ga.plain F.entry_bexc_ga (@check_slot (model prog w) _ _ ⟨hp, gs, dr, tk + 1, os⟩ "BaseException.__getattribute__" "BaseException" "__getattribute__" (.ref x) [.str "__class__" tk] [] _ (by decide +kernel) (by decide +kernel) isB (F.args_bexc_ga (.ref x) (.str "__class__" tk)) ?_))
  unfold Builtin.«object.__getattribute__»
  refine wpAny_bind (wpAny_of_eq (a := ((Value.ref x : Value), [Value.str "__class__" tk])) (by first | rfl | (simp only [slotArgs]; rfl)) (wpAny_bind (wpAny_pure (wpAny_bind (K0.at (wpAny_bind (K3.at ?_)))))))
  show wpAny _ _ (holding [Value.builtin "object.__class__"] (call (.builtin "getset_descriptor.__get__") [.builtin "object.__class__", .ref x, .ref D]) >>= ret) _ _ _
  refine wpAny_bind (wpAny_holding (wpAny_call (class_get (s := ⟨hp, gs, dr, tk + 1, os⟩) (ox := ox) (od := od) X I T.hm (wpAny_pure ?_))))
  show wpAny _ _ (handedOut (.ref D)) _ _ _
  rw [handedOut_of (v := .ref D) rfl]
  first
    | exact wpAny_pure (wpAny_pure h)
    | exact wpAny_pure h
    | exact wpAny_pure (wpAny_bind (wpAny_pure (wpAny_pure h)))
theorem kit_err (T : L2.ExcC K D) : KitX K (.ref x) (.ref D) (fun h => ∃ ox od, InstAt h x ox D od) where
  ty := fun _ _ _ ⟨_, _, I⟩ => I.type
  it := by
    intro M h X _ A' Q' E' s' k q
    obtain ⟨cd, hc, _⟩ := any_some T.hd
    unfold clsIn at hc
    split at hc
    · rename_i _ _ _ _ ho
      unfold isType loadHead
      exact wpAny_bind (wpAny_loadPart (k _ _ (X _ _ ho)) (wpAny_pure q))
    · cases hc
  ne := by
    intro h tp dd its n sl X htp
    obtain ⟨cd, hc, _⟩ := any_some T.hd
    refine Bool.eq_false_iff.mpr fun q => ?_
    cases (Value.ref.inj (beq_iff_eq.mp q) : D = tp)
    unfold clsIn at hc
    split at hc
    · rename_i _ _ _ _ ho
      cases ((X _ _ ho).symm.trans htp)
    · cases hc
  ca := fun X ⟨_, _, I⟩ k => class_of_err T X I k
end
end Hx
namespace Hx
open PySem PySem.Spec PyProof.Rows L2
/-- the error at a, of the class at D, with a dict at d or with none, as the heap has it -/
def errAt (D a : Addr) (d : Option Addr) (oe : Obj) : Prop := Zc (.ref D) d oe ∧ ∃ vs, oe.data = .fields vs
/-- isinstance(e, c), e the error whose object is pinned -/
def rIsD (K : PySem.W.Frag) (D a : Addr) (d : Option Addr) : List V → Hp → VK → Prop := fun xs H Q => ∃ (c : V) (cv : Value) (b : Bool), xs = [.ref a, c] ∧ ClsV c cv ∧ (∀ z, d = some z → ∃ fs, H z = some (.xd fs)) ∧ PySem.W.kitOne K (.ref D) cv = some b ∧ Q (.bl b) H
def rIsDT (K : PySem.W.Frag) (D a : Addr) (d : Option Addr) : List V → Hp → VK → Prop := fun xs H Q => ∃ (tp : Addr) (cs : List V) (us : List Value) (b : Bool), xs = [.ref a, .ref tp] ∧ H tp = some (.tup cs) ∧ Paired ClsV cs us ∧ (∀ z, d = some z → ∃ fs, H z = some (.xd fs)) ∧
  PySem.W.kitAny K (.ref D) us = some b ∧ Q (.bl b) H
section
variable {X : Cx} {a D : Addr} {d : Option Addr} {oe : Obj}
theorem inst_err {pins : List (Addr × Obj)} {σ : L2.St} {H : Hp} {s : Shared} (I : Inv X pins σ H s) (hp : (a, oe) ∈ X.pn ++ pins) (he : errAt D a d oe) (hd : ∀ z, d = some z → ∃ fs, H z = some (.xd fs)) :
    ∃ ox od, PySem.W.InstAt s.heap a ox D od := by
  obtain ⟨hget, _⟩ := I.pin (a, oe) hp
  obtain ⟨⟨h1, h2⟩, vs, hv⟩ := he
  obtain ⟨oc, odd, oda, osl⟩ := oe
  dsimp only at h1 h2 hv
  subst h1 h2 hv
  cases odd with
  | none => exact ⟨_, none, hget, rfl, rfl, trivial⟩
  | some z =>
    obtain ⟨fs, hz⟩ := hd z rfl
    obtain ⟨mA, ⟨o, es, ep, e1, e2⟩, _⟩ := (show ObjOk X.prog X.w H s.heap z (.xd fs) from I.hok z _ hz)
    exact ⟨_, some o, hget, rfl, rfl, e1⟩
theorem call_isD (T : ExcC X.K D) (hp : (a, oe) ∈ X.pn) (he : errAt D a d oe) : CallR X (.builtin "isinstance") (rIsD X.K D a d) := by
  intro pins s σ H xs us Q I r h
  obtain ⟨c, cv, b, rfl, k, hd, e, q⟩ := h
  obtain ⟨u1, u2, rfl, r1, r2⟩ := vals2 r
  cases (show u1 = Value.ref a from r1)
  cases k.eq r2
  exact PySem.W.kia_one (kit_err T) I.kIn (inst_err I (List.mem_append_left _ hp) he hd) e (fun z => nomatch z) fun tk => ⟨.bl b, H, I.tok tk, rfl, q⟩
theorem call_isDT (T : ExcC X.K D) (hp : (a, oe) ∈ X.pn) (he : errAt D a d oe) : CallR X (.builtin "isinstance") (rIsDT X.K D a d) := by
  intro pins s σ H xs us Q I r h
  obtain ⟨tp, cs, ws, b, rfl, hT, k, hd, e, q⟩ := h
  obtain ⟨u1, u2, rfl, r1, r2⟩ := vals2 r
  cases (show u1 = Value.ref a from r1)
  cases (show u2 = Value.ref tp from r2)
  obtain ⟨_, its, rv, o, h1, h2, n, h3⟩ := (show ObjOk X.prog X.w H s.heap tp (.tup cs) from I.hok tp _ hT)
  cases ClsV.all k rv
  obtain ⟨oc, odd, dt, sl⟩ := o
  simp only at h2 h3
  subst h2 h3
  exact PySem.W.kia_tup (kit_err T) I.kIn (inst_err I (List.mem_append_left _ hp) he hd) h1 e (fun z => nomatch z) fun tk => ⟨.bl b, H, I.tok tk, rfl, q⟩
end
end Hx
namespace Hx
open PySem PySem.Spec PyProof.Rows L2
/-- what the base class of the errors must have, at D -/
structure BaseT (K : PySem.W.Frag) (mg : Str → Option Value) (D : Addr) : Prop where
  gB : mg "HeapError" = some (.ref D)
  rdB : ClX.CRead K D (.type "type")
  fcB : PySem.W.findCls K (.ref D) (.type "type") "__init__" = some (.val (.builtin "ValueError.__init__"))
/-- __init__ without, with one, with three fields -/
def spI0 (K : PySem.W.Frag) : Sp := fun vs H Q _ => ∃ (a C : Addr), vs = [.ref a] ∧ OexC K C ∧ H a = some (exo a C none) ∧ Q .non H
def spI1 (K : PySem.W.Frag) (f : Str) : Sp := fun vs H Q _ => ∃ (a C : Addr) (v : V), vs = [.ref a, v] ∧ OexC K C ∧ PySem.W.findIn K (.ref C) f = some none ∧ H a = some (exo a C none) ∧
  ∀ d, H d = none → d ≠ a → Q .non (upd (upd H d (exd d [(f, v)])) a (exo a C (some d)))
def spI3 (K : PySem.W.Frag) (f g k : Str) : Sp := fun vs H Q _ => ∃ (a C : Addr) (u v z : V), vs = [.ref a, u, v, z] ∧ OexC K C ∧ PySem.W.findIn K (.ref C) f = some none ∧ PySem.W.findIn K (.ref C) g = some none ∧ PySem.W.findIn K (.ref C) k = some none ∧
  H a = some (exo a C none) ∧ ∀ d, H d = none → d ≠ a → Q .non (upd (upd (upd (upd H d (exd d [(f, u)])) a (exo a C (some d))) d (exd d [(g, v), (f, u)])) d (exd d [(k, z), (g, v), (f, u)]))
end Hx
/-! ## raising such errors -/
namespace Hx
open PySem PySem.Spec PyProof.Rows L2
/-- what is known of an error class: its name x, at C, its __init__ at fI -/
structure ExT (K : PySem.W.Frag) (mg : Str → Option Value) (x : Str) (C fI : Addr) : Prop where
  oex : OexC K C
  gC : mg x = some (.ref C)
  iC : PySem.W.findIn K (.ref C) "__init__" = some (some (.ref fI))
  tI : PySem.W.typeIn K (.ref fI) = some (.type "function")
theorem drop_new {H1 : Hp} {a d C : Addr} {fs gs : List (Str × V)} (na : H1 a = none) (nad : d ≠ a) :
    upd (del (upd (upd H1 d (exd d fs)) a (exo a C (some d))) a) d (.xd gs) = upd H1 d (.xd gs) := by
  funext b
  by_cases hb : b = d
  · rw [hb, upd_same, upd_same]
  · rw [upd_ne hb, upd_ne hb]
    by_cases ha : b = a
    · rw [ha, del_same, na]
    · rw [del_ne ha, upd_ne ha, upd_ne hb]
theorem mk1 {K : PySem.W.Frag} {H1 : Hp} {C : Addr} {f : Str} {v : V} {Q : XK} (T : OexC K C) (nf : PySem.W.findIn K (.ref C) f = some none) (h : ∀ d, H1 d = none → Q (.ref C) (some d) (upd H1 d (.xd [(f, v)]))) :
    ([v] : List V).length ≤ 1000 ∧ ∀ a, H1 a = none → spI1 K f (.ref a :: ([v] ++ [])) (upd H1 a (exo a C none))
      (fun r H2 => r = .non ∧ ∃ (d : Addr) (fs : List (Str × V)), H2 a = some (exo a C (some d)) ∧ H2 d = some (exd d fs) ∧ H1 d = none ∧ Q (.ref C) (some d) (upd (del H2 a) d (.xd fs))) (fun _ _ _ => False) := by
  refine ⟨by show 1 ≤ 1000; decide, fun a na => ⟨a, C, v, rfl, T, nf, upd_same, fun d nd ne => ⟨rfl, d, [(f, v)], upd_same, ?_, ?_, ?_⟩⟩⟩
  · rw [upd_ne ne, upd_same]
  · rw [upd_ne ne] at nd
    exact nd
  · rw [upd_ne ne] at nd
    have e : upd (del (upd (upd (upd H1 a (exo a C none)) d (exd d [(f, v)])) a (exo a C (some d))) a) d (.xd [(f, v)]) = upd H1 d (.xd [(f, v)]) := by
      funext b
      by_cases hb : b = d
      · rw [hb, upd_same, upd_same]
      · rw [upd_ne hb, upd_ne hb]
        by_cases ha : b = a
        · rw [ha, del_same, na]
        · rw [del_ne ha, upd_ne ha, upd_ne hb, upd_ne ha]
    rw [e]
    exact h d nd
theorem mk3 {K : PySem.W.Frag} {H1 : Hp} {C : Addr} {f g k : Str} {u v z : V} {Q : XK} (T : OexC K C) (n1 : PySem.W.findIn K (.ref C) f = some none) (n2 : PySem.W.findIn K (.ref C) g = some none) (n3 : PySem.W.findIn K (.ref C) k = some none)
    (h : ∀ d, H1 d = none → Q (.ref C) (some d) (upd H1 d (.xd [(k, z), (g, v), (f, u)]))) :
    ([u, v, z] : List V).length ≤ 1000 ∧ ∀ a, H1 a = none → spI3 K f g k (.ref a :: ([u, v, z] ++ [])) (upd H1 a (exo a C none))
      (fun r H2 => r = .non ∧ ∃ (d : Addr) (fs : List (Str × V)), H2 a = some (exo a C (some d)) ∧ H2 d = some (exd d fs) ∧ H1 d = none ∧ Q (.ref C) (some d) (upd (del H2 a) d (.xd fs))) (fun _ _ _ => False) := by
  refine ⟨by show 3 ≤ 1000; decide, fun a na => ⟨a, C, u, v, z, rfl, T, n1, n2, n3, upd_same, fun d nd ne => ⟨rfl, d, [(k, z), (g, v), (f, u)], ?_, upd_same, ?_, ?_⟩⟩⟩
  · rw [upd_ne ne.symm, upd_ne ne.symm, upd_same]
  · rw [upd_ne ne] at nd
    exact nd
  · rw [upd_ne ne] at nd
    have e : upd (del (upd (upd (upd (upd (upd H1 a (exo a C none)) d (exd d [(f, u)])) a (exo a C (some d))) d (exd d [(g, v), (f, u)])) d (exd d [(k, z), (g, v), (f, u)])) a) d (.xd [(k, z), (g, v), (f, u)]) = upd H1 d (.xd [(k, z), (g, v), (f, u)]) := by
      funext b
      by_cases hb : b = d
      · rw [hb, upd_same, upd_same]
      · rw [upd_ne hb, upd_ne hb]
        by_cases ha : b = a
        · rw [ha, del_same, na]
        · rw [del_ne ha, upd_ne hb, upd_ne hb, upd_ne ha, upd_ne hb, upd_ne ha]
    rw [e]
    exact h d nd
/-- C(), the error has no dict -/
def tMk0 (C : Addr) : L2.St → Hp → XK → Prop := fun _ H Q => Q (.ref C) none H
section
variable {X : Cx} {p pos : Pos}
theorem pmk_none {x : Str} {C fI : Addr} {k : Nat} {fd : FuncData} (T : ExT X.K X.mg x C fI) (F1 : FnOk X.prog X.w X.K X.mg X.base CX0 k fI fd ["self"] (spI0 X.K)) (hr : Room (k + 1) X.A) (hb : Binds X.K fd ["self"] []) (hg : Gl X x := by rfl)
    (hdb : (x == ("__debug__" : Str)) = false := by decide) : PMk X (.Call (.Name x p) [] [] pos) (tMk0 C) := by
  intro pins s σ H Q I h
  obtain ⟨nm, q, N, bs, bm, sn, sub, ab, col, dd, k0, k1, k2, k3, k5, hC, hbm⟩ := T.oex.cls
  refine wpAny_Call_Name_kw (ld_glob I hg T.gC ?_ hdb)
  refine PySem.W.callWith_K0 I.kIn T.oex.kC ?_
  show wpAny _ _ (call (.ref C) []) _ _ _
  obtain ⟨hp, g, dr, tk, os⟩ := s
  have na : H (hp.objs.size + 1) = none := I.hok.fresh (Nat.le_succ _)
  have stay : ∀ b o, hp.get? b = some o → ((hp.push (PySem.W.kdv_tup [])).push (PySem.HandSPX.excO C hp.objs.size)).get? b = some o := fun b o e => Heap.get?_push_of_some _ (Heap.get?_push_of_some _ e)
  have atE : ((hp.push (PySem.W.kdv_tup [])).push (PySem.HandSPX.excO C hp.objs.size)).get? (hp.objs.size + 1) = some (PySem.HandSPX.excO C hp.objs.size) := by heap_get
  have I2 := I.laid (t' := tk) (a := hp.objs.size + 1) (o := exo (hp.objs.size + 1) C none) stay (Nat.le_succ _) (exo_ok atE)
  have hq : spI0 X.K [.ref (hp.objs.size + 1)] (upd H (hp.objs.size + 1) (exo (hp.objs.size + 1) C none)) (fun v H2 => v = .non ∧ H2 = upd H (hp.objs.size + 1) (exo (hp.objs.size + 1) C none)) (fun _ _ _ => False) :=
    ⟨_, C, rfl, T.oex, upd_same, rfl, rfl⟩
  have bd := hb _ [Value.ref (hp.objs.size + 1)] I2.kIn rfl
  refine wpAny_call (PySem.HandSPX.call_own F.excBase_ValueError (fun Y => PySem.HandSPX.refsVE_contains Y bm hbm) (I.kIn _ _ hC) (PySem.W.looks_findIn I.kIn T.iC) (fun self => PySem.W.bind_fn I.kIn self T.tI) (Nat.zero_le _)
    (codeAny_mono (F1.run _ X.stack _ _ ⟨[Value.ref (hp.objs.size + 1)], []⟩ [Value.ref (hp.objs.size + 1)] [V.ref (hp.objs.size + 1)] _ (fun _ _ _ => False) (hr.make C [] []) (I2.env0.make C [] []) bd (.cons (show L2.RelV (V.ref (hp.objs.size + 1)) (Value.ref (hp.objs.size + 1)) from rfl) .nil) hq) fun r s' hq' => ?_))
  cases r with
  | error er => exact hq'.elim
  | ok fl =>
    cases fl with
    | next => exact False.elim hq'
    | brk => exact False.elim hq'
    | cont => exact False.elim hq'
    | ret u =>
      obtain ⟨v, H2, os2, bare2, un, hok, rv, ev, eH⟩ := hq'
      subst ev eH
      obtain ⟨h2, g2, d2, t2, os'⟩ := s'
      have ea : upd H (hp.objs.size + 1) (exo (hp.objs.size + 1) C none) (hp.objs.size + 1) = some (exo (hp.objs.size + 1) C none) := upd_same
      obtain ⟨t0, hoe⟩ := exo_at hok ea
      obtain ⟨G, gi, gn⟩ := restrict h2 fun b => decide (b ≠ hp.objs.size + 1)
      have gk : ∀ b, b ≠ hp.objs.size + 1 → G.get? b = h2.get? b := fun b hb => gi b (decide_eq_true hb)
      have ge : G.get? (hp.objs.size + 1) = none := gn _ (by simp)
      have old : ∀ {b : Addr} {o : Obj}, hp.get? b = some o → b ≠ hp.objs.size + 1 := fun z => Nat.ne_of_lt (Nat.lt_succ_of_lt (Heap.lt_size z))
      have U : Un (frs X.stack) [] H H hp G := by
        refine ⟨fun b o z n hf hx => ?_, fun b o z n hf hx => ?_, fun b o z n _ => n, fun b o z hx => ?_, fun _ _ z => z, fun _ _ _ z => z, fun b ps z => ⟨#[], by rw [z]; simp⟩⟩
        · rw [gk b (old z)]; exact un.keep b o (stay b o z) (by rw [upd_ne (old z)]; exact n) hf hx
        · rw [gk b (old z)]; exact un.slot b o (stay b o z) (by rw [upd_ne (old z)]; exact n) hf hx
        · rw [gk b (old z)]; exact un.there b o (stay b o z) hx
      have hokG : HOk X.prog X.w H G := fun b o z => by
        have nb : b ≠ hp.objs.size + 1 := ne_of_none z na
        refine (hok b o (by rw [upd_ne nb]; exact z)).stay (fun c v hc y => ?_) (fun c hc => ?_) (fun c xs hc => ?_)
        · have nc : c ≠ hp.objs.size + 1 := by
            rcases hc with hc | hc
            · rw [hc]; exact nb
            · exact at_ne ea hc exo_own
          rw [gk c nc]; exact y
        · have nc := at_ne ea hc exo_own
          rw [upd_ne nc] at hc; exact hc
        · have nc := at_ne ea hc exo_tup
          rw [upd_ne nc] at hc; exact hc
      have J : Inv X pins σ H ⟨G, g2, d2, t2, os'⟩ := I.call' (ch := []) os2 U hokG bare2 (fun b z => absurd z (by simp))
      refine ⟨rv, hp.objs.size + 1, _, _, ⟨G, g2, d2, t2, os'⟩, H, .ref C, none, rfl, J, fun b o z => ?_, ge, hoe, ⟨rfl, rfl⟩, rfl, rfl, na, rfl, bare2, raises_own T.oex.exC T.oex.tyC, h⟩
      by_cases hb : b = hp.objs.size + 1
      · rw [hb, ge] at z; cases z
      · exact (gk b hb).symm.trans z
end
end Hx
/-! ## The bag of draws -/
namespace Hx
open PySem PySem.Spec PyProof.Rows L2
abbrev kC : Key := Sum.inr ("cells" : Str)
abbrev kA : Key := Sum.inr ("at" : Str)
abbrev kD : Key := Sum.inr ("digits" : Str)
abbrev kN : Key := Sum.inr ("count" : Str)
abbrev kF : Key := Sum.inr ("fold" : Str)
def bagK (l : Addr) (i dg ct fd : Int) : List (Key × V) := [(kC, .ref l), (kA, .int i), (kD, .int dg), (kN, .int ct), (kF, .int fd)]
theorem nCA : ¬ kC = kA := by decide +kernel
theorem nCD : ¬ kC = kD := by decide +kernel
theorem nCN : ¬ kC = kN := by decide +kernel
theorem nCF : ¬ kC = kF := by decide +kernel
theorem nAD : ¬ kA = kD := by decide +kernel
theorem nAN : ¬ kA = kN := by decide +kernel
theorem nAF : ¬ kA = kF := by decide +kernel
theorem nDN : ¬ kD = kN := by decide +kernel
theorem nDF : ¬ kD = kF := by decide +kernel
theorem nNF : ¬ kN = kF := by decide +kernel
theorem strN {x y : Str} (h : ¬ (Sum.inr x : Key) = Sum.inr y) : ¬ x = y := fun e => h (by rw [e])
theorem strN' {x y : Str} (h : ¬ (Sum.inr x : Key) = Sum.inr y) : ¬ y = x := fun e => h (by rw [e])
section
variable (l : Addr) (i dg ct fd z : Int)
theorem gC : valV (bagK l i dg ct fd) kC = some (.ref l) := valV_pos rfl
theorem gA : valV (bagK l i dg ct fd) kA = some (.int i) := by unfold bagK; rw [valV_neg nCA, valV_pos rfl]
theorem gD : valV (bagK l i dg ct fd) kD = some (.int dg) := by unfold bagK; rw [valV_neg nCD, valV_neg nAD, valV_pos rfl]
theorem gN : valV (bagK l i dg ct fd) kN = some (.int ct) := by unfold bagK; rw [valV_neg nCN, valV_neg nAN, valV_neg nDN, valV_pos rfl]
theorem gF : valV (bagK l i dg ct fd) kF = some (.int fd) := by unfold bagK; rw [valV_neg nCF, valV_neg nAF, valV_neg nDF, valV_neg nNF, valV_pos rfl]
theorem pA : putK (bagK l i dg ct fd) kA (.int z) = bagK l z dg ct fd := by
  unfold putK
  rw [valV_any, gA, Option.isSome_some, if_pos rfl]
  simp [bagK, strN nCA, strN' nAD, strN' nAN, strN' nAF]
theorem pD : putK (bagK l i dg ct fd) kD (.int z) = bagK l i z ct fd := by
  unfold putK
  rw [valV_any, gD, Option.isSome_some, if_pos rfl]
  simp [bagK, strN nCD, strN nAD, strN' nDN, strN' nDF]
theorem pN : putK (bagK l i dg ct fd) kN (.int z) = bagK l i dg z fd := by
  unfold putK
  rw [valV_any, gN, Option.isSome_some, if_pos rfl]
  simp [bagK, strN nCN, strN nAN, strN nDN, strN' nNF]
theorem pF : putK (bagK l i dg ct fd) kF (.int z) = bagK l i dg ct z := by
  unfold putK
  rw [valV_any, gF, Option.isSome_some, if_pos rfl]
  simp [bagK, strN nCF, strN nAF, strN nDF, strN nNF]
end
/-- a bag stands at p, n draws were taken -/
def Bag (H : Hp) (p : Addr) (n : Nat) : Prop := ∃ (l : Addr) (ns : List Int) (i dg fd : Int), H p = some (.dK (bagK l i dg (n : Int) fd)) ∧ H l = some (.lst (ns.map V.int)) ∧ ns.length ≤ 63 ∧ 0 ≤ i ∧ 0 ≤ dg ∧ 0 ≤ fd ∧ fd < 2147483587
theorem Bag.keep {H H' : Hp} {p : Addr} {n : Nat} (b : Bag H p n) (e : Same H H') : Bag H' p n := by
  obtain ⟨l, ns, i, dg, fd, h1, h2, q⟩ := b
  exact ⟨l, ns, i, dg, fd, e _ _ h1, e _ _ h2, q⟩
theorem Bag.at {H : Hp} {p : Addr} {n : Nat} (b : Bag H p n) : ∃ o, H p = some o := by
  obtain ⟨l, ns, i, dg, fd, h1, _⟩ := b
  exact ⟨_, h1⟩
/-- all but p as it was -/
def But (p : Addr) (H H' : Hp) : Prop := ∀ b o, b ≠ p → H b = some o → H' b = some o
theorem But.refl (p : Addr) (H : Hp) : But p H H := fun _ _ _ e => e
theorem But.trans {p : Addr} {H H1 H2 : Hp} (a : But p H H1) (b : But p H1 H2) : But p H H2 := fun c o n e => b c o n (a c o n e)
theorem Same.but {p : Addr} {H H' : Hp} (e : Same H H') : But p H H' := fun b o _ h => e b o h
theorem But.upd {p : Addr} {H : Hp} {o : HO} : But p H (upd H p o) := fun b u n e => by rw [upd_ne n]; exact e
theorem But.free {p : Addr} {H H' : Hp} {n : Nat} (e : But p H H') (b : Bag H' p n) {x : Addr} (h : H' x = none) : H x = none := by
  cases q : H x with
  | none => rfl
  | some o =>
    by_cases z : x = p
    · obtain ⟨u, hu⟩ := b.at
      rw [z, hu] at h
      cases h
    · rw [e x o z q] at h
      cases h
theorem new_same {H : Hp} {p : Addr} {o : HO} (h : H p = none) : Same H (upd H p o) := fun b u q => by rw [upd_ne (ne_of_none q h)]; exact q
/-- _law_draw -/
def spDraw : Sp := fun vs H Q _ => ∃ (p : Addr) (n : Nat) (m : Int), vs = [.ref p, .int m] ∧ Bag H p n ∧ n ≤ 1000000 ∧ 0 < m ∧ m.natAbs < 2 ^ 8000 ∧
  ∀ (r : Int) (H' : Hp), 0 ≤ r → r < m → Bag H' p (n + 1) → But p H H' → Q (.int r) H'
/-- _law_bag -/
def spBag (K : PySem.W.Frag) : Sp := fun vs H Q _ => ∃ (a : Addr) (ns : List Int), vs = [.ref a] ∧ SqL K H a (ns.map V.int) ∧ ns.length ≤ 63 ∧
  ∀ (p : Addr) (H' : Hp), H p = none → Same H H' → Bag H' p 0 → Q (.ref p) H'
/-- built-ins that the draws use -/
structure BltT (mg : Str → Option Value) : Prop where
  int : mg "int" = none
  list : mg "list" = none
  len : mg "len" = none
theorem big17 {x : Int} (h0 : 0 ≤ x) (h : x < 18446744073709551616) : 0 ≤ (17 : Int) ∧ (17 : Int) ≤ 1000000 ∧ x.natAbs < 2 ^ 64 := ⟨by decide, by decide, by omega⟩
end Hx
/-! ## An error class with all that is asked of it -/
namespace Hx
open PySem PySem.Spec PyProof.Rows L2
structure ClT (K : PySem.W.Frag) (mg : Str → Option Value) (x qual : Str) (st : Stmt) (ps fl : List Str) (C fI : Addr) : Prop where
  ex : ExT K mg x C fI
  fn : ∃ fd, Fun K "__init__" qual st fI fd ∧ Binds K fd ps []
  nf : ∀ f ∈ fl, PySem.W.findIn K (.ref C) f = some none
  xf : XfC K C
  is : ExcC K C
/-- how an error that was made from a, b, c leaves: field f of the class at C -/
def err1 (C : Addr) (f : Str) (a : V) (H : Hp) (E : XK) : Prop := ∀ d, H d = none → E (.ref C) (some d) (upd H d (.xd [(f, a)]))
def err3 (C : Addr) (f g k : Str) (a b c : V) (H : Hp) (E : XK) : Prop := ∀ d, H d = none → E (.ref C) (some d) (upd H d (.xd [(k, c), (g, b), (f, a)]))
section
variable {X : Cx} {e : Expr} {es : List Expr} {ta : TA} {p pos pos2 : Pos} {W : WX}
/-- raise C(..) -/
def tRz (C : Addr) (sp : Sp) (W : WX) (ta : TA) : TS := fun _ σ H => tMkO C sp [] ta σ H fun cls d H' => W cls d σ H'
theorem rd1 {K : PySem.W.Frag} {C : Addr} {f : Str} {i : Nat} {W : WX} {D : Ends} {σ : L2.St} {H : Hp} {v : V} (T : OexC K C) (nf : PySem.W.findIn K (.ref C) f = some none) (hi : σ[i]? = some (some v)) (h : err1 C f v H fun cls d H' => W cls d σ H') :
    tRz C (spI1 K f) W (tCons (tVar i) tNil) D σ H := ⟨v, hi, mk1 (Q := fun cls d H' => W cls d σ H') T nf h⟩
theorem rd3 {K : PySem.W.Frag} {C : Addr} {f g h : Str} {i j k : Nat} {W : WX} {D : Ends} {σ : L2.St} {H : Hp} {u v z : V} (T : OexC K C) (n1 : PySem.W.findIn K (.ref C) f = some none) (n2 : PySem.W.findIn K (.ref C) g = some none) (n3 : PySem.W.findIn K (.ref C) h = some none)
    (hi : σ[i]? = some (some u)) (hj : σ[j]? = some (some v)) (hk : σ[k]? = some (some z)) (q : err3 C f g h u v z H fun cls d H' => W cls d σ H') :
    tRz C (spI3 K f g h) W (tCons (tVar i) (tCons (tVar j) (tCons (tVar k) tNil))) D σ H := ⟨u, hi, v, hj, z, hk, mk3 (Q := fun cls d H' => W cls d σ H') T n1 n2 n3 q⟩
theorem ps_rz {x qual : Str} {st : Stmt} {ps fl : List Str} {sp : Sp} {C fI : Addr} (hc : X.calm = true) (tk : Takes X W) (T : ClT X.K X.mg x qual st ps fl C fI) (ok : ∀ fd, Fun X.K "__init__" qual st fI fd → FnOk X.prog X.w X.K X.mg X.base CX0 1 fI fd ps sp) (hr : Room 2 X.A)
    (ha : PA X (e :: es) ta) (hg : Gl X x := by rfl) (hdb : (x == ("__debug__" : Str)) = false := by decide) (hs : starEach (e :: es) X.env = (false, eval e X.env) :: starEach es X.env := by rfl) (hp : (backTo pos (starEach es X.env)).any (·.1) = false := by rfl) :
    PS X (.Raise (some (.Call (.Name x p) (e :: es) [] pos)) none pos2) (tRz C sp W ta) := by
  obtain ⟨fd, F, b⟩ := T.fn
  exact ps_raise hc tk (pmk_oex T.ex.oex T.ex.iC T.ex.tI (ok fd F) hr b .nil pass0 hg T.ex.gC ha hdb hs hp)
/-- raise C() -/
def tR0 (C : Addr) (W : WX) : TS := fun _ σ H => W (.ref C) none σ H
theorem ps_r0 {x qual : Str} {st : Stmt} {C fI : Addr} (hc : X.calm = true) (tk : Takes X W) (T : ClT X.K X.mg x qual st ["self"] [] C fI) (ok : ∀ fd, Fun X.K "__init__" qual st fI fd → FnOk X.prog X.w X.K X.mg X.base CX0 1 fI fd ["self"] (spI0 X.K)) (hr : Room 2 X.A) (hg : Gl X x := by rfl)
    (hdb : (x == ("__debug__" : Str)) = false := by decide) : PS X (.Raise (some (.Call (.Name x p) [] [] pos)) none pos2) (tR0 C W) := by
  obtain ⟨fd, F, b⟩ := T.fn
  exact ps_raise hc tk (pmk_none T.ex (ok fd F) hr b hg hdb)
end
end Hx
/-! ## A def that is handed the error that its caller's suite holds -/
namespace Hx
open PySem PySem.Spec PyProof.Rows L2
/-- as FnOk, while an error is handled; its object p stands still and may be looked at -/
structure FnP (P : Program) (w : World) (K : PySem.W.Frag) (mg : Str → Option Value) (base : Heap) (k : Nat) (f : Addr) (fd : FuncData) (ps : List Str) (sp : Addr × Obj → Sp) : Prop where
  len : ∀ p vs H Q E, sp p vs H Q E → vs.length = ps.length
  run : ∀ (p : Addr × Obj) (A : Around) (outer : List Env) (s : Shared) (H : Hp) (args : Args) (us : List Value) (vs : List V) (Q : VK) (E : XK), L2H.RoomH k A → L2H.PinOk outer H s p → Env0 P w K mg base A outer s H → BindsTo s fd args (ps.zip us) → Vals vs us → sp p vs H Q E →
    codeAny (model P w) A (.call (.ref f) args) (CR CX0 outer P w H s Q E) s
theorem fnP_of {P : Program} {w : World} {K : PySem.W.Frag} {mg : Str → Option Value} {base : Heap} {k : Nat} {x qual : Str} {st : Stmt} {f : Addr} {fd : FuncData} {N ps : List Str} {sp : Addr × Obj → Sp} (F : Fun K x qual st f fd) (S : FnScope N ps (defScope st)) (ln : ∀ p vs H Q E, sp p vs H Q E → vs.length = ps.length)
    (hb : ∀ (p : Addr × Obj) (cdv : Value) (A : Around) (outer : List Env) (s : Shared) (H : Hp) (vs : List V) (Q : VK) (E : XK), L2H.RoomH k (A.deeper (envOfC qual (defScope st) s.heap.objs.size f cdv)) → sp p vs H Q E →
      ∃ t, PSs (L2H.cxH CX0 P w K mg base N qual (defScope st) f cdv A outer s H E p).nox (defBody st) t ∧ t { nx := fun _ G => Q .non G, rt := Q } (L2.start N vs) H) : FnP P w K mg base (k + 1) f fd ps sp := by
  obtain ⟨oc, od, kV, doc, pm, an, cdv, ct, osl, rfl, lk, hcd⟩ := F.ex
  constructor
  · exact ln
  intro p A outer s H args us vs Q E hr pin e0 bd rv hsp
  have KX : K.In s.heap := e0.mod.kin.keeps fun b o z => (e0.bs b o z).1
  refine codeAny_call_function hr.depth (KX _ _ lk) rfl S.co S.gen rfl (PySem.W.codeRec_of KX hcd) (bd _ _ _ _ (wpAny_newFunctionEnv_cells S.kind ?_ fun env he t1 ic => ?_))
  · rintro ⟨n, v⟩ hy
    rcases S.par n (List.of_mem_zip hy).1 with z | z
    · exact .inl z
    · exact .inr ⟨z, PySem.W.cellsFrom_some _ _ _ (.inl z)⟩
  subst he
  refine ⟨(e0.mod.nolimit.keeps fun b o z => (e0.bs b o z).1).keeps ic.toInCall.keep, codeAny_func ?_⟩
  obtain ⟨t, ht, hq⟩ := hb p cdv A outer s H vs Q E (hr.deeper _) hsp
  have I := L2H.inv_startH (CX := CX0) (E := E) S pin e0 (ln _ _ _ _ _ hsp) rv ic
  refine wpAny_mono (ht.nox.run [] t1 _ H _ I hq) (fun fl s' hs => ?_) fun _ _ z => z
  cases fl with
  | ret u => obtain ⟨v, ρ, G, J, r, q⟩ := hs; exact ⟨v, G, J.os, J.bare, J.base, J.hok, r, q⟩
  | next => obtain ⟨ρ, G, J, q⟩ := hs; exact ⟨.non, G, J.os, J.bare, J.base, J.hok, rfl, q⟩
  | brk => obtain ⟨ρ, G, J, z⟩ := hs; exact False.elim z
  | cont => obtain ⟨ρ, G, J, z⟩ := hs; exact False.elim z
section
variable {X : Cx} {k : Nat} {f : Addr} {fd : FuncData} {ps : List Str} {sp : Addr × Obj → Sp} {x : Str} {q pos : Pos} {e : Expr} {es : List Expr} {t : TA} {p : Addr × Obj}
theorem pe_callP (F : FnP X.prog X.w X.K X.mg X.base k f fd ps sp) (hp : p ∈ X.pn) (hr : L2H.RoomH k X.A) (hm : X.mg x = some (.ref f)) (hk : PySem.W.keepIn X.K (.ref f) = true) (hb : Binds X.K fd ps []) (ha : PA X (e :: es) t) (hg : Gl X x := by rfl)
    (hdb : (x == ("__debug__" : Str)) = false := by decide) (h1 : starEach (e :: es) X.env = (false, eval e X.env) :: starEach es X.env := by rfl) (h2 : (backTo pos (starEach es X.env)).any (·.1) = false := by rfl) :
    PE X (.Call (.Name x q) (e :: es) [] pos) (tCallS (sp p) (fun _ _ _ _ => False) t) := by
  constructor
  intro pins s σ H Q I h
  refine wpAny_Call_Name_kw (ld_glob I hg hm ?_ hdb)
  refine PySem.W.callWith_K (h₀ := X.base) I.ok.mod.kin hk (thn (ha.run pos pins s σ H _ I h) ?_) h1 h2
  rintro us s1 ⟨vs, H1, I1, r, hsp⟩
  refine ⟨I1.kIn, ?_⟩
  have hl : us.length = ps.length := by rw [← r.length]; exact F.len _ _ _ _ _ hsp
  have bd := hb s1 us I1.kIn (by rw [List.append_nil]; exact hl)
  rw [List.append_nil] at bd
  have pn := I1.pin p (List.mem_append_left _ hp)
  have pin : L2H.PinOk X.stack H1 s1 p := ⟨pn.1, pn.2.1, fun hm => (List.mem_cons.mp (I1.stkSub p.1 hm)).elim pn.2.2.1 pn.2.2.2.1, pn.2.2.2.2⟩
  refine wpAny_call (codeAny_mono (F.run p X.A X.stack s1 H1 ⟨us, []⟩ us vs Q (fun _ _ _ => False) hr pin I1.env0 bd r hsp) fun r s' hq => ?_)
  cases r with
  | error er => exact hq.elim
  | ok fl =>
    cases fl with
    | ret u => exact I1.after hq
    | next => exact False.elim hq
    | brk => exact False.elim hq
    | cont => exact False.elim hq
end
end Hx
/-! ## What the top has written, told by two answers -/
namespace Hx
open PySem PySem.Spec PyProof.Rows L2
/-- what is asked of the error class at C, of its __init__ at f, of its fields -/
def clsB (K : PySem.W.Frag) (C f : Addr) (fl : List Str) : Bool :=
  decide (PySem.W.findIn K (.ref C) "__setattr__" = some (some (.builtin "object.__setattr__"))) && (decide (PySem.W.findIn K (.ref C) "__getattribute__" = some (some (.builtin "BaseException.__getattribute__"))) &&
  (decide (PySem.W.findIn K (.ref C) "__getattr__" = some none) && (decide (PySem.W.subIn K (.ref C) (.type "BaseException") = some true) && (decide (PySem.W.typeIn K (.ref C) = some (.type "type")) && (PySem.W.hasDictIn K C && (PySem.W.keepIn K (.ref C) &&
  (decide (PySem.W.findIn K (.ref C) "__class__" = some (some (.builtin "object.__class__"))) && (decide (PySem.W.specialIn K (.builtin "object.__class__") "__get__" = some (some (.builtin "getset_descriptor.__get__"))) && (decide (PySem.W.takesIn K (.builtin "object.__class__") = some true) &&
  (decide (PySem.W.mroIn K C (.type "object") = some true) && (decide (PySem.W.findIn K (.ref C) "__init__" = some (some (.ref f))) && (decide (PySem.W.typeIn K (.ref f) = some (.type "function")) && fl.all fun x => decide (PySem.W.findIn K (.ref C) x = some none)))))))))))))
theorem cl_mk {K : PySem.W.Frag} {h : Heap} {mg : Str → Option Value} {x qual : Str} {st : Stmt} {ps fl : List Str} {C f D : Addr} (X : K.In h) (G : h.Ns mainGlobals mg) (aC : PySem.W.nsIn K mainGlobals x = some (some (.ref C))) {nm q : Str} {N : Addr} {bs : List Value} {sn : List Str} {sub : List Value} {ab : Bool} {col : Option Bool} {dd : Option Addr} {m0 m1 m2 m3 m5 : Option Value}
    (xL : K.lookup C = some (excClassObj nm q C N bs [.ref D, .type "ValueError", .type "Exception", .type "BaseException", .type "object"] true sn sub ab col dd m0 m1 m2 m3 m5 "ValueError.__new__")) {oc : Value} {od an : Option Addr} {osl : Array (Option Value)} {kV doc pm cdv ct : Value}
    (lf : K.lookup f = some ⟨oc, od, .func (PySem.W.fnOf "__init__" qual (defArgs st) (defBody st) (defScope st) .none kV doc pm an cdv ct), osl⟩) (cf : PySem.W.codeIn K cdv qual = true) (kf : PySem.W.keepIn K (.ref f) = true)
    (hb : ∀ (kV doc pm : Value) (an : Option Addr) (cdv ct : Value) (us : List Value), us.length = ps.length → bindArgs (PySem.W.fnOf "__init__" qual (defArgs st) (defBody st) (defScope st) .none kV doc pm an cdv ct) ⟨us, []⟩ = pure (ps.zip us)) (b : clsB K C f fl = true) :
    ClT K mg x qual st ps fl C f := by
  unfold clsB at b
  simp only [Bool.and_eq_true, decide_eq_true_eq, List.all_eq_true] at b
  obtain ⟨sa, ga, gg, eC, tC, hC, kC, cc, cn, ct', mo, iC, tI, nf⟩ := b
  have F := fun_mk (st := st) lf cf kf
  exact ⟨⟨⟨⟨nm, q, N, bs, _, sn, sub, ab, col, dd, m0, m1, m2, m3, m5, xL, by rfl⟩, sa, eC, tC, kC⟩, PySem.W.mg_of X G aC, iC, tI⟩, ⟨_, F, F.binds hb⟩, nf, ⟨ga, gg, eC, hC⟩, ⟨ga, gg, eC, hC, cc, cn, ct', mo⟩⟩
/-- which error is of which class -/
def pairsB (K : PySem.W.Frag) (D : Addr) (Cs : List Addr) : Bool := (List.range Cs.length).all fun j => decide (PySem.W.exmOne K (.ref (Cs.getD j 0)) (.ref D) = some true) && (decide (PySem.W.kitOne K (.ref (Cs.getD j 0)) (.type "ValueError") = some true) && (List.range Cs.length).all fun k =>
  decide (PySem.W.exmOne K (.ref (Cs.getD j 0)) (.ref (Cs.getD k 0)) = some (decide (j = k))) && decide (PySem.W.kitOne K (.ref (Cs.getD j 0)) (.ref (Cs.getD k 0)) = some (decide (j = k))))
theorem pairs_of {K : PySem.W.Frag} {D : Addr} {Cs : List Addr} (b : pairsB K D Cs = true) {j : Nat} (hj : j < Cs.length) : PySem.W.exmOne K (.ref (Cs.getD j 0)) (.ref D) = some true ∧ PySem.W.kitOne K (.ref (Cs.getD j 0)) (.type "ValueError") = some true ∧
    ∀ k, k < Cs.length → PySem.W.exmOne K (.ref (Cs.getD j 0)) (.ref (Cs.getD k 0)) = some (decide (j = k)) ∧ PySem.W.kitOne K (.ref (Cs.getD j 0)) (.ref (Cs.getD k 0)) = some (decide (j = k)) := by
  unfold pairsB at b
  rw [List.all_eq_true] at b
  have z := b j (List.mem_range.mpr hj)
  simp only [Bool.and_eq_true, decide_eq_true_eq, List.all_eq_true] at z
  exact ⟨z.1, z.2.1, fun k hk => z.2.2 k (List.mem_range.mpr hk)⟩
end Hx

/-! ## Dicts whose keys are nested tuples and whose values are True -/
namespace Nd
open PySem PySem.Spec PyProof.Rows L2
mutual
/-- the value is such a key -/
inductive NV (K : PySem.W.Frag) (H : Hp) : V → NestedKey → Prop
  | non : NV K H .non .none
  | int (i : Int) : NV K H (.int i) (.num i)
  | str (x : Str) : NV K H (.str x) (.text x)
  | tup {a : Addr} {xs : List V} {ks : List NestedKey} : SqT K H a xs → NVs K H xs ks → NV K H (.ref a) (.tup ks)
inductive NVs (K : PySem.W.Frag) (H : Hp) : List V → List NestedKey → Prop
  | nil : NVs K H [] []
  | cons {x : V} {xs : List V} {k : NestedKey} {ks : List NestedKey} : NV K H x k → NVs K H xs ks → NVs K H (x :: xs) (k :: ks)
end
theorem sqt_same {K : PySem.W.Frag} {H H' : Hp} {a : Addr} {xs : List V} (e : Same H H') (h : SqT K H a xs) : SqT K H' a xs := by
  rcases h with (h | ⟨o, h⟩) | h
  · exact .inl (.inl (e _ _ h))
  · exact .inl (.inr ⟨o, e _ _ h⟩)
  · exact .inr h
/-- kept where tuples are -/
def Tups (H H' : Hp) : Prop := ∀ b xs, Rd H b (.tup xs) → Rd H' b (.tup xs)
theorem Tups.of {H H' : Hp} (e : Same H H') : Tups H H' := fun b xs h => by
  rcases h with h | ⟨o, h⟩
  · exact .inl (e _ _ h)
  · exact .inr ⟨o, e _ _ h⟩
theorem Tups.trans {H H1 H2 : Hp} (a : Tups H H1) (b : Tups H1 H2) : Tups H H2 := fun c xs h => b c xs (a c xs h)
theorem Tups.refl (H : Hp) : Tups H H := fun _ _ h => h
theorem Tups.upd {H : Hp} {a : Addr} {o : HO} (h : ∀ xs, ¬ Rd H a (.tup xs)) : Tups H (upd H a o) := fun b xs r => by
  have nb : b ≠ a := fun e => h xs (e ▸ r)
  rcases r with r | ⟨ob, r⟩
  · exact .inl (by rw [upd_ne nb]; exact r)
  · exact .inr ⟨ob, by rw [upd_ne nb]; exact r⟩
mutual
theorem NV.keep {K : PySem.W.Frag} {H H' : Hp} (e : Tups H H') : ∀ (k : NestedKey) (v : V), NV K H v k → NV K H' v k
  | .none, _, h => by cases h; exact .non
  | .num i, _, h => by cases h; exact .int i
  | .text x, _, h => by cases h; exact .str x
  | .tup ks, _, h => by
    cases h with
    | tup h1 h2 => exact .tup (h1.elim (fun z => .inl (e _ _ z)) .inr) (NVs.keep e ks _ h2)
theorem NVs.keep {K : PySem.W.Frag} {H H' : Hp} (e : Tups H H') : ∀ (ks : List NestedKey) (xs : List V), NVs K H xs ks → NVs K H' xs ks
  | [], _, h => by cases h; exact .nil
  | k :: ks, _, h => by
    cases h with
    | cons h1 h2 => exact .cons (NV.keep e k _ h1) (NVs.keep e ks _ h2)
end
section
variable {X : Cx} {pins : List (Addr × Obj)} {σ : L2.St} {H : Hp} {s : Shared}
mutual
theorem nv_is (I : Inv X pins σ H s) : ∀ (k : NestedKey) (v : V) (u : Value), NV X.K H v k → RelV v u → NestedIs s.heap k u
  | .none, _, _, h, r => by cases h; cases r; exact .none
  | .num i, _, _, h, r => by cases h; obtain ⟨t, rfl⟩ := r; exact .int i t
  | .text x, _, _, h, r => by cases h; obtain ⟨t, rfl⟩ := r; exact .text x t
  | .tup ks, _, _, h, r => by
    cases h with
    | @tup a xs _ h1 h2 =>
      cases (show _ = Value.ref a from r)
      obtain ⟨its, rv, ⟨o, e1, e2, n, e3⟩, _⟩ := I.tuple h1
      exact .tup e1 e2 e3 (by simpa using nvs_are I ks xs its h2 rv)
theorem nvs_are (I : Inv X pins σ H s) : ∀ (ks : List NestedKey) (xs : List V) (us : List Value), NVs X.K H xs ks → Vals xs us → NestedAll s.heap ks us
  | [], _, _, h, r => by cases h; cases r; exact .nil
  | k :: ks, _, _, h, r => by
    cases h with
    | cons h1 h2 =>
      cases r with
      | cons r1 r2 => exact .cons (nv_is I k _ _ h1 r1) (nvs_are I ks _ _ h2 r2)
end
end
/-- the entries: each key with the tuple that stands for it -/
abbrev Ks := List (NestedKey × Addr)
def xsOf (ks : Ks) : List (NestedKey × Addr × Value) := ks.map fun p => (p.1, p.2, Value.bool true)
def ndP (P : Program) (w : World) (a : Addr) (ks : Ks) : Heap → Prop := fun h => ∃ o es ep, h.get? a = some o ∧ o.ExactDict ∧ o.data = .dict es ep ∧ es.toList = (xsOf ks).map (entryOfKey (nestedKind P w)) ∧ ((xsOf ks).map (·.1)).Nodup
def ndO (P : Program) (w : World) (a : Addr) (ks : Ks) : HO := .ext (ndP P w a ks)
/-- at a stands the dict of the keys ks -/
structure ND (P : Program) (w : World) (K : PySem.W.Frag) (H : Hp) (a : Addr) (ks : Ks) : Prop where
  at_ : H a = some (ndO P w a ks)
  sm : (a == sysModules) = false
  ln : ks.length ≤ 1000
  nv : ∀ p ∈ ks, NV K H (.ref p.2) p.1 ∧ p.1.depth ≤ 8
def putN (ks : Ks) (k : NestedKey) (b : Addr) : Ks := if (ks.any fun p => decide (p.1 = k)) = true then ks else ks ++ [(k, b)]
theorem atKey_xs (ks : Ks) (k : NestedKey) : (atKey (xsOf ks) k).isSome = ks.any fun p => decide (p.1 = k) := by
  unfold xsOf
  induction ks with
  | nil => rfl
  | cons p r ih =>
    by_cases h : p.1 = k
    · simp [atKey, h]
    · simpa [atKey, h] using ih
theorem stored_xs (ks : Ks) (k : NestedKey) (b : Addr) : storedH (xsOf ks) k b (.bool true) = xsOf (putN ks k b) := by
  unfold storedH putN
  rw [atKey_xs]
  split
  · unfold xsOf
    rw [List.map_map]
    refine List.map_congr_left fun p _ => ?_
    by_cases h : p.1 = k <;> simp [putAt, h]
  · simp [xsOf]
theorem putN_len (ks : Ks) (k : NestedKey) (b : Addr) : (putN ks k b).length ≤ ks.length + 1 := by
  unfold putN
  split
  · exact Nat.le_succ _
  · rw [List.length_append, List.length_singleton]; exact Nat.le_refl _
theorem nd_not {P : Program} {w : World} {K : PySem.W.Frag} {H : Hp} {a : Addr} {ks : Ks} (h : H a = some (ndO P w a ks)) (xs : List V) : ¬ Rd H a (.tup xs) := fun r => by
  rcases r with r | ⟨o, r⟩
  · rw [h] at r; cases r
  · rw [h] at r; cases r
section
variable {X : Cx} {pins : List (Addr × Obj)} {σ : L2.St} {H : Hp} {s : Shared} {a : Addr} {ks : Ks}
theorem nd_at (I : Inv X pins σ H s) (h : H a = some (ndO X.prog X.w a ks)) : ndP X.prog X.w a ks s.heap := by
  have z : ObjOk X.prog X.w H s.heap a (.ext (ndP X.prog X.w a ks)) := I.hok a _ h
  exact z.1
theorem nd_obj {P : Program} {w : World} {H' : Hp} {h' : Heap} (z : ndP P w a ks h') : ObjOk P w H' h' a (ndO P w a ks) := by
  obtain ⟨o, es, ep, h1, h2, h3, h4, h5⟩ := z
  exact ⟨⟨o, es, ep, h1, h2, h3, h4, h5⟩, ⟨o, h1⟩, fun g1 g2 ⟨o', es', ep', q1, q2⟩ k => ⟨o', es', ep', k _ q1, q2⟩⟩
theorem nd_dict (I : Inv X pins σ H s) (N : ND X.prog X.w X.K H a ks) : s.heap.DictOfH (nestedKind X.prog X.w) a (xsOf ks) := by
  obtain ⟨o, es, ep, h1, h2, h3, h4, h5⟩ := nd_at I N.at_
  refine ⟨o, es, ep, h1, h2, h3, h4, fun x hx => ?_, h5⟩
  unfold xsOf at hx
  obtain ⟨p, hp, rfl⟩ := List.mem_map.mp hx
  exact ⟨nv_is I p.1 (.ref p.2) (.ref p.2) (N.nv p hp).1 rfl, (N.nv p hp).2⟩
/-- what stands behind a store -/
theorem nd_put {h' : Heap} {t' : Nat} {k : NestedKey} {b : Addr} (I : Inv X pins σ H s) (N : ND X.prog X.w X.K H a ks) (hm : h'.DictOfH (nestedKind X.prog X.w) a (storedH (xsOf ks) k b (.bool true))) (hs : Heap.SameBut a s.heap h') :
    Inv X pins σ (upd H a (ndO X.prog X.w a (putN ks k b))) { s with heap := h', toks := t' } := by
  rw [stored_xs] at hm
  obtain ⟨o, es, ep, h1, h2, h3, h4, _, h5⟩ := hm
  exact d_write I (by rw [N.at_]; exact True.intro) hs ⟨o, h1⟩ (nd_obj ⟨o, es, ep, h1, h2, h3, h4, h5⟩)
theorem ND.put {P : Program} {w : World} {K : PySem.W.Frag} {k : NestedKey} {b : Addr} (N : ND P w K H a ks) (hl : ks.length < 1000) (hk : NV K H (.ref b) k) (hd : k.depth ≤ 8) : ND P w K (upd H a (ndO P w a (putN ks k b))) a (putN ks k b) := by
  have e : Tups H (upd H a (ndO P w a (putN ks k b))) := Tups.upd (nd_not (K := K) N.at_)
  refine ⟨upd_same, N.sm, Nat.le_trans (putN_len ks k b) hl, fun p hp => ?_⟩
  have hp' : p ∈ ks ∨ p = (k, b) := by
    unfold putN at hp
    split at hp
    · exact .inl hp
    · exact (List.mem_append.mp hp).imp id fun z => List.mem_singleton.mp z
  rcases hp' with hp' | rfl
  · exact ⟨NV.keep e _ _ (N.nv p hp').1, (N.nv p hp').2⟩
  · exact ⟨NV.keep e _ _ hk, hd⟩
theorem ND.keep {P : Program} {w : World} {K : PySem.W.Frag} {H' : Hp} (N : ND P w K H a ks) (e : Same H H') : ND P w K H' a ks :=
  ⟨e _ _ N.at_, N.sm, N.ln, fun p hp => ⟨NV.keep (Tups.of e) _ _ (N.nv p hp).1, (N.nv p hp).2⟩⟩
end
/-! ### rules -/
section
variable {X : Cx} {pos : Pos}
/-- {} -/
def tNdNew (P : Program) (w : World) : TE := fun _ H Q => ∀ p, H p = none → (p == sysModules) = false → Q (.ref p) (upd H p (ndO P w p []))
theorem nd_empty {P : Program} {w : World} (h : Heap) : ndP P w h.objs.size [] (h.push { cls := .type "dict", data := .dict #[] }) :=
  ⟨_, #[], 0, Heap.get?_push_size _ rfl, ⟨rfl, rfl, rfl⟩, rfl, rfl, List.nodup_nil⟩
theorem pe_ndnew : PE X (.Dict [] [] pos) (tNdNew X.prog X.w) := ⟨fun pins s σ H Q I h =>
  wpAny_Dict_empty ⟨.ref s.heap.objs.size, _, I.laid (a := s.heap.objs.size) (o := ndO X.prog X.w s.heap.objs.size []) (t' := s.toks) (fun _ _ q => Heap.get?_push_of_some _ q) (Nat.le_refl _) (nd_obj (nd_empty s.heap)), rfl,
    h _ (I.hok.fresh (Nat.le_refl _)) (beq_eq_false_iff_ne.mpr (Ne.symm (Nat.ne_of_lt I.big)))⟩⟩
theorem nd_new {P : Program} {w : World} {K : PySem.W.Frag} {H : Hp} {p : Addr} (sm : (p == sysModules) = false) : ND P w K (upd H p (ndO P w p [])) p [] := ⟨upd_same, sm, Nat.zero_le _, fun _ z => nomatch z⟩
/-- d[k] = True -/
def rNdSet (P : Program) (w : World) (K : PySem.W.Frag) : TSet := fun o i v H Q => ∃ (a b : Addr) (ks : Ks) (k : NestedKey), o = .ref a ∧ i = .ref b ∧ v = .bl true ∧ ND P w K H a ks ∧ ks.length < 1000 ∧ NV K H (.ref b) k ∧ k.depth ≤ 8 ∧ Q (upd H a (ndO P w a (putN ks k b)))
theorem set_nd (hu : X.A.units + 64 < cLine) : PSet X (rNdSet X.prog X.w X.K) := by
  intro pins s σ H o i v ov iv u Q I ro ri rv h
  obtain ⟨a, b, ks, k, rfl, rfl, rfl, N, hl, hk, hd, q⟩ := h
  cases (show ov = Value.ref a from ro)
  cases (show iv = Value.ref b from ri)
  cases (show u = Value.bool true from rv)
  have hz : (xsOf ks).length ≤ sizeLine := by
    unfold xsOf
    rw [List.length_map]
    exact Nat.le_trans N.ln (by decide)
  refine wpAny_setItem_heap (hsz := hz) (knd := nestedKind X.prog X.w) (by show X.A.units + 1 + 8 < cLine; omega) ⟨nv_is I k _ _ hk rfl, hd⟩ (nd_dict I N) fun h' hm hs => ?_
  exact ⟨_, nd_put I N hm hs, q⟩
/-- list(d) -/
def rNdList (P : Program) (w : World) (K : PySem.W.Frag) : List V → Hp → VK → Prop := fun xs H Q => ∃ (a : Addr) (ks : Ks), xs = [.ref a] ∧ ND P w K H a ks ∧ ∀ l, H l = none → Q (.ref l) (upd H l (.lst (ks.map fun p => V.ref p.2)))
theorem call_listNd (hc : X.calm = true) : CallR X (.type "list") (rNdList X.prog X.w X.K) := by
  intro pins s σ H xs us Q I r h
  obtain ⟨a, ks, rfl, N, q⟩ := h
  obtain ⟨u, rfl, ru⟩ := vals1 r
  cases (show u = Value.ref a from ru)
  obtain ⟨o, es, ep, h1, h2, h3, h4, h5⟩ := nd_at I N.at_
  have sz : es.size = ks.length := by
    rw [← Array.length_toList, h4, List.length_map]
    unfold xsOf
    rw [List.length_map]
  refine PySem.W.kdl_call (KdlSrc.rawDict (es := es) (ep := ep) N.sm) (I.ok.hd hc) ⟨o, h1, h2, h3⟩ (by rw [sz]; exact Nat.le_trans N.ln (by decide)) fun h' tk acc c kp eS it => ?_
  have rel : ∀ (js : Ks) (vs : List Value), vs = js.map (fun p => Value.ref p.2) → Vals (js.map fun p => V.ref p.2) vs := fun js => by
    induction js with
    | nil => intro vs e; subst e; exact .nil
    | cons p r ih => intro vs e; subst e; exact .cons rfl (ih _ rfl)
  have ea : acc.toList = ks.map fun p => Value.ref p.2 := by
    refine List.ext_getElem? fun j => ?_
    rw [List.getElem?_map, Array.getElem?_toList]
    have qe := entry_at h4 j
    unfold xsOf at qe
    rw [List.getElem?_map] at qe
    cases hj : acc[j]? with
    | none =>
      have g : ks.length ≤ j := by
        have := Array.getElem?_eq_none_iff.mp hj
        have e1 := it.1
        omega
      rw [List.getElem?_eq_none g]
      rfl
    | some v =>
      obtain ⟨hi, hv⟩ := it.2 j v hj
      rw [Array.getElem?_eq_getElem hi] at qe
      cases hb : ks[j]? with
      | none => rw [hb] at qe; cases qe
      | some p =>
        rw [hb] at qe
        have e2 : es[j] = entryOfKey (nestedKind X.prog X.w) (p.1, p.2, Value.bool true) := Option.some.inj qe
        rw [hv, e2]
        rfl
  have new : ObjOk X.prog X.w (upd H s.heap.objs.size (.lst (ks.map fun p => V.ref p.2))) h' s.heap.objs.size (.lst (ks.map fun p => V.ref p.2)) := by
    refine ⟨by rw [List.length_map]; exact Nat.le_trans N.ln (by decide), acc.toList, c, rel ks _ ea, ?_⟩
    rw [eS]
  exact ⟨.ref s.heap.objs.size, _, I.laid (t' := tk) kp (Nat.le_refl _) new, rfl, q _ (I.hok.fresh (Nat.le_refl _))⟩
/-- {k: True} -/
def tNdOne (P : Program) (w : World) (K : PySem.W.Frag) (tk tv : TE) : TE := fun σ H Q => ∀ p, H p = none → (p == sysModules) = false → tk σ (upd H p (ndO P w p [])) fun x H1 => tv σ H1 fun y H2 => ∃ (b : Addr) (k : NestedKey), x = .ref b ∧ y = .bl true ∧ NV K H2 (.ref b) k ∧ k.depth ≤ 8 ∧ H2 p = some (ndO P w p []) ∧ Q (.ref p) (upd H2 p (ndO P w p [(k, b)]))
theorem pe_ndone {e f : Expr} {tk tv : TE} (hu : X.A.units + 64 < cLine) (he : PE X e tk) (hf : PE X f tv) : PE X (.Dict [some e] [f] pos) (tNdOne X.prog X.w X.K tk tv) := by
  constructor
  intro pins s σ H Q I h
  have I1 : Inv X pins σ (upd H s.heap.objs.size (ndO X.prog X.w s.heap.objs.size [])) { s with heap := s.heap.push { cls := .type "dict", data := .dict #[] } } :=
    I.laid (a := s.heap.objs.size) (t' := s.toks) (fun _ _ q => Heap.get?_push_of_some _ q) (Nat.le_refl _) (nd_obj (nd_empty s.heap))
  have sm : (s.heap.objs.size == sysModules) = false := beq_eq_false_iff_ne.mpr (Ne.symm (Nat.ne_of_lt I.big))
  have run := (pps_cons (pos := pos) he hf pps_nil).run pins _ σ _ (fun ps H2 => match ps with
    | [(x, y)] => ∃ (b : Addr) (k : NestedKey), x = .ref b ∧ y = .bl true ∧ NV X.K H2 (.ref b) k ∧ k.depth ≤ 8 ∧ H2 s.heap.objs.size = some (ndO X.prog X.w s.heap.objs.size []) ∧ Q (.ref s.heap.objs.size) (upd H2 s.heap.objs.size (ndO X.prog X.w s.heap.objs.size [(k, b)]))
    | _ => False) I1 ?rd
  case rd => exact h s.heap.objs.size (I.hok.fresh (Nat.le_refl _)) sm
  rw [arm_eval_Dict, show (evalEachOpt [some e] X.env).zip ((evalEach [f] X.env).map fun v => do let x ← v; standAt pos; pure x) = (pairTrees [some e] [f] X.env pos).map fun p => (some p.1, p.2) from rfl, dictDisplay_pairs (pairTrees [some e] [f] X.env pos) (by intro z; cases z) (by show 1 < 17; decide)]
  refine wpAny_bind (wpAny_standAt (wpAny_bind (wpAny_subDictH (knd := nestedKind X.prog X.w) (Q := fun d s' => wpAny (model X.prog X.w) X.A (pure (Value.ref d)) (EP X pins σ Q) X.xe s') (by show X.A.units + 8 < cLine; omega) (by show 1 ≤ 15; decide) (wpAny_mono run ?_ fun _ _ z => z))))
  rintro vs t ⟨ps, H2, I2, rv, hps⟩
  match ps, rv, hps with
  | [(x, y)], .cons (b := v0) r1 .nil, hps =>
    obtain ⟨b, k, rfl, rfl, hk, hd, e0, q⟩ := hps
    obtain ⟨u1, u2⟩ := v0
    cases (show u1 = Value.ref b from r1.1)
    cases (show u2 = Value.bool true from r1.2)
    have N0 : ND X.prog X.w X.K H2 s.heap.objs.size [] := ⟨e0, sm, Nat.zero_le _, fun _ z => nomatch z⟩
    refine ⟨[(k, b, Value.bool true)], ⟨rfl, rfl, ⟨nv_is I2 k _ _ hk rfl, hd⟩, trivial⟩, nd_dict I2 N0, fun h' tk hm hs => wpAny_pure ?_⟩
    exact ⟨.ref s.heap.objs.size, _, nd_put (t' := tk) I2 N0 hm hs, rfl, q⟩
end
end Nd
/-! ### {k: True for x in ..} -/
namespace Nd
open PySem PySem.Spec PyProof.Rows L2
/-- one store of such a comprehension: D's dict gets the key of y -/
def NdTurn (P : Program) (w : World) (K : PySem.W.Frag) (D : Addr) (y z : V) (G : Hp) (Nx : Hp → Prop) : Prop := ∃ (b : Addr) (ks : Ks) (k : NestedKey), y = .ref b ∧ z = .bl true ∧ ND P w K G D ks ∧ ks.length < 1000 ∧ NV K G (.ref b) k ∧ k.depth ≤ 8 ∧ Nx (upd G D (ndO P w D (putN ks k b)))
/-- the comprehension: D is the new dict -/
def tNdc (P : Program) (w : World) (K : PySem.W.Frag) (wi : TI) (g : TG) (tt : TT) (tk tv : TE) (vs : List Nat) : TE := fun σ H Q => wi σ H fun J G => ∀ D, G D = none → (D == sysModules) = false →
  ∃ W : Nat → Nat → Hp → Prop, (∃ m, W 0 m (upd G D (ndO P w D []))) ∧ ∀ i m G1, W i m G1 →
    (J.stop i G1 ∧ Q (.ref D) G1) ∨ (J.go i G1 ∧ ∃ Nx : Hp → Prop, (∀ G2, Nx G2 → ∃ m', m' < m ∧ W (i + 1) m' G2) ∧ ∀ x G2, J.yld i G1 x G2 → g x (wipe σ vs) G2 fun ρ G3 => wipe ρ vs = wipe σ vs ∧ tt ρ G3 fun b G4 =>
      if b = true then tk ρ G4 fun y G5 => tv ρ G5 fun z G6 => NdTurn P w K D y z G6 Nx else Nx G4)
section
variable {X : Cx}
theorem nd_dictSet {pins : List (Addr × Obj)} {σ : L2.St} {H : Hp} {s : Shared} {E : Value → Shared → Prop} {D : Addr} {y z : V} {u r : Value} {Nx : Hp → Prop} {Q : Unit → Shared → Prop} (hu : X.A.units + 64 < cLine) (I : Inv X pins σ H s) (ry : RelV y u) (rz : RelV z r) (t : NdTurn X.prog X.w X.K D y z H Nx)
    (q : ∀ G s', Inv X pins σ G s' → Nx G → Q () s') : wpAny (model X.prog X.w) X.A (dictSet D u r) Q E s := by
  obtain ⟨b, ks, k, rfl, rfl, N, hl, hk, hd, nx⟩ := t
  cases (show u = Value.ref b from ry)
  cases (show r = Value.bool true from rz)
  have hz : (xsOf ks).length ≤ sizeLine := by
    unfold xsOf
    rw [List.length_map]
    exact Nat.le_trans N.ln (by decide)
  exact wpAny_dictSet_heap (hsz := hz) (knd := nestedKind X.prog X.w) (by show X.A.units + 8 < cLine; omega) ⟨nv_is I k _ _ hk rfl, hd⟩ (nd_dict I N) fun h' hm hs => q _ _ (nd_put I N hm hs) nx
theorem pe_ndc {kx vx tg iter : Expr} {ifs : List Expr} {scope : Scope} {own : List (Str × Nat)} {pos : Pos} {wi : TI} {g : TG} {tt : TT} {tk tv : TE} (hc : X.calm = true) (hN : X.N.Nodup) (hu : X.A.units + 64 < cLine) (hi : PI X tg iter wi) (ok : BlkOk X.N X.env.scope scope own)
    (hg : ∀ (s : Shared) (H : Hp) (C : Addr) (cl : List (Str × Addr)) (fp : List Addr), PG (X.blk s H scope (compEnvC scope cl C X.env) fp) tg g)
    (ht : ∀ (s : Shared) (H : Hp) (C : Addr) (cl : List (Str × Addr)) (fp : List Addr), PTs (X.blk s H scope (compEnvC scope cl C X.env) fp) ifs tt)
    (hk : ∀ (s : Shared) (H : Hp) (C : Addr) (cl : List (Str × Addr)) (fp : List Addr), PE (X.blk s H scope (compEnvC scope cl C X.env) fp) kx tk)
    (hv : ∀ (s : Shared) (H : Hp) (C : Addr) (cl : List (Str × Addr)) (fp : List Addr), PE (X.blk s H scope (compEnvC scope cl C X.env) fp) vx tv) (hs : ∀ x, foldedSetIterable iter X.env x = pure x := by intro _; rfl) :
    PE X (.DictComp kx vx [⟨tg, iter, ifs, 0⟩] scope pos) (tNdc X.prog X.w X.K wi g tt tk tv (own.map (·.2))) := by
  constructor
  intro pins s σ H Q I hrd
  rw [arm_eval_DictComp]
  have frees : ∀ y ∈ scope.names, y.2 = .free → ∃ c, X.env.cells.lookup y.1 = some c := fun y hy e => (ok.free y hy e).elim (fun z => I.ok.has _ (.inl z)) fun z => I.ok.has _ (.inr z)
  refine wpAny_comprehension_free rfl hs (closure_ok frees) ok.kind (fun y hy e => by rw [ok.uniq y hy, e]) (thn (hi.run pins s σ H _ I hrd) fun xv t1 hx => thn hx ?_)
  rintro itv t2 ⟨it, fp, tn, J, G, rfl, I2, T, st2, f2, q⟩
  refine wpAny_newObj_type (newEnv_comp ?_)
  have sm : (t2.heap.objs.size == sysModules) = false := beq_eq_false_iff_ne.mpr (Ne.symm (Nat.ne_of_lt I2.big))
  obtain ⟨W, ⟨m0, w0⟩, turn⟩ := q t2.heap.objs.size (I2.hok.fresh (Nat.le_refl _)) sm
  have I3 : Inv X pins σ (upd G t2.heap.objs.size (ndO X.prog X.w t2.heap.objs.size [])) { t2 with heap := t2.heap.push { cls := .type "dict", data := .dict #[] } } :=
    I2.laid (t' := t2.toks) (fun b o e => Heap.get?_push_of_some _ e) (Nat.le_refl _) (nd_obj (nd_empty t2.heap))
  generalize hD : t2.heap.objs.size = D at w0 turn I3 sm ⊢
  generalize ht3 : ({ t2 with heap := t2.heap.push { cls := .type "dict", data := .dict #[] } } : Shared) = t3 at I3
  have e3 : t3.heap = t2.heap.push { cls := .type "dict", data := .dict #[] } := by rw [← ht3]
  have old : ∀ b ∈ fp, b < t2.heap.objs.size := fun b hb => by
    obtain ⟨o, e, _⟩ := T.obj _ _ st2 b hb
    exact Heap.lt_size e
  have f3 : ∀ b ∈ fp, FpOk X pins (upd G D (ndO X.prog X.w D [])) b ∧ b < t3.heap.objs.size := fun b hb => by
    have lt := old b hb
    refine ⟨⟨?_, (f2 b hb).2⟩, by rw [e3, Heap.size_push]; exact Nat.lt_succ_of_lt lt⟩
    rw [upd_ne (by rw [← hD]; exact Nat.ne_of_lt lt)]
    exact (f2 b hb).1
  have st3 : tn 0 t3.heap := T.keep _ _ _ st2 fun b _ o e => by rw [e3]; exact Heap.get?_push_of_some _ e
  have I4 := block_start I3 ok hN f3
  have pg := hg t3 (upd G D (ndO X.prog X.w D [])) t3.heap.objs.size (cellsFrom (t3.heap.objs.size + 1) scope.names (cloFrom X.env.cells scope.names [])) fp
  have pt := ht t3 (upd G D (ndO X.prog X.w D [])) t3.heap.objs.size (cellsFrom (t3.heap.objs.size + 1) scope.names (cloFrom X.env.cells scope.names [])) fp
  have pk := hk t3 (upd G D (ndO X.prog X.w D [])) t3.heap.objs.size (cellsFrom (t3.heap.objs.size + 1) scope.names (cloFrom X.env.cells scope.names [])) fp
  have pv := hv t3 (upd G D (ndO X.prog X.w D [])) t3.heap.objs.size (cellsFrom (t3.heap.objs.size + 1) scope.names (cloFrom X.env.cells scope.names [])) fp
  show codeAny _ _ (.compStart (.DictComp kx vx [⟨tg, iter, ifs, 0⟩] scope pos) 0 (.ref it) (.ref D) (compEnvC scope (cellsFrom (t3.heap.objs.size + 1) scope.names (cloFrom X.env.cells scope.names [])) t3.heap.objs.size X.env))
    (compPost (model X.prog X.w) X.A X.xe _ _ (.ref D) t3.heap.objs.size) { t3 with heap := pushCells (t3.heap.push { cls := .type "dict", data := .dict #[] }) scope.names }
  have apart : ∀ b ∈ fp, (upd G D (ndO X.prog X.w D [])) b = none := fun b hb => (f3 b hb).1.1
  generalize hce : compEnvC scope (cellsFrom (t3.heap.objs.size + 1) scope.names (cloFrom X.env.cells scope.names [])) t3.heap.objs.size X.env = ce at I4 pg pt pk pv ⊢
  have cL : ce.locals = t3.heap.objs.size := by subst hce; rfl
  generalize hG3 : upd G D (ndO X.prog X.w D []) = G3 at I3 I4 pg pt pk pv w0 apart f3
  generalize ht4 : ({ t3 with heap := pushCells (t3.heap.push { cls := .type "dict", data := .dict #[] }) scope.names } : Shared) = t4 at I4 ⊢
  have st4 : tn 0 t4.heap := T.keep _ _ _ st3 fun b _ o e => by rw [← ht4]; exact pushCells_keeps _ _ _ _ (Heap.get?_push_of_some _ e)
  have still : ∀ {ρ : L2.St} {G' : Hp} {t' : Shared}, Inv (X.blk t3 G3 scope ce fp) [] ρ G' t' → (∀ b ∈ fp, G' b = none) → ∀ b ∈ fp, FpOk (X.blk t3 G3 scope ce fp) [] G' b := fun {ρ G' t'} I' hn b hb =>
    ⟨hn b hb, (I'.ok.exf b hb).1, I'.ok.exfs b hb, .inl hb, fun x c e => (I'.ok.exf b hb).2 x c e, fun p hp => absurd (show p ∈ ([] : List (Addr × Obj)) ++ [] from hp) (by simp)⟩
  refine codeAny_compStart_dict ?loop (T.self X.A 0 _ _ _ st4 ?loop)
  refine compLoop_anyD (fun n t' => ∃ i G', Inv (X.blk t3 G3 scope ce fp) [] (wipe σ (own.map (·.2))) G' t' ∧ tn i t'.heap ∧ (∀ b ∈ fp, G' b = none) ∧ W i n G') ?_ m0 ⟨0, G3, I4, st4, apart, w0⟩
  rintro n t5 ⟨i, G5, I5, st5, n5, w5⟩
  rcases turn i n G5 w5 with ⟨stop, fin⟩ | ⟨go, Nx, hNx, step⟩
  · refine thnF (T.done (X.blk t3 G3 scope ce fp) rfl rfl rfl hc i [] t5 _ G5 (fun _ _ => False) I5 (still I5 n5) st5 stop) ?_
    rintro r t6 ⟨rfl, I6⟩
    have I7 : Inv X pins σ G5 t6 := I3.call' (ch := fp) I6.os I6.base I6.hok I6.bare fun b hb => ⟨(f3 b hb).1.2.2.2.1, (f3 b hb).1.2.1, (f3 b hb).1.2.2.2.2.1, (f3 b hb).1.2.2.2.2.2⟩
    have nC : G5 t3.heap.objs.size = none := by
      have z : G5 ce.locals = none := I6.free
      rw [cL] at z
      exact z
    obtain ⟨m, hn, _⟩ := I6.loc
    have hn' : t6.heap.Ns ce.locals m := hn
    rw [cL] at hn'
    obtain ⟨f0, f1, f2', f3', f4, f5⟩ := I3.fpOk (Nat.le_refl _) nC
    exact ⟨m, hn', fun h'' sb => ⟨.ref D, G5, I7.turned (t' := t6.toks) (fun b o hb e => (sb.2 b hb).trans e) f0 f1 f3' f4 f5, rfl, fin⟩⟩
  · refine thnF (T.item (X.blk t3 G3 scope ce fp) rfl rfl rfl hc i [] t5 _ G5 (fun _ _ => False) I5 (still I5 n5) st5 go) ?_
    rintro r t6 ⟨u, rfl, h6⟩
    refine thnF h6 ?_
    rintro _ t7 ⟨x, G7, I7, r7, y7, st7, n7⟩
    refine thnF (pg.run _ t7 _ G7 x u _ (I7.pinned (still I7 n7) (T.obj _ _ st7)) r7 (step x G7 y7)) ?_
    rintro _ t8 ⟨ρ, G8, I8, hw8, q8⟩
    refine thnF (pt.run _ t8 ρ G8 _ I8 q8) ?_
    rintro b t9 ⟨G9, I9, q9⟩
    have back : ∀ {t' : Shared} {G' : Hp}, Inv (X.blk t3 G3 scope ce fp) ([] ++ pinsAt fp t7.heap) ρ G' t' → Nx G' → ∃ m, m < n ∧ ∃ i G', Inv (X.blk t3 G3 scope ce fp) [] (wipe σ (own.map (·.2))) G' t' ∧ tn i t'.heap ∧ (∀ b ∈ fp, G' b = none) ∧ W i m G' := fun {t' G'} I' nx => by
      obtain ⟨m', lt, w'⟩ := hNx G' nx
      have pinned : ∀ b ∈ fp, ∀ o, t7.heap.get? b = some o → t'.heap.get? b = some o ∧ G' b = none := fun b hb o e =>
        ⟨(I'.pin (b, o) (List.mem_append_right _ (List.mem_append_right _ (mem_pinsAt hb e)))).1, (I'.pin (b, o) (List.mem_append_right _ (List.mem_append_right _ (mem_pinsAt hb e)))).2.1⟩
      refine ⟨m', lt, i + 1, G', (I'.unpinned (pins := [])).weak (by rw [← hw8, wipe_length]) (fun j v e => ?_), T.keep _ _ _ st7 fun b hb o e => (pinned b hb o e).1, fun b hb => ?_, w'⟩
      · rw [← hw8] at e
        exact (wipe_some e).1
      · obtain ⟨o, e, _⟩ := T.obj _ _ st7 b hb
        exact (pinned b hb o e).2
    cases b with
    | false =>
      simp only [Bool.false_eq_true, if_false] at q9 ⊢
      exact back I9 q9
    | true =>
      simp only [if_true] at q9 ⊢
      refine thnF (pk.run _ t9 ρ G9 _ I9 q9) ?_
      rintro z t10 ⟨yk, G10, I10, r10, q10⟩
      refine thnF (pv.run _ t10 ρ G10 _ I10 q10) ?_
      rintro z2 t11 ⟨yv, G11, I11, r11, nt⟩
      exact nd_dictSet (X := X.blk t3 G3 scope ce fp) hu I11 r10 r11 nt fun G12 t12 I12 nx => back I12 nx
end
end Nd
/-! ### truth, comprehensions -/
namespace Nd
open PySem PySem.Spec PyProof.Rows L2
section
variable {prog : Program} {w : World} {KK : Type} [DecidableEq KK] {knd : HeapKind prog w KK} {A : Around} {E : Value → Shared → Prop} {s : Shared}
theorem truthy_keyed {d : Addr} {xs : List (KK × Addr × Value)} {Q : Bool → Shared → Prop} (sm : (d == sysModules) = false) (hm : s.heap.DictOfH knd d xs) (fit : (xs.length : Int) < 2 ^ 63) (h : Q (!xs.isEmpty) { s with toks := s.toks + 1 + 1 }) :
    wpAny (model prog w) A (truthy (.ref d)) Q E s := by
  have same : ((xs.length : Int) != 0) = !xs.isEmpty := by cases xs <;> simp <;> omega
  have ln : wpAny (model prog w) A (runValue (.builtin "len" ⟨[.ref d], []⟩)) (fun r t => r = .int xs.length (s.toks + 1) ∧ Q (!xs.isEmpty) t) E s := by
    refine wpAny_runValue (codeAny_builtin PySem.entry_len ?_)
    rw [Around.under_plainId PySem.plain_len _]
    refine wpAny_mono (wpAny_len_body_dictH (Q := fun r t => r = .int xs.length (s.toks + 1) ∧ Q (!xs.isEmpty) t) sm hm fit ⟨rfl, h⟩) ?_ fun _ _ z => z
    rintro fin t ⟨r, rfl, q⟩
    exact q
  unfold truthy
  first
    | refine wpAny_bind (wpAny_callSpecial?_none (name := Str.ofString "__bool__") hm.typeIs noBool_dict ?_)
    | refine wpAny_bind (wpAny_pure (wpAny_bind (wpAny_callSpecial?_none (name := Str.ofString "__bool__") hm.typeIs noBool_dict ?_)))
  first
    | refine wpAny_bind (wpAny_specialOf (name := Str.ofString "__len__") hm.typeIs F.slot_dict_len.lookup ?_)
    | refine wpAny_bind (wpAny_pure (wpAny_bind (wpAny_specialOf (name := Str.ofString "__len__") hm.typeIs F.slot_dict_len.lookup ?_)))
  have fin : ∀ r t, (r = Value.int xs.length (s.toks + 1) ∧ Q (!xs.isEmpty) t) → Q ((xs.length : Int) != 0) t := fun r t z => same ▸ z.2
  first
    | exact wpAny_bind (wpAny_mono ln (fun r t z => by obtain ⟨rfl, _⟩ := id z; exact wpAny_pure (fin _ t z)) fun _ _ z => z)
    | exact wpAny_bind (wpAny_pure (wpAny_bind (wpAny_mono ln (fun r t z => by obtain ⟨rfl, _⟩ := id z; exact wpAny_pure (fin _ t z)) fun _ _ z => z)))
end
section
variable {X : Cx}
/-- a test that is the dict's truth -/
def tNdTru (P : Program) (w : World) (K : PySem.W.Frag) (ta : TE) : TT := fun σ H Q => ta σ H fun x G => ∃ (a : Addr) (ks : Ks), x = .ref a ∧ ND P w K G a ks ∧ Q (!ks.isEmpty) G
theorem pt_nd {e : Expr} {te : TE} (he : PE X e te) (hi : ∀ whole, isTrue e X.env whole = (do let v ← whole; standAt e.pos; holding [v] (truthy v)) := by intro _; rfl) : PT X e (tNdTru X.prog X.w X.K te) := by
  constructor
  intro pins s σ H Q I h
  refine isTrue_plain (thn (he.run pins s σ H _ I h) ?_) (hi _)
  rintro v t ⟨x, G, J, r, a, ks, rfl, N, q⟩
  cases (show v = Value.ref a from r)
  have e1 : (xsOf ks).length = ks.length := by unfold xsOf; rw [List.length_map]
  have e2 : (xsOf ks).isEmpty = ks.isEmpty := by cases ks <;> rfl
  have ln := N.ln
  exact truthy_keyed N.sm (nd_dict J N) (by omega) ⟨G, J.tok _, by rw [e2]; exact q⟩
end
end Nd
/-! ## enumerate(xs, start=k), min(xs, default=d) of nothing, what is never reached -/
namespace Nd
open PySem PySem.Spec PyProof.Rows L2
theorem pe_no {X : Cx} {e : Expr} : PE X e (fun _ _ _ => False) := ⟨fun _ _ _ _ _ _ h => h.elim⟩
/-- the list at a, each item in a new pair with its number from k on -/
def ItS (K : PySem.W.Frag) (a : Addr) (k : Int) : It :=
  ⟨fun i G => ∃ (xs : List V) (x : V), SqL K G a xs ∧ xs[i]? = some x, fun i G v G' => ∃ T x, v = .ref T ∧ G T = none ∧ G' = upd G T (.tup [.int (k + (i : Int)), x]) ∧ ∀ xs, SqL K G a xs → xs[i]? = some x, fun i G => ∃ xs : List V, SqL K G a xs ∧ xs.length = i⟩
theorem turn_from {P : Program} {w : World} {K : PySem.W.Frag} {elts : List Expr} {kk : Nat} {tpos : Pos} (a e it : Addr) (k : Int) :
    Turn P w K (.Tuple elts kk tpos) (ItS K a k) [e, it] e (fun i h => (∃ o, IsEnum h e it (k + (i : Int)) o) ∧ h.IsListIter it a i ∧ e ≠ it) where
  mem := List.mem_cons_self
  obj := by
    rintro i h ⟨⟨o, he⟩, ⟨ob, ho, hc, hd⟩, _⟩ b hb
    rcases List.mem_cons.mp hb with rfl | hb
    · exact ⟨_, he, fun v z => nomatch z⟩
    · cases List.mem_singleton.mp hb
      exact ⟨ob, ho, fun v z => by rw [hd] at z; cases z⟩
  keep := fun i h h' ⟨⟨o, he⟩, hi, ne⟩ st => ⟨⟨o, st e (by simp) _ he⟩, hi.at fun ob z => st it (by simp) ob z, ne⟩
  item := by
    intro X hP hw hK hc i pins s σ H E I hf st hg
    subst hP hw hK
    obtain ⟨⟨o, he⟩, hit, ne⟩ := st
    obtain ⟨xs, x, hq, hx⟩ := hg
    obtain ⟨its, rv, p, hz⟩ := I.list hq
    obtain ⟨u, hu, ru⟩ := rv.get hx
    have le : e < s.heap.objs.size := Heap.lt_size he
    have li : it < s.heap.objs.size := by obtain ⟨_, q, _⟩ := hit; exact Heap.lt_size q
    have ha := p.isList
    have nai : a ≠ it := fun z => by
      obtain ⟨o1, q1, c1, _⟩ := ha
      obtain ⟨o2, q2, c2, _⟩ := hit
      rw [z, q2] at q1
      cases q1
      rw [c1] at c2
      exact absurd (Value.type.inj c2) (by decide)
    have nae : e ≠ a := fun z => by
      obtain ⟨o1, q1, c1, _⟩ := ha
      rw [← z, he] at q1
      cases q1
      exact absurd (Value.type.inj (show Value.type "enumerate" = Value.type "list" from c1)) (by decide)
    have lt : i < its.toArray.size := by
      have := (List.getElem?_eq_some_iff.mp hu).1
      simpa using this
    refine wpAny_pyNext_enum_itemC (Draws.list (A := X.A.in1) (I.ok.hd hc) it a nai its.toArray) he ⟨hit, ha⟩ lt ne (by simp [ne, nae]) fun y h' tk hy ho hst hT hsz stay => ?_
    have ey : y = u := by
      have z : its.toArray[i]? = some y := hy
      rw [List.getElem?_toArray, hu] at z
      exact (Option.some.inj z).symm
    subst ey
    refine ⟨_, rfl, wpAny_letOwnedTupleGo_enum (s := { s with heap := h', toks := tk + 1 }) ho fun h2 he2 sb => ?_⟩
    have hT2 : h2.get? s.heap.objs.size = some { cls := .type "tuple", data := .seq #[.int (k + (i : Int)) tk, y] } := (sb.2 _ (Nat.ne_of_gt le)).trans hT
    have new : ObjOk X.prog X.w (upd H s.heap.objs.size (.tup [.int (k + (i : Int)), x])) h2 s.heap.objs.size (.tup [.int (k + (i : Int)), x]) :=
      ⟨by show 2 ≤ sizeLine; decide, [.int (k + (i : Int)) tk, y], .cons ⟨_, rfl⟩ (.cons ru .nil), ⟨_, hT2, rfl, _, rfl⟩⟩
    have I1 : Inv X pins σ (upd H s.heap.objs.size (.tup [.int (k + (i : Int)), x])) { s with heap := h2, toks := tk + 1 } :=
      I.turnedNew (ch := [e, it]) (fun b ob hb q => (sb.2 b (fun z => hb (by simp [z]))).trans (stay b ob (fun z => hb (by simp [z])) (fun z => hb (by simp [z])) q)) hf (Nat.le_refl _) new
    refine ⟨.ref s.heap.objs.size, _, I1, rfl, ⟨_, x, rfl, I.hok.fresh (Nat.le_refl _), rfl, fun ys hy' => by rw [I.list_inj hy' hq]; exact hx⟩, ⟨⟨y, ?_⟩, hst.1.at fun ob q => (sb.2 it (Ne.symm ne)).trans q, ne⟩, fun b hb => ?_⟩
    · rw [show k + ((i + 1 : Nat) : Int) = k + (i : Int) + 1 by omega]; exact he2
    · have lb : b < s.heap.objs.size := by
        rcases List.mem_cons.mp hb with rfl | hb
        · exact le
        · cases List.mem_singleton.mp hb; exact li
      rw [upd_ne (Nat.ne_of_lt lb)]
      exact (hf b hb).1
  done := by
    intro X hP hw hK hc i pins s σ H E I hf st hg
    subst hP hw hK
    obtain ⟨⟨o, he⟩, hit, ne⟩ := st
    obtain ⟨xs, hq, hx⟩ := hg
    obtain ⟨its, rv, p, hz⟩ := I.list hq
    obtain ⟨f0, f1, f2, f3, f4, f5⟩ := hf it (by simp)
    have hl := rv.length
    have ha := p.isList
    have nai : a ≠ it := fun z => by
      obtain ⟨o1, q1, c1, _⟩ := ha
      obtain ⟨o2, q2, c2, _⟩ := hit
      rw [z, q2] at q1
      cases q1
      rw [c1] at c2
      exact absurd (Value.type.inj c2) (by decide)
    have sz : its.toArray.size = i := by
      rw [List.size_toArray, ← hl]
      exact hx
    exact wpAny_pyNext_enum_endD (Draws.list (A := X.A.in1) (I.ok.hd hc) it a nai its.toArray) he ⟨by rw [sz]; exact hit, ha⟩ fun h' eb => ⟨rfl, I.turned (t' := s.toks) (fun b o hb q => eb b o hb q) f0 f1 f3 f4 f5⟩
  self := fun A i s Q E ⟨⟨_, he⟩, _⟩ h => wpAny_pyIter_enum he h
def iFrom (K : PySem.W.Frag) (k : Int) (ta : TA) : TI := fun σ G R => ta σ G fun vs G1 => ∃ a xs, vs = [.ref a] ∧ SqL K G1 a xs ∧ R (ItS K a k) G1
section
variable {X : Cx}
/-- a built-in class called with keywords -/
theorem callWith_tyK {M : Model} {A : Around} {E : Value → Shared → Prop} {s : Shared} {env : Env} {pos : Pos} {T : String} {e : Expr} {rest : List Expr} {kws : List Keyword} {Q : Value → Shared → Prop}
    (h : wpAny M A (spliced (backTo pos (starEach (e :: rest) env))) (fun vs t1 => wpAny M A (evalAll ((backToKw pos (keywordEach kws env)).map (·.2))) (fun zs t2 => wpAny M A (call (.type T) vs (((backToKw pos (keywordEach kws env)).filterMap (·.1)).zip zs)) Q E t2) E t1) E s)
    (h1 : backTo pos (starEach (e :: rest) env) = (false, eval e env) :: backTo pos (starEach rest env)) (h2 : (backTo pos (starEach (e :: rest) env)).any (·.1) = false) (h3 : (backToKw pos (keywordEach kws env)).all (·.1.isSome) = true) (h4 : (backToKw pos (keywordEach kws env)).any (·.1.isNone) = false) :
    wpAny M A (callWith pos (.type T) [] (backTo pos (starEach (e :: rest) env)) (backToKw pos (keywordEach kws env))) Q E s := by
  unfold callWith
  rw [h1] at h ⊢
  refine wpAny_bind (wpAny_holding (wpAny_mono (PyProof.Rows.evalArgs_kwB (Q := fun a t => wpAny M A (call (.type T) a.pos a.kw) Q E t) h3 h) (fun a t1 q => wpAny_bind (wpAny_standAt ?_)) fun _ _ z => z))
  rw [← h1]
  simp only [h2, h4, Bool.or_false]
  refine wpAny_bind (wpAny_pure ?_)
  exact wpAny_bind (wpAny_mono q (fun r t2 hr => wpAny_bind (wpAny_holding (wpAny_point (wpAny_pure hr)))) fun _ _ z => z)
/-- enumerate(e, start=k), k written -/
theorem pi_from {e : Expr} {ta : TA} {p pos tpos p2 p3 : Pos} {elts : List Expr} {kk j : Nat} {k : Int} (hm : X.mg "enumerate" = none) (h0 : -(2 ^ 63) ≤ k) (h1 : k < 2 ^ 63) (ha : PA X [e] ta) (hg : Gl X "enumerate" := by rfl)
    (g1 : backTo pos (starEach [e] X.env) = (false, eval e X.env) :: backTo pos (starEach [] X.env) := by rfl) (g2 : (backTo pos (starEach [e] X.env)).any (·.1) = false := by rfl) :
    PI X (.Tuple elts kk tpos) (.Call (.Name "enumerate" p) [e] [⟨some "start", .Constant (.int k) j p2, p3⟩] pos) (iFrom X.K k ta) := by
  constructor
  intro pins s σ H R I h
  refine wpAny_Call_Name_kw (ld_blt I hg hm boot_enumerate ?_ (by decide) (by decide))
  refine callWith_tyK (thn (ha.run pos pins s σ H _ I h) ?_) g1 g2 rfl rfl
  rintro us t1 ⟨vs, G1, I1, r1, a, xs, rfl, hq, q⟩
  have hk : PK X [⟨some "start", .Constant (.int k) j p2, p3⟩] (tCons (tC (.int k)) tNil) := pk_cons pe_int pk_nil
  refine thn (hk.run pos pins t1 σ G1 (fun zs G2 => zs = [.int k] ∧ G2 = G1) I1 ⟨rfl, rfl⟩) ?_
  rintro ws t2 ⟨zs, G2, I2, r2, rfl, rfl⟩
  match us, r1, ws, r2 with
  | [u], .cons ru .nil, [z], .cons rz .nil =>
    cases (show u = Value.ref a from ru)
    obtain ⟨tk, rfl⟩ := (show ∃ t, z = Value.int k t from rz)
    obtain ⟨its, rv, pl, hz⟩ := I2.list hq
    refine enum_begins_start (begins_list a its.toArray) pl.isList h0 h1 fun h' he hit hsz hkeep => wpAny_pyIter_enum he ?_
    have I3 : Inv X pins σ G2 { t2 with heap := h' } := I2.kept (t' := t2.toks) hkeep
    refine ⟨t2.heap.objs.size + 1, [t2.heap.objs.size + 1, t2.heap.objs.size], _, _, G2, rfl, I3, turn_from a (t2.heap.objs.size + 1) t2.heap.objs.size k, ⟨⟨.none, ?_⟩, ⟨_, hit, rfl, rfl⟩, Nat.succ_ne_self _⟩, fun b hb => ?_, q⟩
    · rw [show k + ((0 : Nat) : Int) = k by omega]; exact he
    · have le : t2.heap.objs.size ≤ b := by
        rcases List.mem_cons.mp hb with rfl | hb
        · exact Nat.le_add_right _ _
        · cases List.mem_singleton.mp hb; exact Nat.le_refl _
      exact I2.fpOk le (I2.hok.fresh le)
/-- min([], default=d) -/
theorem call_min0 (hc : X.calm = true) (hu : X.A.units + 64 < cLine) : CallRK X (.builtin "min") ["default"] (fun xs zs G Q => ∃ a d, xs = [.ref a] ∧ zs = [d] ∧ SqL X.K G a [] ∧ Q d G) := by
  intro pins s σ H xs zs us ws Q I r1 r2 h
  obtain ⟨a, d, rfl, rfl, hq, q⟩ := h
  match us, r1, ws, r2 with
  | [u], .cons ru .nil, [z], .cons rz .nil =>
    cases (show u = Value.ref a from ru)
    obtain ⟨its, rv, pl, hz⟩ := I.list hq
    cases rv
    refine PySem.W.min_list_default (xs := []) (as := []) (I.ok.hd hc) pl.isList .nil ⟨fun _ z => (List.not_mem_nil z).elim, fun _ z => (List.not_mem_nil z).elim⟩ (by simp only [PyData.depthAll]; omega) (fun _ h' tk k => ⟨d, H, I.kept (t' := tk) k, rz, q⟩) (fun y ys i v h' tk bs e => nomatch e)
end
end Nd
/-! ## len(o), o[i], o == p, o != p of an own class with its own methods -/
namespace Dun
open PySem PySem.Spec PyProof.Rows L2
section
variable {X : Cx} {n : Nat} {CX : CXT} {C f : Addr} {fd : FuncData} {ps : List Str} {sp : Sp} {E : XK}
/-- a def called at some room below -/
theorem run_at {A : Around} {pins : List (Addr × Obj)} {σ : L2.St} {H : Hp} {s : Shared} {Q : VK} {us : List Value} {vs : List V} (F : FnOk X.prog X.w X.K X.mg X.base CX n f fd ps sp) (sb : L2.Sub X n A) (hb : Binds X.K fd ps []) (hx : Passes CX X E)
    (I : Inv X pins σ H s) (r : Vals vs us) (h : sp vs H Q E) : wpAny (model X.prog X.w) A (call (.ref f) us) (EP X pins σ Q) X.xe s := by
  have hl : us.length = ps.length := by rw [← r.length]; exact F.len _ _ _ _ h
  have e0 : Env0 X.prog X.w X.K X.mg X.base A X.stack s H := by
    have e := I.env0
    exact ⟨by rw [sb.fr]; exact e.frames, e.mod, e.bs, e.bsz, e.funs, e.frf, e.hok, e.bare⟩
  refine wpAny_call (codeAny_mono (F.run A X.stack s H ⟨us, []⟩ us vs Q E sb.room e0 (by
    have z := hb s us I.kIn (by simpa using hl)
    simpa using z) r h) fun r s' hq => ?_)
  cases r with
  | error e => exact hx pins σ H s e s' I hq
  | ok fl =>
    cases fl with
    | ret u => exact I.after hq
    | next => exact False.elim hq
    | brk => exact False.elim hq
    | cont => exact False.elim hq
theorem cmp_back {pins : List (Addr × Obj)} {σ : L2.St} {Q : VK} {v : Value} {s' : Shared} (h : EP X pins σ Q v s') : PySem.W.CmpBack (EP X pins σ Q) v s' := by
  obtain ⟨z, H', I, r, q⟩ := h
  cases v with
  | notImplemented => cases z <;> first | exact (nomatch (show Value.notImplemented = _ from r)) | (obtain ⟨t, e⟩ := r; cases e) | cases r
  | _ => exact ⟨z, H', I, r, q⟩
/-- a dunder of the class at C is the def at f -/
structure Dn (K : PySem.W.Frag) (C : Addr) (nm : Str) (f : Addr) : Prop where
  hs : PySem.W.findIn K (.ref C) nm = some (some (.ref f))
  hf : PySem.W.isFn K (.ref f) = true
  fn : PySem.W.fnIn K f = true
/-- o[i] -/
def tIxO (C : Addr) (sp : Sp) (E : XK) (ta tb : TE) : TE := fun σ H Q => ta σ H fun x H1 => tb σ H1 fun y H2 => ∃ a dx fs, x = .ref a ∧ H2 a = some (.ins C dx fs) ∧ sp [.ref a, y] H2 Q E
theorem pe_ixO {a b : Expr} {ta tb : TE} {pos : Pos} (F : FnOk X.prog X.w X.K X.mg X.base CX n f fd ps sp) (hr : Room (n + 1) X.A) (d : Dn X.K C "__getitem__" f) (hb : Binds X.K fd ps []) (hx : Passes CX X E) (ha : PE X a ta) (hi : PE X b tb)
    (hsl : ∀ o i, subscripted b true o i = runValue (.builtin "lifetime.subscript" ⟨[o, i], []⟩) := by intro _ _; rfl) :
    PE X (.Subscript a b pos) (tIxO C sp E ta tb) := by
  refine ⟨fun pins s σ H Q I h => ?_⟩
  refine Subscript_ (binT ha hi I h fun v u s2 x y H2 I2 rx ry q => ?_)
  obtain ⟨p, dx, fs, rfl, hp, q⟩ := q
  cases (show v = Value.ref p from rx)
  obtain ⟨mA, J, _⟩ := ins_get I2.hok hp
  obtain ⟨od, J, _⟩ := J.look
  obtain ⟨m, hF⟩ := I2.fr
  exact PySem.W.sub_K hF I2.ok.mod.kin J d.hs d.fn d.hf (run_at (A := X.A.in1) F ⟨hr.in1, rfl⟩ hb hx I2 (.cons (show L2.RelV (.ref p) (.ref p) from rfl) (.cons ry .nil)) q) (hsl _ _)
/-- len(o) -/
theorem call_lenO (F : FnOk X.prog X.w X.K X.mg X.base CX n f fd ps sp) (hr : Room (n + 1) X.A) (d : Dn X.K C "__len__" f) (hb : Binds X.K fd ps []) (hx : Passes CX X E) :
    CallR X (.builtin "len") (fun xs H Q => ∃ a dx fs, xs = [.ref a] ∧ H a = some (.ins C dx fs) ∧ sp [.ref a] H (fun v H' => ∃ z : Int, v = .int z ∧ 0 ≤ z ∧ z < 2 ^ 63 ∧ Q (.int z) H') E) := by
  intro pins s σ H xs us Q I r h
  obtain ⟨a, dx, fs, rfl, ha, q⟩ := h
  obtain ⟨u, rfl, ru⟩ := vals1 r
  cases (show u = Value.ref a from ru)
  obtain ⟨mA, J, _⟩ := ins_get I.hok ha
  obtain ⟨od, J, _⟩ := J.look
  obtain ⟨m, hF⟩ := I.fr
  refine PySem.W.len_K hF I.ok.mod.kin J d.hs d.hf (wpAny_mono (run_at (A := X.A.in1) F ⟨hr.in1, rfl⟩ hb hx I (.cons (show L2.RelV (.ref a) (.ref a) from rfl) .nil) q) (fun v s' hv => ?_) fun _ _ z => z)
  obtain ⟨_, H', I', rv, z, rfl, z0, z1, qz⟩ := hv
  obtain ⟨t, rfl⟩ := (show ∃ t, v = Value.int z t from rv)
  exact ⟨⟨z0, z1⟩, .int z, H', I'.tok _, ⟨_, rfl⟩, qz⟩
/-- what stands on the right -/
inductive Rt (K : PySem.W.Frag) (H : Hp) (C : Addr) : V → Prop
  | own {b dy : Addr} {gs : List (Str × V)} (h : H b = some (.ins C dy gs)) : Rt K H C (.ref b)
  | str (x : Str) (h : PySem.W.subIn K (.type "str") (.ref C) = some false) : Rt K H C (.str x)
theorem rt_looks {pins : List (Addr × Obj)} {σ : L2.St} {H : Hp} {s : Shared} {y : V} {u : Value} (I : Inv X pins σ H s) (r : RelV y u) (h : Rt X.K H C y) : ∃ tb, PySem.W.Looks (model X.prog X.w) s.heap (typeOf u) tb ∧ PySem.W.notFirst X.K C tb = true := by
  cases h with
  | @own b dy gs h =>
    cases (show u = Value.ref b from r)
    obtain ⟨mB, J, _⟩ := ins_get I.hok h
    obtain ⟨od, J, _⟩ := J.look
    exact ⟨_, J.type, by simp [PySem.W.notFirst]⟩
  | str x h =>
    obtain ⟨t, rfl⟩ := (show ∃ t, u = Value.str x t from r)
    refine ⟨.type "str", PySem.W.Looks.of_pure rfl, ?_⟩
    unfold PySem.W.notFirst
    rw [h]
    simp
def rEqO (K : PySem.W.Frag) (C : Addr) (sp : Sp) (E : XK) : R2 := fun x y H Q => ∃ a dx fs, x = .ref a ∧ H a = some (.ins C dx fs) ∧ Rt K H C y ∧ sp [.ref a, y] H Q E
theorem op_eqO (F : FnOk X.prog X.w X.K X.mg X.base CX n f fd ps sp) (hr : Room n X.A) (d : Dn X.K C "__eq__" f) (hb : Binds X.K fd ps []) (hx : Passes CX X E) : OpR X (compareOp .Eq) (rEqO X.K C sp E) := by
  intro pins s σ H x y v u Q I rx ry h
  obtain ⟨a, dx, fs, rfl, ha, hy, q⟩ := h
  cases (show v = Value.ref a from rx)
  obtain ⟨tb, hl, hn⟩ := rt_looks I ry hy
  obtain ⟨mA, J, _⟩ := ins_get I.hok ha
  obtain ⟨od, J, _⟩ := J.look
  obtain ⟨m, hF⟩ := I.fr
  exact PySem.W.cmp_K (op := .Eq) hr.units0 hF I.ok.mod.kin J hl hn d.hs d.hf (wpAny_mono (run_at F ⟨hr, rfl⟩ hb hx I (.cons (show L2.RelV (.ref a) (.ref a) from rfl) (.cons ry .nil)) q) (fun v s' hv => cmp_back hv) fun _ _ z => z)
/-- != without an own one: the other answer of == -/
theorem objNe {A : Around} {s : Shared} {x L : Addr} {b : Value} {h₀ : Heap} {ox : Obj} {od : Option Obj} {K : PySem.W.Frag} {Q : Fin → Shared → Prop} {E : Value → Shared → Prop} (hu : A.units < cLine) (XK : K.In s.heap) (J : PySem.W.InstAt s.heap x ox C od) (d : Dn K C "__eq__" f)
    (h : wpAny (model X.prog X.w) A (call (.ref f) [.ref x, b]) (fun v s' => ∃ z, v = .bool z ∧ Q (.done (.ret (.bool (!z)))) s') E s) :
    wpAny (model X.prog X.w) A (Builtin.«object.__ne__» ⟨[.ref x, b], []⟩) Q E s := by
  unfold Builtin.«object.__ne__»
  refine wpAny_bind (wpAny_pure ?_)
  refine wpAny_bind (wpAny_cRoomFor hu ?_)
  refine wpAny_bind (PySem.W.ifBound_K XK J d.hs d.hf (wpAny_mono h (fun v s' hv => ?_) fun _ _ z => z))
  obtain ⟨z, rfl, q⟩ := hv
  exact wpAny_bind (wpAny_truthy_bool (wpAny_pure q))
def rNeO (K : PySem.W.Frag) (C : Addr) (sp : Sp) (E : XK) : R2 := fun x y H Q => ∃ a dx fs, x = .ref a ∧ H a = some (.ins C dx fs) ∧ Rt K H C y ∧ sp [.ref a, y] H (fun v H' => ∃ z, v = .bl z ∧ Q (.bl (!z)) H') E
theorem op_neO (F : FnOk X.prog X.w X.K X.mg X.base CX n f fd ps sp) (hr : Room (n + 1) X.A) (d : Dn X.K C "__eq__" f) (hno : PySem.W.findIn X.K (.ref C) "__ne__" = some (some (.builtin "object.__ne__"))) (hm : PySem.W.mroIn X.K C (.type "object") = some true) (hb : Binds X.K fd ps []) (hx : Passes CX X E) : OpR X (compareOp .NotEq) (rNeO X.K C sp E) := by
  intro pins s σ H x y v u Q I rx ry h
  obtain ⟨a, dx, fs, rfl, ha, hy, q⟩ := h
  cases (show v = Value.ref a from rx)
  obtain ⟨tb, hl, hn⟩ := rt_looks I ry hy
  obtain ⟨mA, J, _⟩ := ins_get I.hok ha
  obtain ⟨od, J, _⟩ := J.look
  obtain ⟨m, hF⟩ := I.fr
  have XK := I.ok.mod.kin.keeps hF.keep
  have body : wpAny (model X.prog X.w) X.A (call (.builtin "object.__ne__") [.ref a, u]) (fun v s' => ∃ z, v = .bool z ∧ EP X pins σ Q (.bool z) s') X.xe s := by
    refine wpAny_call (codeAny_call_builtin PySem.F.cmp_object.ne.plain PySem.F.cmpEntry_ne (PySem.W.check_slot PySem.F.cmpKind_ne PySem.F.cmpSplit_ne (J.type.andThen (PySem.W.looks_mroIn XK hm)) (PySem.F.cmpArgs_ne _ _) ?_))
    refine objNe (A := X.A.in1) (L := a) (h₀ := X.base) hr.in1.units0 XK J d (wpAny_mono (run_at (A := X.A.in1) F ⟨hr.in1, rfl⟩ hb hx I (.cons (show L2.RelV (.ref a) (.ref a) from rfl) (.cons ry .nil)) q) (fun v s' hv => ?_) fun _ _ z => z)
    obtain ⟨_, H', I', rv, z, rfl, qz⟩ := hv
    cases (show v = Value.bool z from rv)
    exact ⟨z, rfl, ⟨!z, rfl, ⟨V.bl (!z), H', I', rfl, qz⟩⟩⟩
  have one : wpAny (model X.prog X.w) X.A (tryCompare (.ref a) "__ne__" u) (fun r s' => ∃ z, r = some (.bool z) ∧ EP X pins σ Q (.bool z) s') X.xe s := by
    unfold tryCompare
    refine wpAny_bind ?_
    simp only [callSpecialIfBound?, bindSpecialIfBound?]
    refine wpAny_holding (wpAny_bind (wpAny_bind (wpAny_bind (J.type.here ((PySem.W.looks_findIn XK hno).here ?_)))))
    refine wpAny_bind (wpAny_askSetting (wpAny_ite ?_))
    have fin : wpAny (model X.prog X.w) X.A (call (.builtin "object.__ne__") ([.ref a] ++ [u]) >>= fun v => pure (some v)) (fun r s' => wpAny (model X.prog X.w) X.A (match r with | some .notImplemented => pure none | none => pure none | some v => pure (some v)) (fun r s' => ∃ z, r = some (.bool z) ∧ EP X pins σ Q (.bool z) s') X.xe s') X.xe s :=
      wpAny_bind (wpAny_mono body (fun v s' h' => wpAny_pure (by obtain ⟨z, rfl, q⟩ := h'; exact wpAny_pure ⟨z, rfl, q⟩)) fun _ _ h' => h')
    split
    · exact wpAny_bind (wpAny_of_eq (PySem.F.cmp_object.ne.bind _) (wpAny_pure (by exact fin)))
    · exact wpAny_tryCatch (wpAny_bind (wpAny_of_eq (PySem.F.cmp_object.ne.bind _) (wpAny_pure (by exact fin))))
  show wpAny (model X.prog X.w) X.A (richCompare .NotEq (.ref a) u) (EP X pins σ Q) X.xe s
  unfold richCompare
  simp only [oneThing_ref]
  refine wpAny_holding (wpAny_bind (wpAny_cRoomFor hr.units0 ?_))
  refine wpAny_bind (J.type.here (wpAny_bind (hl.here ?_)))
  have last : wpAny (model X.prog X.w) X.A (tryCompare (.ref a) "__ne__" u) (fun r s' => ∃ v, r = some v ∧ EP X pins σ Q v s') X.xe s := wpAny_mono one (fun r s' z => by obtain ⟨z, rfl, q⟩ := z; exact ⟨_, rfl, q⟩) fun _ _ z => z
  split
  · rename_i q
    have e : PySem.W.subIn X.K tb (.ref C) = some false := by
      rcases Bool.or_eq_true_iff.mp hn with e | e
      · rw [beq_iff_eq.mp e] at q; simp at q
      · exact beq_iff_eq.mp e
    refine wpAny_bind ((PySem.W.looks_subIn XK e).here ?_)
    simp only [Bool.false_eq_true, if_false]
    refine wpAny_bind (wpAny_mono last (fun r s' z => ?_) fun _ _ e => e)
    obtain ⟨v, rfl, hq⟩ := z
    exact wpAny_pure hq
  · refine wpAny_bind (wpAny_pure ?_)
    simp only [Bool.false_eq_true, if_false]
    refine wpAny_bind (wpAny_mono last (fun r s' z => ?_) fun _ _ e => e)
    obtain ⟨v, rfl, hq⟩ := z
    exact wpAny_pure hq
end
end Dun
/-! ## tuples item by item the same; in over a tuple of data; {k: True for x in list} by an invariant -/
namespace Dun
open PySem PySem.Spec PyProof.Rows L2
section
variable {X : Cx}
/-- a value that is equal to itself at any time -/
def selfV : V → Bool
  | .non => true
  | .bl _ => true
  | .int _ => true
  | .str _ => true
  | .ref _ => true
  | _ => false
theorem self_eqAt {A : Around} {s : Shared} {x : V} {u v : Value} (ru : RelV x u) (rv : RelV x v) (h : selfV x = true) : SeqAt.EqAt A s u v true := by
  have fl : ∀ {z : V}, flatV z = true → eqV z z = true → RelV z u → RelV z v → SeqAt.EqAt A s u v true := fun hf he r1 r2 => by
    have q := eqAt_V (A := A) (s := s) r1 r2 hf hf
    rw [he] at q
    exact q
  cases x with
  | non => exact fl rfl rfl ru rv
  | bl b => exact fl rfl (by simp [eqV]) ru rv
  | int i => exact fl rfl (by simp [eqV]) ru rv
  | str y => exact fl rfl (by simp [eqV]) ru rv
  | ref a =>
    cases (show u = Value.ref a from ru)
    cases (show v = Value.ref a from rv)
    exact SeqAt.EqAt.same _
  | _ => cases h
/-- t != u, two tuples of the same items -/
def rNeSame (K : PySem.W.Frag) : R2 := fun x y H Q => ∃ a b xs, x = .ref a ∧ y = .ref b ∧ SqT K H a xs ∧ SqT K H b xs ∧ xs.all selfV = true ∧ Q (.bl false) H
theorem op_neSame (hu : X.A.units < cLine) : OpR X (compareOp .NotEq) (rNeSame X.K) := by
  intro pins s σ H x y v u Q I rx ry h
  obtain ⟨a, b, xs, rfl, rfl, ha, hb, hs, q⟩ := h
  cases (show v = Value.ref a from rx)
  cases (show u = Value.ref b from ry)
  obtain ⟨its, r, e, z⟩ := I.tuple ha
  obtain ⟨its2, r2, e2, z2⟩ := I.tuple hb
  have hsz : its.toArray.size = its2.toArray.size := by rw [List.size_toArray, List.size_toArray, ← r.length, ← r2.length]
  refine SeqAt.RcNeAt.tuples (e := fun _ => true) e e2 hu (fun j h1 h2 => ?_) X.prog X.w X.xe _ ?_
  · have g1 : its[j]? = some its.toArray[j] := by
      have h1' : j < its.length := by simpa using h1
      rw [List.getElem?_eq_getElem h1'] <;> simp
    have g2 : its2[j]? = some its2.toArray[j] := by
      have h2' : j < its2.length := by simpa using h2
      rw [List.getElem?_eq_getElem h2'] <;> simp
    have k1 : j < xs.length := by rw [r.length]; simpa using h1
    obtain ⟨u, hu1, ru⟩ := r.get (List.getElem?_eq_getElem k1)
    obtain ⟨v, hv1, rv⟩ := r2.get (List.getElem?_eq_getElem k1)
    rw [g1] at hu1
    rw [g2] at hv1
    rw [Option.some.inj hu1, Option.some.inj hv1]
    exact self_eqAt ru rv (List.all_eq_true.mp hs _ (List.getElem_mem k1))
  · have hh : (!((List.range (min its.toArray.size its2.toArray.size)).all (fun _ => true) && its.toArray.size == its2.toArray.size)) = false := by
      rw [hsz]
      simp
    rw [hh]
    exact ⟨.bl false, H, I, rfl, q⟩
def rInDT (K : PySem.W.Frag) : R2 := fun x y H Q => ∃ d ds, Dp K H x d ∧ Dp K H y (.tuple ds) ∧ SeqAt.shaped d = true ∧ SeqAt.shaped (.tuple ds) = true ∧ Q (.bl (ds.any fun z => PyData.eqv z d)) H
theorem op_inDT (hu : X.A.units + 65 < cLine) : OpR X (compareOp .In) (rInDT X.K) := by
  intro pins s σ H x y v u Q I rx ry h
  obtain ⟨d, ds, hd, he, sd, se, q⟩ := h
  obtain ⟨as, r1⟩ := Dp.reads I d x v hd rx
  obtain ⟨bs, r2⟩ := Dp.reads I (.tuple ds) y u he ry
  exact SeqAt.in_tuple_reads r2 r1 (SeqAt.canLay_of_shaped se) (SeqAt.canLay_of_shaped sd) (room_in_shaped sd hu) ⟨.bl _, H, I, rfl, q⟩
end
/-- {key: True for x in list}: Pv i says what stands behind i turns -/
theorem ndc_list {P : Program} {w : World} {K : PySem.W.Frag} {a D : Addr} {xs : List V} {g : TG} {tt : TT} {tk tv : TE} {vs : List Nat} {σ : L2.St} {H : Hp} {Qd : Hp → Prop} (Pv : Nat → Hp → Prop) (h0 : Pv 0 (upd H D (Nd.ndO P w D [])))
    (hl : ∀ i H', i ≤ xs.length → Pv i H' → SqL K H' a xs)
    (hs : ∀ i x H', xs[i]? = some x → Pv i H' → g x (wipe σ vs) H' fun ρ H1 => wipe ρ vs = wipe σ vs ∧ tt ρ H1 fun b H4 => if b = true then tk ρ H4 fun y H2 => tv ρ H2 fun z H3 => Nd.NdTurn P w K D y z H3 (Pv (i + 1)) else Pv (i + 1) H4)
    (hd : ∀ H', Pv xs.length H' → Qd H') :
    ∃ W : Nat → Nat → Hp → Prop, (∃ m, W 0 m (upd H D (Nd.ndO P w D []))) ∧ ∀ i m G1, W i m G1 →
    ((Itl K a).stop i G1 ∧ Qd G1) ∨ ((Itl K a).go i G1 ∧ ∃ Nx : Hp → Prop, (∀ G2, Nx G2 → ∃ m', m' < m ∧ W (i + 1) m' G2) ∧ ∀ x G2, (Itl K a).yld i G1 x G2 → g x (wipe σ vs) G2 fun ρ G3 => wipe ρ vs = wipe σ vs ∧ tt ρ G3 fun b G4 =>
      if b = true then tk ρ G4 fun y G5 => tv ρ G5 fun z G6 => Nd.NdTurn P w K D y z G6 Nx else Nx G4) := by
  refine ⟨fun i m H => m = xs.length - i ∧ i ≤ xs.length ∧ Pv i H, ⟨xs.length, by simp, Nat.zero_le _, h0⟩, ?_⟩
  rintro i m H ⟨rfl, hi, p⟩
  have q := hl i H hi p
  by_cases hlt : i < xs.length
  · refine .inr ⟨⟨xs, xs[i], q, by simp [hlt]⟩, Pv (i + 1), fun H' p' => ⟨xs.length - (i + 1), by omega, rfl, hlt, p'⟩, fun x H' y => ?_⟩
    obtain ⟨e, y⟩ := y
    subst e
    exact hs i x _ (y xs q) p
  · have e : i = xs.length := by omega
    subst e
    exact .inl ⟨⟨xs, q, Nat.le_refl _⟩, hd H p⟩
/-- for n, x in enumerate(xs, start=k) -/
theorem for_from {K : PySem.W.Frag} {a : Addr} {k : Int} {xs : List V} {g : TG} {tb : TS} {D : Ends} {σ : L2.St} {H : Hp} (Pv : Nat → L2.St → Hp → Prop) (h0 : Pv 0 σ H) (hl : ∀ i σ H, i ≤ xs.length → Pv i σ H → SqL K H a xs)
    (hs : ∀ i x σ H T, xs[i]? = some x → Pv i σ H → H T = none → g (.ref T) σ (upd H T (.tup [.int (k + (i : Int)), x])) fun σ2 H2 => tb { D with nx := Pv (i + 1), ct := Pv (i + 1), bk := D.nx } σ2 H2) (hd : ∀ σ H, Pv xs.length σ H → D.nx σ H) :
    ∃ W : Nat → Nat → L2.St → Hp → Prop, (∃ m, W 0 m σ H) ∧ ∀ i m σ H, W i m σ H →
      ((Nd.ItS K a k).stop i H ∧ D.nx σ H) ∨ ((Nd.ItS K a k).go i H ∧ ∃ N : L2.St → Hp → Prop, (∀ σ' H', N σ' H' → ∃ m', m' < m ∧ W (i + 1) m' σ' H') ∧ ∀ x H', (Nd.ItS K a k).yld i H x H' → g x σ H' fun σ2 H2 => tb { D with nx := N, ct := N, bk := D.nx } σ2 H2) := by
  refine ⟨fun i m σ H => m = xs.length - i ∧ i ≤ xs.length ∧ Pv i σ H, ⟨xs.length, by simp, Nat.zero_le _, h0⟩, ?_⟩
  rintro i m σ H ⟨rfl, hi, p⟩
  have q := hl i σ H hi p
  by_cases hlt : i < xs.length
  · refine .inr ⟨⟨xs, xs[i], q, by simp [hlt]⟩, Pv (i + 1), fun σ' H' p' => ⟨xs.length - (i + 1), by omega, rfl, hlt, p'⟩, fun x H' y => ?_⟩
    obtain ⟨T, z, rfl, nT, rfl, y⟩ := y
    exact hs i z σ H T (y xs q) p nT
  · have e : i = xs.length := by omega
    subst e
    exact .inl ⟨⟨xs, q, rfl⟩, hd σ H p⟩
/-! ### heaps -/
theorem free_upd {H : Hp} {a b : Addr} {o : HO} (h : L2.upd H a o b = none) : H b = none ∧ b ≠ a := by
  have n : b ≠ a := fun e => by rw [e, upd_same] at h; cases h
  rw [upd_ne n] at h
  exact ⟨h, n⟩
theorem free_same {H H' : Hp} {a : Addr} (e : Same H H') (h : H' a = none) : H a = none := by
  cases q : H a with
  | none => rfl
  | some o => rw [e _ _ q] at h; cases h
theorem same_out {H G : Hp} {a : Addr} {o : HO} (e : Same H G) (h : H a = none) : Same H (L2.upd G a o) := fun b u q => by
  rw [upd_ne (ne_of_none q h)]
  exact e b u q
theorem same_new {H G : Hp} {a : Addr} {o : HO} (e : Same H G) (h : G a = none) : Same H (L2.upd G a o) := same_out e (free_same e h)
theorem sqt_tups {K : PySem.W.Frag} {H H' : Hp} {a : Addr} {xs : List V} (e : Nd.Tups H H') (h : SqT K H a xs) : SqT K H' a xs := h.elim (fun z => .inl (e _ _ z)) .inr
theorem tups_lst {H : Hp} {a : Addr} {ys : List V} {o : HO} (h : H a = some (.lst ys)) : Nd.Tups H (L2.upd H a o) := Nd.Tups.upd fun xs r => by
  rcases r with r | ⟨z, r⟩
  · rw [h] at r; cases r
  · rw [h] at r; cases r
theorem tups_ins {H : Hp} {a C dx : Addr} {fs : List (Str × V)} {o : HO} (h : H a = some (.ins C dx fs)) : Nd.Tups H (L2.upd H a o) := Nd.Tups.upd fun xs r => by
  rcases r with r | ⟨z, r⟩
  · rw [h] at r; cases r
  · rw [h] at r; cases r
theorem sql_ne {K : PySem.W.Frag} {H : Hp} {a b : Addr} {xs : List V} {o : HO} (h : SqL K H a xs) (n : a ≠ b) : SqL K (L2.upd H b o) a xs := by
  rcases h with (h | ⟨z, h⟩) | h
  · exact .inl (.inl (by rw [upd_ne n]; exact h))
  · exact .inl (.inr ⟨z, by rw [upd_ne n]; exact h⟩)
  · exact .inr h
theorem sqt_list_same {K : PySem.W.Frag} {H H' : Hp} {a : Addr} {xs : List V} (h : SqL K H a xs) (e : Same H H') : SqL K H' a xs := by
  rcases h with (h | ⟨o, h⟩) | h
  · exact .inl (.inl (e _ _ h))
  · exact .inl (.inr ⟨o, e _ _ h⟩)
  · exact .inr h
end Dun
/-! ## own instances made, own methods called, where what is raised is wished for at the caller's slots -/
namespace Mkx
open PySem PySem.Spec PyProof.Rows L2
/-- nothing is raised after all -/
theorem pass_no {X : Cx} : Passes (L2.CX X.prog X.w) X (fun _ _ _ => False) := fun pins σ H s e s' I c => by
  obtain ⟨_, _, _, _, _, _, _, _, _, _, _, _, no⟩ := c
  exact no.elim
def tMakeS (C : Addr) (sp : Sp) (W : WX) (ta : TA) : TE := fun σ H Q => ta σ H fun vs G => ∀ x dx, G x = none → G dx = none → dx ≠ x →
  sp (.ref x :: vs) (upd (upd G dx (.own x)) x (.ins C dx [])) (fun v G2 => v = .non ∧ Q (.ref x) G2) (WE W σ)
def tMethS (C : Addr) (nm : Str) (sp : Sp) (W : WX) (to : TE) (ta : TA) : TE := fun σ H Q => to σ H fun x G => ∃ a dx fs, x = .ref a ∧ G a = some (.ins C dx fs) ∧ fs.lookup nm = none ∧ ta σ G fun vs G2 => sp (x :: vs) G2 Q (WE W σ)
section
variable {X : Cx} {W : WX} {n : Nat} {C g : Addr} {fd : FuncData} {ps : List Str} {sp : Sp} {x nm : Str} {p pos apos : Pos} {e o : Expr} {es : List Expr} {to : TE} {ta : TA}
theorem run_mkS {pins : List (Addr × Obj)} {σ : L2.St} {G : Hp} {t : Shared} {Q : VK} {us : List Value} {vs : List V} (M : Mk X.K C g) (F : FnOk X.prog X.w X.K X.mg X.base (L2.CX X.prog X.w) n g fd ps sp) (room : Room (n + 1) X.A) (bd : Binds X.K fd ps []) (tk : Takes X W) (J : Inv X pins σ G t) (rv : Vals vs us)
    (want : ∀ x dx, G x = none → G dx = none → dx ≠ x → sp (.ref x :: vs) (upd (upd G dx (.own x)) x (.ins C dx [])) (fun v G2 => v = .non ∧ Q (.ref x) G2) (WE W σ)) : wpAny (model X.prog X.w) X.A (call (.ref C) us) (EP X pins σ Q) X.xe t := by
  have go := want (t.heap.objs.size + 1) t.heap.objs.size (J.hok.fresh (Nat.le_succ _)) (J.hok.fresh (Nat.le_refl _)) (Nat.ne_of_lt (Nat.lt_succ_self _))
  have J2 := Inv.made (C := C) J
  have both : Vals (V.ref (t.heap.objs.size + 1) :: vs) (Value.ref (t.heap.objs.size + 1) :: us) := .cons rfl rv
  have len : (Value.ref (t.heap.objs.size + 1) :: us).length = ps.length := both.length.symm.trans (F.len _ _ _ _ go)
  have binds := bd _ (Value.ref (t.heap.objs.size + 1) :: us) J2.kIn (by rw [List.append_nil]; exact len)
  rw [List.append_nil] at binds
  refine wpAny_call (make_map (f := g) J.kIn M.makes M.init (beq_iff_eq.mp M.fn) (codeAny_mono (F.run _ X.stack _ _ ⟨Value.ref (t.heap.objs.size + 1) :: us, []⟩ _ _ _ (WE W σ) (room.make C us []) (J2.env0.make C us []) binds both go) fun r t' done => ?_))
  match r, done with
  | .error er, done => exact passAt tk σ pins _ _ er t' J2 done
  | .ok (.ret u), done =>
    obtain ⟨v, G', J3, rr, ev, q3⟩ := J2.after done
    subst ev
    exact ⟨rr, ⟨V.ref (t.heap.objs.size + 1), G', J3, rfl, q3⟩⟩
  | .ok .next, done => exact False.elim done
  | .ok .brk, done => exact False.elim done
  | .ok .cont, done => exact False.elim done
theorem pe_makeS (M : Mk X.K C g) (F : FnOk X.prog X.w X.K X.mg X.base (L2.CX X.prog X.w) n g fd ps sp) (room : Room (n + 1) X.A) (gl : Gl X x) (hm : X.mg x = some (.ref C)) (bd : Binds X.K fd ps []) (tk : Takes X W) (args : PA X (e :: es) ta)
    (hdb : (x == ("__debug__" : Str)) = false := by decide) (first : starEach (e :: es) X.env = (false, eval e X.env) :: starEach es X.env := by rfl) (plain : (backTo pos (starEach es X.env)).any (·.1) = false := by rfl) : PE X (.Call (.Name x p) (e :: es) [] pos) (tMakeS C sp W ta) := by
  constructor
  intro pins t σ G Q J want
  refine wpAny_Call_Name_kw (ld_glob J gl hm ?_ hdb)
  refine PySem.W.callWith_K (h₀ := X.base) J.ok.mod.kin M.kp (thn (args.run pos pins t σ G _ J want) ?_) first plain
  rintro us t1 ⟨vs, G1, J1, rv, q⟩
  exact ⟨J1.kIn, run_mkS M F room bd tk J1 rv q⟩
theorem pe_methS {pl : Sem Bool} (ho : PE X o to) (c : Cls X.K C) (m : Meth X.K C nm g) (F : FnOk X.prog X.w X.K X.mg X.base (L2.CX X.prog X.w) n g fd ps sp) (room : Room n X.A) (bd : Binds X.K fd ps []) (tk : Takes X W) (args : PA X (e :: es) ta)
    (first : starEach (e :: es) X.env = (false, eval e X.env) :: starEach es X.env := by rfl) (plain : (backTo pos (starEach es X.env)).any (·.1) = false := by rfl)
    (shape : eval (.Call (.Attribute o nm apos) (e :: es) [] pos) X.env = (eval o X.env >>= fun ov => standAt apos.atName >>= fun _ => holding [ov] (getMethod ov nm pl) >>= fun fa => callWith pos fa.1 fa.2 (backTo pos (starEach (e :: es) X.env)) (backToKw pos (keywordEach [] X.env))) := by rfl) :
    PE X (.Call (.Attribute o nm apos) (e :: es) [] pos) (tMethS C nm sp W to ta) := by
  constructor
  intro pins t σ G Q J want
  refine PySem.W.methodCall_KW (pl := pl) (thn (ho.run pins t σ G _ J want) ?_) shape
  rintro u t1 ⟨_, G1, J1, ru, a, dx, fs, rfl, ea, l, q⟩
  cases (show u = Value.ref a from ru)
  refine getmeth_ok J1 ea c m l ?_
  refine PySem.W.callWith_K (first := [.ref a]) (h₀ := X.base) J1.ok.mod.kin m.kp (thn (args.run pos pins t1 σ G1 _ J1 q) ?_) first plain
  rintro us t2 ⟨vs, G2, J2, rv, q2⟩
  exact ⟨J2.kIn, run_fnS (E := WE W) (us := .ref a :: us) (vs := .ref a :: vs) F room bd (passAt tk σ) J2 (.cons rfl rv) q2⟩
end
end Mkx
/-! ## enumerate(t), t a tuple -/
namespace PySem
set_option maxHeartbeats 1000000 in
theorem meets_enumerate_one {v : Value} {o : Obj} {H : Heap → Prop} (B : Begins v o H) :
    Meets (Builtin.«enumerate.__new__» ⟨[.type "enumerate", v], []⟩) (fun _ R s => H s.heap ∧
      R (.ok (.ret (.ref (s.heap.push o).objs.size))) { s with heap := (s.heap.push o).push { cls := .type "enumerate", data := .fields #[.none, .bool false, .ref s.heap.objs.size, rawInt 0, .none, .none] } }) :=
  .of_wp fun prog w A R s h => by
    obtain ⟨hp, g, d, tk, os⟩ := s; obtain ⟨h1, h⟩ := h
    have hsub := sub_enumerate
    have q1 : ∀ {A' : Around} {E : Value → Shared → Prop} {Q : Value → Shared → Prop}, Q (.ref hp.objs.size) ⟨hp.push o, g, d, tk, os⟩ → wpAny (model prog w) A' (pyIter v) Q E ⟨hp, g, d, tk, os⟩ :=
      fun q => B.iter prog w _ _ ⟨hp, g, d, tk, os⟩ _ h1 q
    wp_walk using q1
    refine wpAny_stack_any fun st => wpAny_pure ?_
    split
    · rename_i c _ _ _ _ _
      cases (c == Value.type "enumerate")
      · wp_walk using q1
        exact ⟨_, rfl, h⟩
      · wp_walk using q1
        exact ⟨_, rfl, h⟩
    · wp_walk using q1
      exact ⟨_, rfl, h⟩
theorem enum_begins_one {prog : Program} {w : World} {A : Around} {E : Value → Shared → Prop} {s : Shared} {v : Value} {o : Obj} {H : Heap → Prop} {Q : Value → Shared → Prop} (B : Begins v o H) (h1 : H s.heap)
    (h : ∀ h', IsEnum h' (s.heap.objs.size + 1) s.heap.objs.size 0 .none → h'.get? s.heap.objs.size = some o → h'.objs.size = s.heap.objs.size + 2 →
      (∀ b o, s.heap.get? b = some o → h'.get? b = some o) → Q (.ref (s.heap.objs.size + 1)) { s with heap := h' }) :
    wpAny (model prog w) A (call (.type "enumerate") [v]) Q E s := by
  refine callType_new F.called_enumerate (by decide) (F.typeCall_enumerate_1 _) (F.newCall_enumerate_1 _) (fun obj => F.args_object_init_2 obj _) F.entry_enumerate_new
    (meets_enumerate_one B) ⟨h1, ?_⟩
  have hz : (s.heap.push o).objs.size = s.heap.objs.size + 1 := Heap.size_push ..
  show _ ∧ _
  rw [hz]
  have he : IsEnum ((s.heap.push o).push { cls := .type "enumerate", data := .fields #[.none, .bool false, .ref s.heap.objs.size, rawInt 0, .none, .none] }) (s.heap.objs.size + 1) s.heap.objs.size 0 .none := by
    have := Heap.get?_push_size (s.heap.push o) (o := { cls := .type "enumerate", data := .fields #[.none, .bool false, .ref s.heap.objs.size, rawInt 0, .none, .none] }) rfl
    rw [hz] at this; exact this
  refine ⟨⟨_, he, rfl⟩, h _ he (Heap.get?_push_of_some _ (Heap.get?_push_size _ B.free)) (by rw [Heap.size_push, hz]) fun b o x => Heap.get?_push_of_some _ (Heap.get?_push_of_some _ x)⟩
end PySem
namespace Nd
open PySem PySem.Spec PyProof.Rows L2
/-- the tuple at a, each item in a new pair with its number -/
def ItT (K : PySem.W.Frag) (a : Addr) : It :=
  ⟨fun i G => ∃ (xs : List V) (x : V), SqT K G a xs ∧ xs[i]? = some x, fun i G v G' => ∃ T x, v = .ref T ∧ G T = none ∧ G' = upd G T (.tup [.int (i : Nat), x]) ∧ ∀ xs, SqT K G a xs → xs[i]? = some x, fun i G => ∃ xs : List V, SqT K G a xs ∧ xs.length = i⟩
theorem turn_enumT {P : Program} {w : World} {K : PySem.W.Frag} {elts : List Expr} {kk : Nat} {tpos : Pos} (a e it : Addr) :
    Turn P w K (.Tuple elts kk tpos) (ItT K a) [e, it] e (fun i h => (∃ o, IsEnum h e it (i : Nat) o) ∧ h.IsTupleIter it a i ∧ e ≠ it) where
  mem := List.mem_cons_self
  obj := by
    rintro i h ⟨⟨o, he⟩, ⟨ob, ho, hc, hd⟩, _⟩ b hb
    rcases List.mem_cons.mp hb with rfl | hb
    · exact ⟨_, he, fun v z => nomatch z⟩
    · cases List.mem_singleton.mp hb
      exact ⟨ob, ho, fun v z => by rw [hd] at z; cases z⟩
  keep := fun i h h' ⟨⟨o, he⟩, hi, ne⟩ st => ⟨⟨o, st e (by simp) _ he⟩, hi.at fun ob z => st it (by simp) ob z, ne⟩
  item := by
    intro X hP hw hK hc i pins s σ H E I hf st hg
    subst hP hw hK
    obtain ⟨⟨o, he⟩, hit, ne⟩ := st
    obtain ⟨xs, x, hq, hx⟩ := hg
    obtain ⟨its, rv, p, hz⟩ := I.tuple hq
    obtain ⟨u, hu, ru⟩ := rv.get hx
    have le : e < s.heap.objs.size := Heap.lt_size he
    have li : it < s.heap.objs.size := by obtain ⟨_, q, _⟩ := hit; exact Heap.lt_size q
    have ha : s.heap.IsTuple a its.toArray := p
    have nai : a ≠ it := fun z => by
      obtain ⟨o1, q1, c1, _⟩ := ha
      obtain ⟨o2, q2, c2, _⟩ := hit
      rw [z, q2] at q1
      cases q1
      rw [c1] at c2
      exact absurd (Value.type.inj c2) (by decide)
    have nae : e ≠ a := fun z => by
      obtain ⟨o1, q1, c1, _⟩ := ha
      rw [← z, he] at q1
      cases q1
      exact absurd (Value.type.inj (show Value.type "enumerate" = Value.type "tuple" from c1)) (by decide)
    have lt : i < its.toArray.size := by
      have := (List.getElem?_eq_some_iff.mp hu).1
      simpa using this
    refine wpAny_pyNext_enum_itemC (Draws.tuple (A := X.A.in1) (I.ok.hd hc) it a nai its.toArray) he ⟨hit, ha⟩ lt ne (by simp [ne, nae]) fun y h' tk hy ho hst hT hsz stay => ?_
    have ey : y = u := by
      have z : its.toArray[i]? = some y := hy
      rw [List.getElem?_toArray, hu] at z
      exact (Option.some.inj z).symm
    subst ey
    refine ⟨_, rfl, wpAny_letOwnedTupleGo_enum (s := { s with heap := h', toks := tk + 1 }) ho fun h2 he2 sb => ?_⟩
    have hT2 : h2.get? s.heap.objs.size = some { cls := .type "tuple", data := .seq #[.int (i : Nat) tk, y] } := (sb.2 _ (Nat.ne_of_gt le)).trans hT
    have new : ObjOk X.prog X.w (upd H s.heap.objs.size (.tup [.int (i : Nat), x])) h2 s.heap.objs.size (.tup [.int (i : Nat), x]) :=
      ⟨by show 2 ≤ sizeLine; decide, [.int (i : Nat) tk, y], .cons ⟨_, rfl⟩ (.cons ru .nil), ⟨_, hT2, rfl, _, rfl⟩⟩
    have I1 : Inv X pins σ (upd H s.heap.objs.size (.tup [.int (i : Nat), x])) { s with heap := h2, toks := tk + 1 } :=
      I.turnedNew (ch := [e, it]) (fun b ob hb q => (sb.2 b (fun z => hb (by simp [z]))).trans (stay b ob (fun z => hb (by simp [z])) (fun z => hb (by simp [z])) q)) hf (Nat.le_refl _) new
    refine ⟨.ref s.heap.objs.size, _, I1, rfl, ⟨_, x, rfl, I.hok.fresh (Nat.le_refl _), rfl, fun ys hy' => by rw [I.tuple_inj hy' hq]; exact hx⟩, ⟨⟨y, ?_⟩, hst.1.at fun ob q => (sb.2 it (Ne.symm ne)).trans q, ne⟩, fun b hb => ?_⟩
    · rw [show ((i + 1 : Nat) : Int) = (i : Int) + 1 by omega]; exact he2
    · have lb : b < s.heap.objs.size := by
        rcases List.mem_cons.mp hb with rfl | hb
        · exact le
        · cases List.mem_singleton.mp hb; exact li
      rw [upd_ne (Nat.ne_of_lt lb)]
      exact (hf b hb).1
  done := by
    intro X hP hw hK hc i pins s σ H E I hf st hg
    subst hP hw hK
    obtain ⟨⟨o, he⟩, hit, ne⟩ := st
    obtain ⟨xs, hq, hx⟩ := hg
    obtain ⟨its, rv, p, hz⟩ := I.tuple hq
    obtain ⟨f0, f1, f2, f3, f4, f5⟩ := hf it (by simp)
    have hl := rv.length
    have ha : s.heap.IsTuple a its.toArray := p
    have nai : a ≠ it := fun z => by
      obtain ⟨o1, q1, c1, _⟩ := ha
      obtain ⟨o2, q2, c2, _⟩ := hit
      rw [z, q2] at q1
      cases q1
      rw [c1] at c2
      exact absurd (Value.type.inj c2) (by decide)
    have sz : its.toArray.size = i := by
      rw [List.size_toArray, ← hl]
      exact hx
    exact wpAny_pyNext_enum_endD (Draws.tuple (A := X.A.in1) (I.ok.hd hc) it a nai its.toArray) he ⟨by rw [sz]; exact hit, ha⟩ fun h' eb => ⟨rfl, I.turned (t' := s.toks) (fun b o hb q => eb b o hb q) f0 f1 f3 f4 f5⟩
  self := fun A i s Q E ⟨⟨_, he⟩, _⟩ h => wpAny_pyIter_enum he h
def iEnumT (K : PySem.W.Frag) (ta : TA) : TI := fun σ G R => ta σ G fun vs G1 => ∃ a xs, vs = [.ref a] ∧ SqT K G1 a xs ∧ R (ItT K a) G1
theorem pi_enumT {X : Cx} {e : Expr} {ta : TA} {p pos tpos : Pos} {elts : List Expr} {kk : Nat} (hg : Gl X "enumerate") (hm : X.mg "enumerate" = none) (ha : PA X [e] ta) (hs : starEach [e] X.env = [(false, eval e X.env)] := by rfl) :
    PI X (.Tuple elts kk tpos) (.Call (.Name "enumerate" p) [e] [] pos) (iEnumT X.K ta) := by
  refine ⟨fun pins s σ H R I h => ?_⟩
  refine Call_ (ld_blt I hg hm boot_enumerate (PyProof.Rows.callWith_type1 (thn (ha.run pos pins s σ H _ I h) fun us s1 ⟨vs, H1, I1, r1, q1⟩ => ?_) hs rfl))
  obtain ⟨a, xs, ex, hq, q⟩ := q1
  subst ex
  cases r1 with
  | cons r rr =>
    cases rr
    cases r
    obtain ⟨its, rv, p', hz⟩ := I1.tuple hq
    have hT : s1.heap.IsTuple a its.toArray := p'
    refine PySem.enum_begins_one (begins_tuple a its.toArray) hT fun h' he hit hsz hk => wpAny_pyIter_enum he ?_
    have I2 : Inv X pins σ H1 { s1 with heap := h' } := I1.kept (t' := s1.toks) hk
    refine ⟨s1.heap.objs.size + 1, [s1.heap.objs.size + 1, s1.heap.objs.size], _, _, H1, rfl, I2, turn_enumT a (s1.heap.objs.size + 1) s1.heap.objs.size, ⟨⟨.none, he⟩, ⟨_, hit, rfl, rfl⟩, Nat.succ_ne_self _⟩, fun b hb => ?_, q⟩
    have e' : b = s1.heap.objs.size + 1 ∨ b = s1.heap.objs.size := by simpa using hb
    have hle : s1.heap.objs.size ≤ b := by
      rcases e' with z | z
      · rw [z]; exact Nat.le_add_right _ _
      · rw [z]; exact Nat.le_refl _
    exact I1.fpOk hle (I1.hok.fresh hle)
/-- for n, x in enumerate(t) -/
theorem for_enumT {K : PySem.W.Frag} {a : Addr} {xs : List V} {g : TG} {tb : TS} {D : Ends} {σ : L2.St} {H : Hp} (Pv : Nat → L2.St → Hp → Prop) (h0 : Pv 0 σ H) (hl : ∀ i σ H, i ≤ xs.length → Pv i σ H → SqT K H a xs)
    (hs : ∀ i x σ H T, xs[i]? = some x → Pv i σ H → H T = none → g (.ref T) σ (upd H T (.tup [.int (i : Nat), x])) fun σ2 H2 => tb { D with nx := Pv (i + 1), ct := Pv (i + 1), bk := D.nx } σ2 H2) (hd : ∀ σ H, Pv xs.length σ H → D.nx σ H) :
    ∃ W : Nat → Nat → L2.St → Hp → Prop, (∃ m, W 0 m σ H) ∧ ∀ i m σ H, W i m σ H →
      ((Nd.ItT K a).stop i H ∧ D.nx σ H) ∨ ((Nd.ItT K a).go i H ∧ ∃ N : L2.St → Hp → Prop, (∀ σ' H', N σ' H' → ∃ m', m' < m ∧ W (i + 1) m' σ' H') ∧ ∀ x H', (Nd.ItT K a).yld i H x H' → g x σ H' fun σ2 H2 => tb { D with nx := N, ct := N, bk := D.nx } σ2 H2) := by
  refine ⟨fun i m σ H => m = xs.length - i ∧ i ≤ xs.length ∧ Pv i σ H, ⟨xs.length, by simp, Nat.zero_le _, h0⟩, ?_⟩
  rintro i m σ H ⟨rfl, hi, p⟩
  have q := hl i σ H hi p
  by_cases hlt : i < xs.length
  · refine .inr ⟨⟨xs, xs[i], q, by simp [hlt]⟩, Pv (i + 1), fun σ' H' p' => ⟨xs.length - (i + 1), by omega, rfl, hlt, p'⟩, fun x H' y => ?_⟩
    obtain ⟨T, z, rfl, nT, rfl, y⟩ := y
    exact hs i z σ H T (y xs q) p nT
  · have e : i = xs.length := by omega
    subst e
    exact .inl ⟨⟨xs, q, rfl⟩, hd σ H p⟩
end Nd
/-! ## o.f as one of several targets -/
namespace Nd
open PySem PySem.Spec PyProof.Rows L2
def gFld (K : PySem.W.Frag) (to : TE) (f : Str) : TG := fun v σ H Q => to σ H fun x H2 => ∃ a C dx fs, x = .ref a ∧ H2 a = some (.ins C dx fs) ∧ Cls K C ∧ NoAttr K C f ∧ fs.length < 1000 ∧ Q σ (upd H2 a (.ins C dx (putF f v fs)))
theorem pg_fld {X : Cx} {o : Expr} {f : Str} {pos : Pos} {to : TE} (ho : PE X o to)
    (ha : ∀ v, assign (.Attribute o f pos) X.env v = (do
      let ov ← holding [v] (eval o X.env)
      standAt pos.atName
      holding [v, ov] (setAttr ov f v)
      release [v, ov] []) := by intro _; rfl) : PG X (.Attribute o f pos) (gFld X.K to f) := by
  refine ⟨fun pins s σ H v u Q I r h => ?_⟩
  rw [ha]
  refine wpAny_bind (wpAny_holding (thn (ho.run pins s σ H _ I h) fun ov s1 ⟨x, H1, I1, r1, q1⟩ => ?_))
  obtain ⟨a, C, dx, fs, ex, ea, c, n, l, q2⟩ := q1
  subst ex
  obtain rfl : ov = Value.ref a := r1
  refine wpAny_bind (wpAny_standAt (wpAny_bind (wpAny_holding (setattr_ok I1 ea c n l r fun s2 I2 => ?_))))
  exact wpAny_release ⟨σ, _, I2, q2⟩
end Nd
/-! ## What the top has left, told by one look at all objects; the head whose product does not grow -/
namespace Hf
open PySem PySem.Spec PyProof.Rows L2 Hx
def asN : Nat → List Addr
  | 0 => []
  | n + 1 => n :: asN n
/-- all objects, the module's names first, then the newest -/
def frN (g : Addr → Option Obj) (n : Nat) : PySem.W.Frag := He.frG g (mainGlobals :: asN n)
abbrev Tst : Type := PySem.W.Frag → Bool
def obsN (fa : List He.Fa) (fn : List He.DefD) (ts : List He.Tab) (ex : List Tst) (K : PySem.W.Frag) : He.AlX := (He.obsT fa fn ts K, ex.all fun f => f K)
def valN (fn : List He.DefD) (ts : List He.Tab) (w : World) : He.AlX := (He.valT fn ts w, true)
structure Says (fa : List He.Fa) (fn : List He.DefD) (ts : List He.Tab) (ex : List Tst) (w : World) (K : PySem.W.Frag) : Prop where
  t : He.SaysT fa fn ts w K
  e : (ex.all fun f => f K) = true
def hook (fa : List He.Fa) (fn : List He.DefD) (ts : List He.Tab) (ex : List Tst) : PySem.W.Hook where
  α := He.AlX
  obs := fun s => obsN fa fn ts ex (frN s.heap.get? s.heap.objs.size)
  val := fun w => valN fn ts w
  says := fun w h => ∃ K : PySem.W.Frag, K.In h ∧ Says fa fn ts ex w K
  of := fun _ _ e => ⟨_, He.frG_in, ⟨congrArg (fun z : He.AlX => z.1) e, congrArg (fun z : He.AlX => z.2) e⟩⟩
  keeps := fun _ _ _ ⟨K, hK, c⟩ k => ⟨K, PySem.W.Frag.In.keeps hK k, c⟩
def ob (fa : List He.Fa) (fn : List He.DefD) (ts : List He.Tab) (ex : List Tst) (s : PySem.W.SharedT) : He.AlX := obsN fa fn ts ex (frN (HandSHeadRun.getT s) s.n)
theorem ob_eq (fa : List He.Fa) (fn : List He.DefD) (ts : List He.Tab) (ex : List Tst) (s : PySem.W.SharedT) : ob fa fn ts ex s = (hook fa fn ts ex).obs s.abs := by
  have e : HandSHeadRun.getT s = s.abs.heap.get? := funext fun a => HandSHeadRun.getT_eq s a
  have n : s.abs.heap.objs.size = s.n := PySem.W.absHeap_size s.tree s.n s.life
  show obsN fa fn ts ex (frN (HandSHeadRun.getT s) s.n) = obsN fa fn ts ex (frN s.abs.heap.get? s.abs.heap.objs.size)
  rw [e, n]
section
variable {fa : List He.Fa} {fn : List He.DefD} {ts : List He.Tab} {ex : List Tst} {w : World} {K : PySem.W.Frag} {h : Heap} {mg : Str → Option Value}
theorem Says.x (c : Says fa fn ts ex w K) (i : Nat) {f : Tst} (h : ex[i]? = some f := by rfl) : f K = true := List.all_eq_true.mp c.e f (List.mem_of_getElem? h)
theorem Says.glo (c : Says fa fn ts ex w K) (X : K.In h) (G : h.Ns mainGlobals mg) (i : Nat) {x : Str} (e : fa[i]? = some (.glo x) := by rfl) : mg x = some (.ref (He.ga K x)) := He.glo_ok X G (c.t.d.fact i e)
theorem Says.free (c : Says fa fn ts ex w K) (X : K.In h) (G : h.Ns mainGlobals mg) (i : Nat) {x : Str} (e : fa[i]? = some (.free x) := by rfl) : mg x = none := He.free_ok X G (c.t.d.fact i e)
theorem Says.int (c : Says fa fn ts ex w K) (X : K.In h) (G : h.Ns mainGlobals mg) (i : Nat) {x : Str} {n : Int} (e : fa[i]? = some (.int x n) := by rfl) : ∃ t, mg x = some (.int n t) := He.int_ok X G (c.t.d.fact i e)
theorem fun_of {x qual : Str} {st : Stmt} {f : Addr} {fd : FuncData} {kws : List (Str × V)} (F : FunD K x qual (defArgs st) (defBody st) (defScope st) [] kws f fd) : Fun K x qual st f fd := by
  obtain ⟨oc, od, dV, kV, doc, pm, an, cdv, ct, osl, e, l, c, hd, _⟩ := F.ex
  rcases hd with ⟨_, e2⟩ | ⟨e2, _⟩
  · subst e2
    exact ⟨⟨oc, od, kV, doc, pm, an, cdv, ct, osl, e, l, c⟩, F.kp⟩
  · exact absurd rfl e2
theorem Says.fun (c : Says fa fn ts ex w K) (i : Nat) {x qual : Str} {st : Stmt} {p : Str × Option Str} (e : fn[i]? = some ⟨p, x, qual, defArgs st, defBody st, defScope st, [], []⟩ := by rfl) : ∃ fd, Fun K x qual st (He.fAd K p) fd := by
  obtain ⟨fd, F⟩ := c.t.d.def_ i e
  exact ⟨fd, fun_of F⟩
end
/-! ### classes -/
def namesB (K : PySem.W.Frag) (C : Addr) (fl : List Str) : Bool := fl.all fun x => decide (PySem.W.findIn K (.ref C) x = some none)
def clB (K : PySem.W.Frag) (C f : Addr) (fl : List Str) : Bool := PySem.W.makesIn K C && (decide (PySem.W.findIn K (.ref C) "__init__" = some (some (.ref f))) && (PySem.W.isFn K (.ref f) && (PySem.W.keepIn K (.ref C) && (PySem.W.plainGet K C Str.empty && (PySem.W.hasDictIn K C && (PySem.W.plainOver K C &&
  (decide (PySem.W.findIn K (.ref C) "__setattr__" = some (some (.builtin "object.__setattr__"))) && namesB K C fl)))))))
theorem cl_of {K : PySem.W.Frag} {C f : Addr} {fl : List Str} (b : clB K C f fl = true) : Mk K C f ∧ Cls K C ∧ ∀ x ∈ fl, NoAttr K C x := by
  unfold clB namesB at b
  simp only [Bool.and_eq_true, decide_eq_true_eq, List.all_eq_true] at b
  obtain ⟨a1, a2, a3, a4, a5, a6, a7, a8, a9⟩ := b
  exact ⟨⟨a1, a2, a3, a4⟩, ⟨a5, a6, a7, a8⟩, a9⟩
def methB (K : PySem.W.Frag) (C : Addr) (m : Str) (f : Addr) : Bool := decide (PySem.W.findIn K (.ref C) m = some (some (.ref f))) && (PySem.W.isFn K (.ref f) && (PySem.W.keepIn K (.ref f) && PySem.W.fnIn K f))
theorem meth_of {K : PySem.W.Frag} {C : Addr} {m : Str} {f : Addr} (b : methB K C m f = true) : Meth K C m f ∧ Dun.Dn K C m f := by
  unfold methB at b
  simp only [Bool.and_eq_true, decide_eq_true_eq] at b
  obtain ⟨a1, a2, a3, a4⟩ := b
  exact ⟨⟨a1, a2, a3⟩, ⟨a1, a2, a4⟩⟩
/-! ### error classes -/
def excB (K : PySem.W.Frag) (C D : Addr) : Bool := match K.lookup C with
  | some ⟨.type t, _, .cls cd, sl⟩ => decide (t = "type") && (decide (cd.mro = [.ref C, .ref D, .type "ValueError", .type "Exception", .type "BaseException", .type "object"]) && (cd.hasDict && (!cd.hasDel && (match sl.toList with
    | [_, _, _, _, some (.builtin n), _] => decide (n = "ValueError.__new__")
    | _ => false))))
  | _ => false
theorem exc_of {K : PySem.W.Frag} {C D : Addr} (b : excB K C D = true) : ∃ (nm q : Str) (N : Addr) (bs : List Value) (sn : List Str) (sub : List Value) (ab : Bool) (col : Option Bool) (dd : Option Addr) (m0 m1 m2 m3 m5 : Option Value),
    K.lookup C = some (excClassObj nm q C N bs [.ref D, .type "ValueError", .type "Exception", .type "BaseException", .type "object"] true sn sub ab col dd m0 m1 m2 m3 m5 "ValueError.__new__") := by
  unfold excB at b
  cases e : K.lookup C with
  | none =>
    rw [e] at b
    cases b
  | some o =>
    obtain ⟨oc, od, dt, sl⟩ := o
    rw [e] at b
    cases oc with
    | type t =>
      cases dt with
      | cls cd =>
        obtain ⟨nm, bs, mro, ns, qn, hd, sn, sb, ab, col, del⟩ := cd
        dsimp only at b
        rw [Bool.and_eq_true, Bool.and_eq_true, Bool.and_eq_true, Bool.and_eq_true, decide_eq_true_eq, decide_eq_true_eq] at b
        obtain ⟨rfl, rfl, rfl, h4, h5⟩ := b
        cases del with
        | true => cases h4
        | false =>
          split at h5
          · rename_i a0 a1 a2 a3 n a5 es
            have en : n = "ValueError.__new__" := of_decide_eq_true h5
            subst en
            have esl : sl = #[a0, a1, a2, a3, some (.builtin "ValueError.__new__"), a5] := by
              rw [← Array.toArray_toList (xs := sl), es]
            subst esl
            exact ⟨nm, qn, ns, bs, sn, sb, ab, col, od, a0, a1, a2, a3, a5, rfl⟩
          · cases h5
      | _ => cases b
    | _ => cases dt <;> cases b
theorem clT_of {K : PySem.W.Frag} {mg : Str → Option Value} {x qual : Str} {st : Stmt} {ps fl : List Str} {C f D : Addr} {h : Heap} (X : K.In h) (G : h.Ns mainGlobals mg) (aC : PySem.W.nsIn K mainGlobals x = some (some (.ref C))) (b : excB K C D = true) {fd : FuncData} (F : Fun K "__init__" qual st f fd)
    (hb : ∀ (kV doc pm : Value) (an : Option Addr) (cdv ct : Value) (us : List Value), us.length = ps.length → bindArgs (PySem.W.fnOf "__init__" qual (defArgs st) (defBody st) (defScope st) .none kV doc pm an cdv ct) ⟨us, []⟩ = pure (ps.zip us)) (b2 : clsB K C f fl = true) : ClT K mg x qual st ps fl C f := by
  obtain ⟨nm, q, N, bs, sn, sub, ab, col, dd, m0, m1, m2, m3, m5, e⟩ := exc_of b
  obtain ⟨⟨oc, od, kV, doc, pm, an, cdv, ct, osl, e1, l, c⟩, kp⟩ := F
  subst e1
  exact cl_mk X G aC e l c kp hb b2
def baseB (K : PySem.W.Frag) (D : Addr) : Bool := PySem.W.readsIn K D (.type "type") && (decide (PySem.W.specialIn K (.ref D) "__getattribute__" = some (some (.builtin "type.__getattribute__"))) && (match PySem.W.findCls K (.ref D) (.type "type") "__init__" with
  | some (.val (.builtin n)) => decide (n = "ValueError.__init__")
  | _ => false))
theorem base_of {K : PySem.W.Frag} {mg : Str → Option Value} {D : Addr} (g : mg "HeapError" = some (.ref D)) (b : baseB K D = true) : BaseT K mg D := by
  unfold baseB at b
  rw [Bool.and_eq_true, Bool.and_eq_true, decide_eq_true_eq] at b
  obtain ⟨h1, h2, h3⟩ := b
  split at h3
  · rename_i n e
    have en : n = "ValueError.__init__" := of_decide_eq_true h3
    subst en
    exact ⟨g, ⟨h1, h2⟩, e⟩
  · cases h3
/-! ### constants -/
def valsB : List V → List Value → Bool
  | [], [] => true
  | .str x :: r, .str y _ :: s => decide (x = y) && valsB r s
  | .int i :: r, .int j _ :: s => decide (i = j) && valsB r s
  | .non :: r, .none :: s => valsB r s
  | .ref a :: r, .ref b :: s => decide (a = b) && valsB r s
  | _, _ => false
theorem vals_of : ∀ (xs : List V) (us : List Value), valsB xs us = true → Vals xs us
  | [], [], _ => .nil
  | .str x :: r, .str y t :: s, h => by
    rw [valsB, Bool.and_eq_true, decide_eq_true_eq] at h
    obtain ⟨rfl, h⟩ := h
    exact .cons ⟨t, rfl⟩ (vals_of r s h)
  | .int i :: r, .int j t :: s, h => by
    rw [valsB, Bool.and_eq_true, decide_eq_true_eq] at h
    obtain ⟨rfl, h⟩ := h
    exact .cons ⟨t, rfl⟩ (vals_of r s h)
  | .non :: r, .none :: s, h => .cons rfl (vals_of r s h)
  | .ref a :: r, .ref b :: s, h => by
    rw [valsB, Bool.and_eq_true, decide_eq_true_eq] at h
    obtain ⟨rfl, h⟩ := h
    exact .cons rfl (vals_of r s h)
def tupB (K : PySem.W.Frag) (a : Addr) (xs : List V) : Bool := match K.lookup a with
  | some ⟨.type c, _, .seq its _, _⟩ => decide (c = "tuple") && (decide (its.size ≤ 1000) && valsB xs its.toList)
  | _ => false
theorem tup_of {K : PySem.W.Frag} {a : Addr} {xs : List V} (b : tupB K a xs = true) : ∀ H, SqT K H a xs := fun H => by
  unfold tupB at b
  split at b
  · rename_i c od its n sl e
    rw [Bool.and_eq_true, Bool.and_eq_true, decide_eq_true_eq, decide_eq_true_eq] at b
    obtain ⟨rfl, h1, h2⟩ := b
    exact .inr ⟨_, its, n, e, rfl, rfl, Nat.le_trans h1 (by decide), vals_of _ _ h2⟩
  · cases b
/-- what the dict at a tells for the key x -/
def inB (K : PySem.W.Frag) (a : Addr) (x : Str) (f : Addr) : Bool := decide (PySem.W.nsIn K a x = some (some (.ref f)))
def notB (K : PySem.W.Frag) (a : Addr) (x : Str) : Bool := decide (PySem.W.nsIn K a x = some none)
def addr (K : PySem.W.Frag) (a : Addr) (i : Nat) : Addr := match K.lookup a with
  | some ⟨_, _, .seq its _, _⟩ => (match its.toList[i]? with
    | some (.ref b) => b
    | _ => 0)
  | _ => 0
end Hf
/-! ## The run's equation in parts: what is looked at is cut, each part has a run of its own -/
namespace Hf
open PySem PySem.W PySem.Calls PySem.Spec PyProof.Rows L2 Hx
structure Part where
  fa : List He.Fa := []
  fn : List He.DefD := []
  ts : List He.Tab := []
  ex : List Tst := []
def Part.obs (p : Part) (K : PySem.W.Frag) : He.AlX := obsN p.fa p.fn p.ts p.ex K
def Part.val (p : Part) (w : World) : He.AlX := valN p.fn p.ts w
abbrev Part.Says (p : Part) (w : World) (K : PySem.W.Frag) : Prop := Hf.Says p.fa p.fn p.ts p.ex w K
def obP (p : Part) (s : PySem.W.SharedT) : He.AlX := p.obs (frN (HandSHeadRun.getT s) s.n)
def obL (ps : List Part) (s : PySem.W.SharedT) : List He.AlX := ps.map fun p => obP p s
theorem map_of : ∀ {ps : List Part} {K : PySem.W.Frag} {w : World}, (ps.map fun p => p.obs K) = (ps.map fun p => p.val w) → ∀ p ∈ ps, p.obs K = p.val w
  | [], _, _, _, p, h => by cases h
  | a :: r, K, w, e, p, h => by
    have e1 : a.obs K = a.val w ∧ (r.map fun p => p.obs K) = (r.map fun p => p.val w) := by
      have e' : a.obs K :: (r.map fun p => p.obs K) = a.val w :: (r.map fun p => p.val w) := e
      exact ⟨List.head_eq_of_cons_eq e', List.tail_eq_of_cons_eq e'⟩
    rcases List.mem_cons.mp h with rfl | h
    · exact e1.1
    · exact map_of e1.2 p h
def hookP (ps : List Part) : PySem.W.Hook where
  α := List He.AlX
  obs := fun s => ps.map fun p => p.obs (frN s.heap.get? s.heap.objs.size)
  val := fun w => ps.map fun p => p.val w
  says := fun w h => ∃ K : PySem.W.Frag, K.In h ∧ ∀ p ∈ ps, p.Says w K
  of := fun _ _ e => ⟨_, He.frG_in, fun p hp => ⟨congrArg (fun z : He.AlX => z.1) (map_of e p hp), congrArg (fun z : He.AlX => z.2) (map_of e p hp)⟩⟩
  keeps := fun _ _ _ ⟨K, hK, c⟩ k => ⟨K, PySem.W.Frag.In.keeps hK k, c⟩
theorem obL_eq (ps : List Part) (s : PySem.W.SharedT) : obL ps s = (hookP ps).obs s.abs := by
  have e : HandSHeadRun.getT s = s.abs.heap.get? := funext fun a => HandSHeadRun.getT_eq s a
  have n : s.abs.heap.objs.size = s.n := PySem.W.absHeap_size s.tree s.n s.life
  show (ps.map fun p => p.obs (frN (HandSHeadRun.getT s) s.n)) = (ps.map fun p => p.obs (frN s.abs.heap.get? s.abs.heap.objs.size))
  rw [e, n]
noncomputable abbrev endN (r : PySem.W.OpenRow) (M : Nat) (w : World) (os : OsState) : Option PySem.W.SharedT := HandSHeadRun.endF (HandSHeadRun.stepQ (HandSHeadRun.denQ HandSHeadRun.tabQ) r.prog w) M r.prog w os
def RunA (r : PySem.W.OpenRow) (q : Program) (M : Nat) (loose : List PySem.Str) (w : World) : Prop := ∀ os : OsState, (endN r M w os).map (fun s => (HandSHeadRun.looksF r.prog (boot_heap w.params) s.abs, HandSHeadRun.seenQ q loose (importedModules r.prog.main.body) (fun s => PySem.W.xlAt q [] s && PySem.W.recOk r.toRowW.records s) s.abs)) = some (true, PySem.W.openGood q loose)
def RunB (r : PySem.W.OpenRow) (M : Nat) (p : Part) (w : World) : Prop := ∀ os : OsState, (endN r M w os).map (obP p) = some (p.val w)
theorem run_all {r : PySem.W.OpenRow} {q : Program} {M : Nat} {loose : List PySem.Str} {ps : List Part} {w : World} (a : RunA r q M loose w) (b : ∀ p ∈ ps, RunB r M p w) : HandSHeadRun.RunEq r q (hookP ps) (obL ps) M loose w := fun os => by
  obtain ⟨s, e, h⟩ := Option.map_eq_some_iff.mp (a os)
  obtain ⟨h1, h2⟩ := Prod.mk.inj h
  have hb : obL ps s = ps.map fun p => p.val w := by
    refine List.map_congr_left fun p hp => ?_
    have z := b p hp os
    rw [e] at z
    exact Option.some.inj z
  show (endN r M w os).map _ = _
  rw [e]
  exact congrArg some (Prod.ext h1 (Prod.ext h2 hb))
end Hf
namespace H2
open PySem PySem.Spec PyProof.Rows L2 Hx Nd Dun
def top (i : Nat) : Stmt := PySem.Challenge.pw_heapcode_k07_lists_of_the_kinds.main.body.getD i (.Pass ⟨0, 0, 0, 0⟩)
abbrev sBag : Stmt := top 114
abbrev sDraw : Stmt := top 115
section
variable {P : Program} {w : World} {K : PySem.W.Frag} {mg : Str → Option Value} {base : Heap} {D : Addr}

abbrev iBadKind : Stmt := inClass (top 3) 0
theorem scBadKind : FnScope ["self", "kind"] ["self", "kind"] (defScope iBadKind) := ⟨rfl, rfl, rfl, by decide +kernel, rfl, by decide +kernel, by decide +kernel⟩
theorem okBadKind {fI : Addr} {fd : FuncData} (F : Fun K "__init__" "BadKind.__init__" iBadKind fI fd) (B : BaseT K mg D) : FnOk P w K mg base CX0 1 fI fd ["self", "kind"] (spI1 K "kind") := by
  refine F.ok scBadKind (fun vs H Q E h => ?_) (fun cdv A outer s H vs Q E hr h => ?_)
  · obtain ⟨a, C, v, rfl, _⟩ := h
    rfl
  · obtain ⟨a, C, v, rfl, T, n1, ea, q⟩ := h
    refine ⟨_, pss_cons (ps_expr (pe_binit B.gB B.rdB B.fcB (pa_cons (pv 0) (pa_cons pe_str pa_nil)))) (pss_one (ps_ost (pv 0) (pv 1))), ?_⟩
    refine ⟨_, rfl, a, C, _, rfl, (by show 1 ≤ 1000; decide), T, ea, _, rfl, _, rfl, a, C, rfl, T, n1, .inl ⟨ea, fun dx nd ne => ?_⟩⟩
    exact q dx nd ne
abbrev iBadWidth : Stmt := inClass (top 4) 0
theorem scBadWidth : FnScope ["self", "width"] ["self", "width"] (defScope iBadWidth) := ⟨rfl, rfl, rfl, by decide +kernel, rfl, by decide +kernel, by decide +kernel⟩
theorem okBadWidth {fI : Addr} {fd : FuncData} (F : Fun K "__init__" "BadWidth.__init__" iBadWidth fI fd) (B : BaseT K mg D) : FnOk P w K mg base CX0 1 fI fd ["self", "width"] (spI1 K "width") := by
  refine F.ok scBadWidth (fun vs H Q E h => ?_) (fun cdv A outer s H vs Q E hr h => ?_)
  · obtain ⟨a, C, v, rfl, _⟩ := h
    rfl
  · obtain ⟨a, C, v, rfl, T, n1, ea, q⟩ := h
    refine ⟨_, pss_cons (ps_expr (pe_binit B.gB B.rdB B.fcB (pa_cons (pv 0) (pa_cons pe_str pa_nil)))) (pss_one (ps_ost (pv 0) (pv 1))), ?_⟩
    refine ⟨_, rfl, a, C, _, rfl, (by show 1 ≤ 1000; decide), T, ea, _, rfl, _, rfl, a, C, rfl, T, n1, .inl ⟨ea, fun dx nd ne => ?_⟩⟩
    exact q dx nd ne
abbrev iBadLine : Stmt := inClass (top 5) 0
theorem scBadLine : FnScope ["self", "line"] ["self", "line"] (defScope iBadLine) := ⟨rfl, rfl, rfl, by decide +kernel, rfl, by decide +kernel, by decide +kernel⟩
theorem okBadLine {fI : Addr} {fd : FuncData} (F : Fun K "__init__" "BadLine.__init__" iBadLine fI fd) (B : BaseT K mg D) : FnOk P w K mg base CX0 1 fI fd ["self", "line"] (spI1 K "line") := by
  refine F.ok scBadLine (fun vs H Q E h => ?_) (fun cdv A outer s H vs Q E hr h => ?_)
  · obtain ⟨a, C, v, rfl, _⟩ := h
    rfl
  · obtain ⟨a, C, v, rfl, T, n1, ea, q⟩ := h
    refine ⟨_, pss_cons (ps_expr (pe_binit B.gB B.rdB B.fcB (pa_cons (pv 0) (pa_cons pe_str pa_nil)))) (pss_one (ps_ost (pv 0) (pv 1))), ?_⟩
    refine ⟨_, rfl, a, C, _, rfl, (by show 1 ≤ 1000; decide), T, ea, _, rfl, _, rfl, a, C, rfl, T, n1, .inl ⟨ea, fun dx nd ne => ?_⟩⟩
    exact q dx nd ne
abbrev iRefused : Stmt := inClass (top 6) 0
theorem scRefused : FnScope ["self", "line"] ["self", "line"] (defScope iRefused) := ⟨rfl, rfl, rfl, by decide +kernel, rfl, by decide +kernel, by decide +kernel⟩
theorem okRefused {fI : Addr} {fd : FuncData} (F : Fun K "__init__" "Refused.__init__" iRefused fI fd) (B : BaseT K mg D) : FnOk P w K mg base CX0 1 fI fd ["self", "line"] (spI1 K "line") := by
  refine F.ok scRefused (fun vs H Q E h => ?_) (fun cdv A outer s H vs Q E hr h => ?_)
  · obtain ⟨a, C, v, rfl, _⟩ := h
    rfl
  · obtain ⟨a, C, v, rfl, T, n1, ea, q⟩ := h
    refine ⟨_, pss_cons (ps_expr (pe_binit B.gB B.rdB B.fcB (pa_cons (pv 0) (pa_cons pe_str pa_nil)))) (pss_one (ps_ost (pv 0) (pv 1))), ?_⟩
    refine ⟨_, rfl, a, C, _, rfl, (by show 1 ≤ 1000; decide), T, ea, _, rfl, _, rfl, a, C, rfl, T, n1, .inl ⟨ea, fun dx nd ne => ?_⟩⟩
    exact q dx nd ne
abbrev iBadItem : Stmt := inClass (top 7) 0
theorem scBadItem : FnScope ["self", "index"] ["self", "index"] (defScope iBadItem) := ⟨rfl, rfl, rfl, by decide +kernel, rfl, by decide +kernel, by decide +kernel⟩
theorem okBadItem {fI : Addr} {fd : FuncData} (F : Fun K "__init__" "BadItem.__init__" iBadItem fI fd) (B : BaseT K mg D) : FnOk P w K mg base CX0 1 fI fd ["self", "index"] (spI1 K "index") := by
  refine F.ok scBadItem (fun vs H Q E h => ?_) (fun cdv A outer s H vs Q E hr h => ?_)
  · obtain ⟨a, C, v, rfl, _⟩ := h
    rfl
  · obtain ⟨a, C, v, rfl, T, n1, ea, q⟩ := h
    refine ⟨_, pss_cons (ps_expr (pe_binit B.gB B.rdB B.fcB (pa_cons (pv 0) (pa_cons pe_str pa_nil)))) (pss_one (ps_ost (pv 0) (pv 1))), ?_⟩
    refine ⟨_, rfl, a, C, _, rfl, (by show 1 ≤ 1000; decide), T, ea, _, rfl, _, rfl, a, C, rfl, T, n1, .inl ⟨ea, fun dx nd ne => ?_⟩⟩
    exact q dx nd ne
abbrev iBadCase : Stmt := inClass (top 8) 0
theorem scBadCase : FnScope ["self", "what"] ["self", "what"] (defScope iBadCase) := ⟨rfl, rfl, rfl, by decide +kernel, rfl, by decide +kernel, by decide +kernel⟩
theorem okBadCase {fI : Addr} {fd : FuncData} (F : Fun K "__init__" "BadCase.__init__" iBadCase fI fd) (B : BaseT K mg D) : FnOk P w K mg base CX0 1 fI fd ["self", "what"] (spI1 K "what") := by
  refine F.ok scBadCase (fun vs H Q E h => ?_) (fun cdv A outer s H vs Q E hr h => ?_)
  · obtain ⟨a, C, v, rfl, _⟩ := h
    rfl
  · obtain ⟨a, C, v, rfl, T, n1, ea, q⟩ := h
    refine ⟨_, pss_cons (ps_expr (pe_binit B.gB B.rdB B.fcB (pa_cons (pv 0) (pa_cons pe_str pa_nil)))) (pss_one (ps_ost (pv 0) (pv 1))), ?_⟩
    refine ⟨_, rfl, a, C, _, rfl, (by show 1 ≤ 1000; decide), T, ea, _, rfl, _, rfl, a, C, rfl, T, n1, .inl ⟨ea, fun dx nd ne => ?_⟩⟩
    exact q dx nd ne
abbrev iTooMany : Stmt := inClass (top 9) 0
theorem scTooMany : FnScope ["self", "what", "many", "most"] ["self", "what", "many", "most"] (defScope iTooMany) := ⟨rfl, rfl, rfl, by decide +kernel, rfl, by decide +kernel, by decide +kernel⟩
theorem okTooMany {fI : Addr} {fd : FuncData} (F : Fun K "__init__" "TooMany.__init__" iTooMany fI fd) (B : BaseT K mg D) : FnOk P w K mg base CX0 1 fI fd ["self", "what", "many", "most"] (spI3 K "what" "many" "most") := by
  refine F.ok scTooMany (fun vs H Q E h => ?_) (fun cdv A outer s H vs Q E hr h => ?_)
  · obtain ⟨a, C, u, v, z, rfl, _⟩ := h
    rfl
  · obtain ⟨a, C, u, v, z, rfl, T, n1, n2, n3, ea, q⟩ := h
    refine ⟨_, pss_cons (ps_expr (pe_binit B.gB B.rdB B.fcB (pa_cons (pv 0) (pa_cons pe_str pa_nil)))) (pss_cons (ps_ost (pv 0) (pv 1)) (pss_cons (ps_ost (pv 0) (pv 2)) (pss_one (ps_ost (pv 0) (pv 3))))), ?_⟩
    refine ⟨_, rfl, a, C, _, rfl, (by show 1 ≤ 1000; decide), T, ea, _, rfl, _, rfl, a, C, rfl, T, n1, .inl ⟨ea, fun dx nd ne => ?_⟩⟩
    refine ⟨_, rfl, _, rfl, a, C, rfl, T, n2, .inr ⟨dx, _, upd_same, (by rw [upd_ne ne, upd_same]), (by show 1 ≤ 900; decide), ?_⟩⟩
    refine ⟨_, rfl, _, rfl, a, C, rfl, T, n3, .inr ⟨dx, _, (by rw [upd_ne ne.symm, upd_same]), upd_same, (by show 2 ≤ 900; decide), ?_⟩⟩
    exact q dx nd ne
theorem scBag : FnScope ["_law_script", "_law_fold", "_law_cell"] ["_law_script"] (defScope sBag) := ⟨rfl, rfl, rfl, by decide +kernel, rfl, by decide +kernel, by decide +kernel⟩
theorem ok_bag {f : Addr} {fd : FuncData} (F : Fun K "_law_bag" "_law_bag" sBag f fd) (B : BltT mg) : FnOk P w K mg base CX0 1 f fd ["_law_script"] (spBag K) := by
  refine F.ok scBag (fun vs H Q E h => ?_) (fun cdv A outer s H vs Q E hr h => ?_)
  · obtain ⟨a, ns, rfl, _⟩ := h
    rfl
  · obtain ⟨a, ns, rfl, hS, hl, q⟩ := h
    refine ⟨_, pss_cons (ps_set (i := 1) scBag.nd rfl (Or.inl rfl) pe_int)
      (pss_cons (ps_for PassesOwn.never rfl (pi_list (pv 0)) (pg_name (i := 2) scBag.nd rfl (Or.inl rfl))
        (pss_one (ps_set (i := 1) scBag.nd rfl (Or.inl rfl) (pe_op op_mod (pe_callTy call_int1 (by rfl) B.int (by decide +kernel) (pa_cons (pe_op op_add (pe_op op_mul (pv 1) pe_int) (pv 2)) pa_nil)) pe_int))))
      (pss_one (ps_ret (pe_disp (pps_cons pe_str (pe_callTy call_list_of (by rfl) B.list (by decide +kernel) (pa_cons (pv 0) pa_nil)) (pps_cons pe_str pe_int (pps_cons pe_str pe_int (pps_cons pe_str pe_int (pps_cons pe_str (pv 1) pps_nil))))) (by rfl) (by rfl) (fun z => by cases z) (by decide))))), ?_⟩
    refine ⟨_, rfl, a, rfl, ⟨_, hS⟩, for_list (K := K) (a := a) (xs := ns.map V.int) (fun i σ H' => H' = H ∧ ∃ (fo : Int) (v : Option V), σ = [some (.ref a), some (.int fo), v] ∧ 0 ≤ fo ∧ fo < 1000000009)
      ⟨rfl, 0, none, rfl, by decide, by decide⟩ (fun i σ H' _ ⟨e, _⟩ => by rw [e]; exact hS) ?_ ?_⟩
    · rintro i y σ H' hi ⟨rfl, fo, v, rfl, h0, h1⟩
      obtain ⟨u, rfl⟩ : ∃ u, y = V.int u := by
        rw [List.getElem?_map] at hi
        cases e : ns[i]? with
        | none => rw [e] at hi; cases hi
        | some u => rw [e] at hi; exact ⟨u, (Option.some.inj hi).symm⟩
      refine ⟨_, rfl, _, _, rfl, rfl, .inl ⟨by omega, by omega⟩, _, rfl, _, _, rfl, rfl, .inl ⟨_, rfl, _, _, rfl, rfl, (by show (0 : Int) < 1000000009; decide), ?_⟩⟩
      exact ⟨rfl, _, _, rfl, Int.emod_nonneg _ (by decide), Int.emod_lt_of_pos _ (by decide)⟩
    · rintro σ H' ⟨rfl, fo, v, rfl, h0, h1⟩
      refine fun p hp => ?_
      refine ⟨_, rfl, a, _, rfl, .inl (L2.Same.seq (new_same hp) hS), fun l hl' => ?_⟩
      have npl : p ≠ l := fun e => by rw [e, upd_same] at hl'; cases hl'
      have lnone : H' l = none := by rw [upd_ne npl.symm] at hl'; exact hl'
      refine ⟨_, rfl, ?_, [(kC, .ref l), (kA, .int 0), (kD, .int 0), (kN, .int 0), (kF, .int fo)], rfl, (by show 5 ≤ 15; decide), ?_⟩
      · rw [upd_ne npl, upd_same]
      · have em : mergeK [] [(kC, V.ref l), (kA, .int 0), (kD, .int 0), (kN, .int 0), (kF, .int fo)] = bagK l 0 0 0 fo := by
          simp [mergeK, putK, bagK, strN nCA, strN nCD, strN nCN, strN nCF, strN nAD, strN nAN, strN nAF, strN nDN, strN nDF, strN nNF]
        refine q p _ hp (fun b o e => ?_) ⟨l, ns, 0, 0, fo, (by rw [upd_same, em]; rfl), (by rw [upd_ne npl.symm, upd_same]), hl, by decide, by decide, h0, by omega⟩
        rw [upd_ne (ne_of_none e hp), upd_ne (ne_of_none e lnone), upd_ne (ne_of_none e hp)]
        exact e
theorem scDraw : FnScope ["_law_bag_here", "_law_limit", "_law_cell", "_law_digit", "_law_base"] ["_law_bag_here", "_law_limit"] (defScope sDraw) := ⟨rfl, rfl, rfl, by decide +kernel, rfl, by decide +kernel, by decide +kernel⟩
theorem ok_draw {f : Addr} {fd : FuncData} (F : Fun K "_law_draw" "_law_draw" sDraw f fd) (B : BltT mg) : FnOk P w K mg base CX0 1 f fd ["_law_bag_here", "_law_limit"] spDraw := by
  refine F.ok scDraw (fun vs H Q E h => ?_) (fun cdv A outer s H vs Q E hr h => ?_)
  · obtain ⟨p, n, m, rfl, _⟩ := h
    rfl
  · obtain ⟨p, n, m, rfl, ⟨l, ns, i, dg, fo, hp, hl, hlen, i0, d0, f0, f1⟩, hn, m0, m1, q⟩ := h
    have hu := hu_of hr
    have npl : l ≠ p := ne_of hl hp (by intro z; cases z)
    refine ⟨_, pss_cons (ps_dput hu (pv 0) pe_str (pe_op op_add (pe_dget hu (pv 0) pe_str (fun _ _ => rfl)) pe_int) rfl)
      (Evl.pss_cut (ps_if (PW.pt (pw_and (pt_cmpR op_eq (pe_dget hu (pv 0) pe_str (fun _ _ => rfl)) pe_int (nomark _)) (pw_and1 (pt_cmpR op_lt (pe_dget hu (pv 0) pe_str (fun _ _ => rfl)) (pe_callB call_len_seq (by rfl) B.len PySem.boot_len (pa_cons (pe_dget hu (pv 0) pe_str (fun _ _ => rfl)) pa_nil)) (nomark _)))))
          (pss_cons (ps_set (i := 2) scDraw.nd rfl (Or.inl rfl) (pe_ix ix_list (pe_dget hu (pv 0) pe_str (fun _ _ => rfl)) (pe_dget hu (pv 0) pe_str (fun _ _ => rfl)) (fun _ _ => rfl)))
          (pss_cons (ps_dput hu (pv 0) pe_str (pe_op op_add (pe_dget hu (pv 0) pe_str (fun _ _ => rfl)) pe_int) rfl)
          (pss_one (ps_if (pt_cmpR op_ge (pv 2) (pe_op op_pow pe_int pe_int) (nomark _))
            (pss_one (ps_dput hu (pv 0) pe_str (pe_op op_sub (pv 2) (pe_op op_pow pe_int pe_int)) rfl))
            (pss_one (ps_dput hu (pv 0) pe_str (pe_op op_mod (pe_callTy call_int1 (by rfl) B.int (by decide +kernel) (pa_cons (pe_op op_add (pe_op op_mul (pe_dget hu (pv 0) pe_str (fun _ _ => rfl)) pe_int) (pv 2)) pa_nil)) pe_int) rfl))))))
          pss_nil)
      (pss_cons (ps_if (pt_cmpR op_gt (pe_dget hu (pv 0) pe_str (fun _ _ => rfl)) pe_int (nomark _))
          (pss_cons (ps_set (i := 3) scDraw.nd rfl (Or.inl rfl) (pe_op op_mod (pe_callTy call_int1 (by rfl) B.int (by decide +kernel) (pa_cons (pe_dget hu (pv 0) pe_str (fun _ _ => rfl)) pa_nil)) (pv 1)))
          (pss_cons (ps_dput hu (pv 0) pe_str (pe_op op_fdivW (pe_dget hu (pv 0) pe_str (fun _ _ => rfl)) (pv 1)) rfl)
          (pss_one (ps_ret (pv 3)))))
          pss_nil)
      (pss_cons (ps_set (i := 4) scDraw.nd rfl (Or.inl rfl) (pe_op op_add (pe_op op_add (pe_dget hu (pv 0) pe_str (fun _ _ => rfl)) (pe_op op_mul (pe_dget hu (pv 0) pe_str (fun _ _ => rfl)) pe_int)) pe_int))
      (pss_one (ps_ret (pe_op op_mod (pe_op op_fdiv (pe_callTy call_int1 (by rfl) B.int (by decide +kernel) (pa_cons (pe_op op_mod (pe_op op_pow (pv 4) pe_int) pe_int) pa_nil)) pe_int) (pv 1))))))), ?_⟩
    have five : ∀ {l i dg ct fo}, (bagK l i dg ct fo).length < sizeLine := fun {l i dg ct fo} => by show 5 < sizeLine; decide
    -- bag["count"] = bag["count"] + 1
    refine ⟨_, rfl, p, _, rfl, (show DGet _ _ (kV kN) _ from by rw [← gN l i dg n fo]; exact DGet.k hp), _, _, rfl, rfl, _, rfl, p, _, rfl, DPut.k (k := kN) hp five, ?_⟩
    rw [pN]
    -- Mid: a bag again, with one more
    refine ⟨fun σ G => ∃ v : Option V, σ = [some (.ref p), some (.int m), v, none, none] ∧ Bag G p (n + 1) ∧ But p H G, ?_, ?_⟩
    · have hp1 : (upd H p (.dK (bagK l i dg ((n : Int) + 1) fo))) p = some (.dK (bagK l i dg ((n : Int) + 1) fo)) := upd_same
      have hl1 : ∀ o, (upd H p o) l = some (.lst (ns.map V.int)) := fun o => by rw [upd_ne npl]; exact hl
      have en : ((n : Int) + 1) = ((n + 1 : Nat) : Int) := by omega
      have mid : ∀ (i dg fo : Int), 0 ≤ i → 0 ≤ dg → 0 ≤ fo → fo < 2147483587 → Bag (upd H p (.dK (bagK l i dg ((n : Int) + 1) fo))) p (n + 1) := fun i dg fo a b c d =>
        ⟨l, ns, i, dg, fo, (by rw [upd_same, en]), hl1 _, hlen, a, b, c, d⟩
      refine ⟨_, rfl, p, _, rfl, (show DGet _ _ (kV kD) _ from by rw [← gD l i dg ((n : Int) + 1) fo]; exact DGet.k hp1), rfl, _, rfl, ?_⟩
      refine ite2 (fun c => ?_) (fun c => ?_)
      · refine ⟨_, rfl, p, _, rfl, (show DGet _ _ (kV kA) _ from by rw [← gA l i dg ((n : Int) + 1) fo]; exact DGet.k hp1), _, rfl, p, _, rfl, (show DGet _ _ (kV kC) _ from by rw [← gC l i dg ((n : Int) + 1) fo]; exact DGet.k hp1), l, _, rfl, .inl (SqL.of (hl1 _)), _, _, rfl, rfl, _, rfl, ?_⟩
        refine ite2 (fun c2 => ?_) (fun c2 => ?_)
        · have c3 : i < (ns.length : Int) := by
            have z := of_decide_eq_true c2
            rw [List.length_map] at z
            exact z
          obtain ⟨v, hv⟩ : ∃ v, ns[i.toNat]? = some v := ⟨_, List.getElem?_eq_getElem (by omega)⟩
          have hat : atI (ns.map V.int) i = some (.int v) := at_of (j := i.toNat) (by omega) (by rw [List.getElem?_map, hv] <;> rfl)
          refine ⟨_, rfl, p, _, rfl, (show DGet _ _ (kV kC) _ from by rw [← gC l i dg ((n : Int) + 1) fo]; exact DGet.k hp1), _, rfl, p, _, rfl, (show DGet _ _ (kV kA) _ from by rw [← gA l i dg ((n : Int) + 1) fo]; exact DGet.k hp1), l, _, _, _, rfl, rfl, SqL.of (hl1 _), hat, ?_⟩
          refine ⟨_, rfl, p, _, rfl, (show DGet _ _ (kV kA) _ from by rw [← gA l i dg ((n : Int) + 1) fo]; exact DGet.k hp1), _, _, rfl, rfl, _, rfl, p, _, rfl, DPut.k (k := kA) hp1 five, ?_⟩
          rw [pA, upd_upd]
          have hp2 : (upd H p (.dK (bagK l (i + 1) dg ((n : Int) + 1) fo))) p = some (.dK (bagK l (i + 1) dg ((n : Int) + 1) fo)) := upd_same
          refine ⟨_, rfl, _, _, rfl, rfl, ⟨by decide, by decide, by decide⟩, _, _, rfl, rfl, _, rfl, ?_⟩
          refine ite2 (fun c4 => ?_) (fun c4 => ?_)
          · have c5 : v ≥ (10 : Int) ^ (18 : Int).toNat := of_decide_eq_true c4
            refine ⟨_, rfl, _, _, rfl, rfl, ⟨by decide, by decide, by decide⟩, _, _, rfl, rfl, _, rfl, p, _, rfl, DPut.k (k := kD) hp2 five, ?_⟩
            rw [pD, upd_upd]
            exact ⟨_, rfl, mid _ _ _ (by omega) (Int.sub_nonneg_of_le c5) f0 f1, But.upd⟩
          · refine ⟨_, rfl, p, _, rfl, (show DGet _ _ (kV kF) _ from by rw [← gF l (i + 1) dg ((n : Int) + 1) fo]; exact DGet.k hp2), _, _, rfl, rfl, .inl ⟨by omega, by omega⟩, _, rfl, _, _, rfl, rfl, .inl ⟨_, rfl, _, _, rfl, rfl, (by show (0 : Int) < 2147483587; decide), _, rfl, p, _, rfl, DPut.k (k := kF) hp2 five, ?_⟩⟩
            rw [pF, upd_upd]
            exact ⟨_, rfl, mid _ _ _ (by omega) d0 (Int.emod_nonneg _ (by decide)) (Int.emod_lt_of_pos _ (by decide)), But.upd⟩
        · exact ⟨_, rfl, mid _ _ _ i0 d0 f0 f1, But.upd⟩
      · exact ⟨_, rfl, mid _ _ _ i0 d0 f0 f1, But.upd⟩
    · rintro σ G ⟨v, rfl, ⟨l, ns, i, dg, fo, hp, hl, hlen, i0, d0, f0, f1⟩, hB⟩
      have npl : l ≠ p := ne_of hl hp (by intro z; cases z)
      have hc : ((n + 1 : Nat) : Int) = (n : Int) + 1 := by omega
      refine ⟨_, rfl, p, _, rfl, (show DGet _ _ (kV kD) _ from by rw [← gD l i dg ((n + 1 : Nat) : Int) fo]; exact DGet.k hp), _, _, rfl, rfl, _, rfl, ?_⟩
      refine ite2 (fun c => ?_) (fun c => ?_)
      · refine ⟨_, rfl, p, _, rfl, (show DGet _ _ (kV kD) _ from by rw [← gD l i dg ((n + 1 : Nat) : Int) fo]; exact DGet.k hp), .inl ⟨_, rfl, _, rfl, _, _, rfl, rfl, m0, ?_⟩⟩
        refine ⟨_, rfl, p, _, rfl, (show DGet _ _ (kV kD) _ from by rw [← gD l i dg ((n + 1 : Nat) : Int) fo]; exact DGet.k hp), _, rfl, _, _, rfl, rfl, wide_div m0 m1 (by decide) (by decide), _, rfl, p, _, rfl, DPut.k (k := kD) hp five, ?_⟩
        rw [pD]
        refine ⟨_, rfl, ?_⟩
        refine q _ _ (Int.emod_nonneg _ (by omega)) (Int.emod_lt_of_pos _ m0) ⟨l, ns, i, dg / m, fo, upd_same, by rw [upd_ne npl]; exact hl, hlen, i0, Int.ediv_nonneg d0 (by omega), f0, f1⟩ (hB.trans But.upd)
      · refine ⟨_, rfl, p, _, rfl, (show DGet _ _ (kV kF) _ from by rw [← gF l i dg ((n + 1 : Nat) : Int) fo]; exact DGet.k hp), _, rfl, p, _, rfl, (show DGet _ _ (kV kN) _ from by rw [← gN l i dg ((n + 1 : Nat) : Int) fo]; exact DGet.k hp), _, _, rfl, rfl, .inl ⟨by omega, by omega⟩, _, _, rfl, rfl, _, _, rfl, rfl, ?_⟩
        refine ⟨_, rfl, _, _, rfl, rfl, big17 (by omega) (by omega), _, _, rfl, rfl, (by show (0 : Int) < 2305843009213693951; decide), .inl ⟨_, rfl, _, _, rfl, rfl, ⟨by decide, by decide⟩, _, rfl, _, _, rfl, rfl, m0, ?_⟩⟩
        exact q _ _ (Int.emod_nonneg _ (by omega)) (Int.emod_lt_of_pos _ m0) ⟨l, ns, i, dg, fo, hp, hl, hlen, i0, d0, f0, f1⟩ hB
abbrev s_parent : Stmt := top 11
abbrev n_parent : List Str := ["place", "width"]
theorem c_parent : FnScope n_parent ["place", "width"] (defScope s_parent) := ⟨rfl, rfl, rfl, by decide +kernel, rfl, by decide +kernel, by decide +kernel⟩
abbrev s_child : Stmt := top 12
abbrev n_child : List Str := ["place", "number", "width"]
theorem c_child : FnScope n_child ["place", "number", "width"] (defScope s_child) := ⟨rfl, rfl, rfl, by decide +kernel, rfl, by decide +kernel, by decide +kernel⟩
abbrev s_first_fault : Stmt := top 13
abbrev n_first_fault : List Str := ["items", "width", "place"]
theorem c_first_fault : FnScope n_first_fault ["items", "width"] (defScope s_first_fault) := ⟨rfl, rfl, rfl, by decide +kernel, rfl, by decide +kernel, by decide +kernel⟩
abbrev s_is_heap : Stmt := top 14
abbrev n_is_heap : List Str := ["items", "width"]
theorem c_is_heap : FnScope n_is_heap ["items", "width"] (defScope s_is_heap) := ⟨rfl, rfl, rfl, by decide +kernel, rfl, by decide +kernel, by decide +kernel⟩
abbrev s_is_kind : Stmt := top 23
abbrev n_is_kind : List Str := ["value"]
theorem c_is_kind : FnScope n_is_kind ["value"] (defScope s_is_kind) := ⟨rfl, rfl, rfl, by decide +kernel, rfl, by decide +kernel, by decide +kernel⟩
abbrev s_is_width : Stmt := top 24
abbrev n_is_width : List Str := ["value"]
theorem c_is_width : FnScope n_is_width ["value"] (defScope s_is_width) := ⟨rfl, rfl, rfl, by decide +kernel, rfl, by decide +kernel, by decide +kernel⟩
abbrev s_allows : Stmt := top 25
abbrev n_allows : List Str := ["kind", "word"]
theorem c_allows : FnScope n_allows ["kind", "word"] (defScope s_allows) := ⟨rfl, rfl, rfl, by decide +kernel, rfl, by decide +kernel, by decide +kernel⟩
abbrev s_is_integer : Stmt := top 27
abbrev n_is_integer : List Str := ["value"]
theorem c_is_integer : FnScope n_is_integer ["value"] (defScope s_is_integer) := ⟨rfl, rfl, rfl, by decide +kernel, rfl, by decide +kernel, by decide +kernel⟩
abbrev s_is_item : Stmt := top 28
abbrev n_is_item : List Str := ["value"]
theorem c_is_item : FnScope n_is_item ["value"] (defScope s_is_item) := ⟨rfl, rfl, rfl, by decide +kernel, rfl, by decide +kernel, by decide +kernel⟩
abbrev s_first_bad_item : Stmt := top 29
abbrev n_first_bad_item : List Str := ["values", "marks", "index", "value"]
theorem c_first_bad_item : FnScope n_first_bad_item ["values"] (defScope s_first_bad_item) := ⟨rfl, rfl, rfl, by decide +kernel, rfl, by decide +kernel, by decide +kernel⟩
abbrev s_start_fits : Stmt := top 30
abbrev n_start_fits : List Str := ["kind", "count", "start"]
theorem c_start_fits : FnScope n_start_fits ["kind", "count", "start"] (defScope s_start_fits) := ⟨rfl, rfl, rfl, by decide +kernel, rfl, by decide +kernel, by decide +kernel⟩
abbrev s_given_fits : Stmt := top 31
abbrev n_given_fits : List Str := ["kind", "items", "given", "_", "mark"]
theorem c_given_fits : FnScope n_given_fits ["kind", "items", "given"] (defScope s_given_fits) := ⟨rfl, rfl, rfl, by decide +kernel, rfl, by decide +kernel, by decide +kernel⟩
abbrev s_trees_are_heaps : Stmt := top 32
abbrev n_trees_are_heaps : List Str := ["items", "width", "start", "within", "place", "above"]
theorem c_trees_are_heaps : FnScope n_trees_are_heaps ["items", "width", "start"] (defScope s_trees_are_heaps) := ⟨rfl, rfl, rfl, by decide +kernel, rfl, by decide +kernel, by decide +kernel⟩
abbrev s_is_heap_but_for : Stmt := top 33
abbrev n_is_heap_but_for : List Str := ["items", "width", "start", "above", "place", "low"]
theorem c_is_heap_but_for : FnScope n_is_heap_but_for ["items", "width", "start"] (defScope s_is_heap_but_for) := ⟨rfl, rfl, rfl, by decide +kernel, rfl, by decide +kernel, by decide +kernel⟩
abbrev s_leans_right : Stmt := top 34
abbrev n_leans_right : List Str := ["kind", "items", "width", "start", "key", "first", "item"]
theorem c_leans_right : FnScope n_leans_right ["kind", "items", "width", "start"] (defScope s_leans_right) := ⟨rfl, rfl, rfl, by decide +kernel, rfl, by decide +kernel, by decide +kernel⟩
abbrev s_list_fits : Stmt := top 35
abbrev n_list_fits : List Str := ["kind", "width", "items", "start"]
theorem c_list_fits : FnScope n_list_fits ["kind", "width", "items", "start"] (defScope s_list_fits) := ⟨rfl, rfl, rfl, by decide +kernel, rfl, by decide +kernel, by decide +kernel⟩
abbrev s_check_items : Stmt := top 36
abbrev n_check_items : List Str := ["items", "bad"]
theorem c_check_items : FnScope n_check_items ["items"] (defScope s_check_items) := ⟨rfl, rfl, rfl, by decide +kernel, rfl, by decide +kernel, by decide +kernel⟩
abbrev s_check_start_and_given : Stmt := top 37
abbrev n_check_start_and_given : List Str := ["kind", "items", "start", "given"]
theorem c_check_start_and_given : FnScope n_check_start_and_given ["kind", "items", "start", "given"] (defScope s_check_start_and_given) := ⟨rfl, rfl, rfl, by decide +kernel, rfl, by decide +kernel, by decide +kernel⟩
abbrev s_check_case : Stmt := top 38
abbrev n_check_case : List Str := ["code", "items", "start", "given"]
theorem c_check_case : FnScope n_check_case ["code", "items", "start", "given"] (defScope s_check_case) := ⟨rfl, rfl, rfl, by decide +kernel, rfl, by decide +kernel, by decide +kernel⟩
abbrev s_read_number : Stmt := top 44
abbrev n_read_number : List Str := ["word", "width"]
theorem c_read_number : FnScope n_read_number ["word", "width"] (defScope s_read_number) := ⟨rfl, rfl, rfl, by decide +kernel, rfl, by decide +kernel, by decide +kernel⟩
abbrev s_read_side : Stmt := top 45
abbrev n_read_side : List Str := ["words", "place", "width", "number"]
theorem c_read_side : FnScope n_read_side ["words", "place", "width"] (defScope s_read_side) := ⟨rfl, rfl, rfl, by decide +kernel, rfl, by decide +kernel, by decide +kernel⟩
abbrev s_read_comparison : Stmt := top 46
abbrev n_read_comparison : List Str := ["words", "place", "width", "signs", "at", "word", "left", "right"]
theorem c_read_comparison : FnScope n_read_comparison ["words", "place", "width"] (defScope s_read_comparison) := ⟨rfl, rfl, rfl, by decide +kernel, rfl, by decide +kernel, by decide +kernel⟩
abbrev s_read_has : Stmt := top 47
abbrev n_read_has : List Str := ["words", "place", "width", "number"]
theorem c_read_has : FnScope n_read_has ["words", "place", "width"] (defScope s_read_has) := ⟨rfl, rfl, rfl, by decide +kernel, rfl, by decide +kernel, by decide +kernel⟩
abbrev s_read_plain_part : Stmt := top 48
abbrev n_read_plain_part : List Str := ["text", "place", "width", "words"]
theorem c_read_plain_part : FnScope n_read_plain_part ["text", "place", "width"] (defScope s_read_plain_part) := ⟨rfl, rfl, rfl, by decide +kernel, rfl, by decide +kernel, by decide +kernel⟩
abbrev s_read_part : Stmt := top 49
abbrev n_read_part : List Str := ["text", "place", "width", "denied", "plain"]
theorem c_read_part : FnScope n_read_part ["text", "place", "width"] (defScope s_read_part) := ⟨rfl, rfl, rfl, by decide +kernel, rfl, by decide +kernel, by decide +kernel⟩
abbrev s_read_test : Stmt := top 50
abbrev n_read_test : List Str := ["text", "place", "width", "parts", "part"]
theorem c_read_test : FnScope n_read_test ["text", "place", "width"] (defScope s_read_test) := ⟨rfl, rfl, rfl, by decide +kernel, rfl, by decide +kernel, by decide +kernel⟩
abbrev s_names_given : Stmt := top 51
abbrev n_names_given : List Str := ["test", "_", "left", "right"]
theorem c_names_given : FnScope n_names_given ["test"] (defScope s_names_given) := ⟨rfl, rfl, rfl, by decide +kernel, rfl, by decide +kernel, by decide +kernel⟩
abbrev s_Row_init : Stmt := inClass (top 56) 0
abbrev n_Row_init : List Str := ["self", "word", "place", "number", "test"]
theorem c_Row_init : FnScope n_Row_init ["self", "word", "place", "number", "test"] (defScope s_Row_init) := ⟨rfl, rfl, rfl, by decide +kernel, rfl, by decide +kernel, by decide +kernel⟩
abbrev s_row_with_test : Stmt := top 57
abbrev n_row_with_test : List Str := ["word", "place", "text", "width", "test"]
theorem c_row_with_test : FnScope n_row_with_test ["word", "place", "text", "width"] (defScope s_row_with_test) := ⟨rfl, rfl, rfl, by decide +kernel, rfl, by decide +kernel, by decide +kernel⟩
abbrev s_row_of_pick : Stmt := top 58
abbrev n_row_of_pick : List Str := ["place", "text", "width", "number"]
theorem c_row_of_pick : FnScope n_row_of_pick ["place", "text", "width"] (defScope s_row_of_pick) := ⟨rfl, rfl, rfl, by decide +kernel, rfl, by decide +kernel, by decide +kernel⟩
abbrev s_row_of_block_word : Stmt := top 59
abbrev n_row_of_block_word : List Str := ["word", "place", "opened", "takers"]
theorem c_row_of_block_word : FnScope n_row_of_block_word ["word", "place", "opened"] (defScope s_row_of_block_word) := ⟨rfl, rfl, rfl, by decide +kernel, rfl, by decide +kernel, by decide +kernel⟩
abbrev s_read_row : Stmt := top 60
abbrev n_read_row : List Str := ["line", "opened", "width", "loops", "block", "place", "word", "_", "text"]
theorem c_read_row : FnScope n_read_row ["line", "opened", "width"] (defScope s_read_row) := ⟨rfl, rfl, rfl, by decide +kernel, rfl, by decide +kernel, by decide +kernel⟩
abbrev s_blocks_behind : Stmt := top 61
abbrev n_blocks_behind : List Str := ["word", "opened"]
theorem c_blocks_behind : FnScope n_blocks_behind ["word", "opened"] (defScope s_blocks_behind) := ⟨rfl, rfl, rfl, by decide +kernel, rfl, by decide +kernel, by decide +kernel⟩
abbrev s_read_rows : Stmt := top 62
abbrev n_read_rows : List Str := ["lines", "width", "rows", "opened", "number", "line", "row"]
theorem c_read_rows : FnScope n_read_rows ["lines", "width"] (defScope s_read_rows) := ⟨rfl, rfl, rfl, by decide +kernel, rfl, by decide +kernel, by decide +kernel⟩
abbrev s_Player_init : Stmt := inClass (top 65) 0
abbrev n_Player_init : List Str := ["self", "code", "items", "start", "given"]
theorem c_Player_init : FnScope n_Player_init ["self", "code", "items", "start", "given"] (defScope s_Player_init) := ⟨rfl, rfl, rfl, by decide +kernel, rfl, by decide +kernel, by decide +kernel⟩
abbrev s_Player_item : Stmt := inClass (top 65) 1
abbrev n_Player_item : List Str := ["self", "place"]
theorem c_Player_item : FnScope n_Player_item ["self", "place"] (defScope s_Player_item) := ⟨rfl, rfl, rfl, by decide +kernel, rfl, by decide +kernel, by decide +kernel⟩
abbrev s_Player_mate_place : Stmt := inClass (top 65) 2
abbrev n_Player_mate_place : List Str := ["self"]
theorem c_Player_mate_place : FnScope n_Player_mate_place ["self"] (defScope s_Player_mate_place) := ⟨rfl, rfl, rfl, by decide +kernel, rfl, by decide +kernel, by decide +kernel⟩
abbrev s_Player_move : Stmt := inClass (top 65) 3
abbrev n_Player_move : List Str := ["self", "place"]
theorem c_Player_move : FnScope n_Player_move ["self", "place"] (defScope s_Player_move) := ⟨rfl, rfl, rfl, by decide +kernel, rfl, by decide +kernel, by decide +kernel⟩
abbrev s_Player_run : Stmt := inClass (top 65) 4
abbrev n_Player_run : List Str := ["self"]
theorem c_Player_run : FnScope n_Player_run ["self"] (defScope s_Player_run) := ⟨rfl, rfl, rfl, by decide +kernel, rfl, by decide +kernel, by decide +kernel⟩
abbrev s_Player_step : Stmt := inClass (top 65) 5
abbrev n_Player_step : List Str := ["self", "row", "action"]
theorem c_Player_step : FnScope n_Player_step ["self", "row"] (defScope s_Player_step) := ⟨rfl, rfl, rfl, by decide +kernel, rfl, by decide +kernel, by decide +kernel⟩
abbrev s_Player_meet_head : Stmt := inClass (top 65) 6
abbrev n_Player_meet_head : List Str := ["self", "sight"]
theorem c_Player_meet_head : FnScope n_Player_meet_head ["self"] (defScope s_Player_meet_head) := ⟨rfl, rfl, rfl, by decide +kernel, rfl, by decide +kernel, by decide +kernel⟩
abbrev s_Player_station : Stmt := inClass (top 65) 7
abbrev n_Player_station : List Str := ["self", "first", "children", "here", "rank"]
theorem c_Player_station : FnScope n_Player_station ["self"] (defScope s_Player_station) := ⟨rfl, rfl, rfl, by decide +kernel, rfl, by decide +kernel, by decide +kernel⟩
abbrev s_Player_branch : Stmt := inClass (top 65) 8
abbrev n_Player_branch : List Str := ["self", "test", "part", "holds"]
theorem c_Player_branch : FnScope n_Player_branch ["self", "test"] (defScope s_Player_branch) := ⟨rfl, rfl, rfl, by decide +kernel, rfl, by decide +kernel, by decide +kernel⟩
abbrev s_Player_ask : Stmt := inClass (top 65) 9
abbrev n_Player_ask : List Str := ["self", "part", "holds", "word", "left", "right", "one", "two", "found"]
theorem c_Player_ask : FnScope n_Player_ask ["self", "part"] (defScope s_Player_ask) := ⟨rfl, rfl, rfl, by decide +kernel, rfl, by decide +kernel, by decide +kernel⟩
abbrev s_Player_named_item : Stmt := inClass (top 65) 10
abbrev n_Player_named_item : List Str := ["self", "side", "word", "number"]
theorem c_Player_named_item : FnScope n_Player_named_item ["self", "side"] (defScope s_Player_named_item) := ⟨rfl, rfl, rfl, by decide +kernel, rfl, by decide +kernel, by decide +kernel⟩
abbrev s_Player_put_down : Stmt := inClass (top 65) 11
abbrev n_Player_put_down : List Str := ["self", "place", "item"]
theorem c_Player_put_down : FnScope n_Player_put_down ["self", "place", "item"] (defScope s_Player_put_down) := ⟨rfl, rfl, rfl, by decide +kernel, rfl, by decide +kernel, by decide +kernel⟩
abbrev s_Player_exchange : Stmt := inClass (top 65) 12
abbrev n_Player_exchange : List Str := ["self", "one", "two", "first", "second"]
theorem c_Player_exchange : FnScope n_Player_exchange ["self", "one", "two"] (defScope s_Player_exchange) := ⟨rfl, rfl, rfl, by decide +kernel, rfl, by decide +kernel, by decide +kernel⟩
abbrev s_Player_note_place : Stmt := inClass (top 65) 13
abbrev n_Player_note_place : List Str := ["self", "place", "item"]
theorem c_Player_note_place : FnScope n_Player_note_place ["self", "place"] (defScope s_Player_note_place) := ⟨rfl, rfl, rfl, by decide +kernel, rfl, by decide +kernel, by decide +kernel⟩
abbrev s_tell : Stmt := top 66
abbrev n_tell : List Str := ["player", "row", "item"]
theorem c_tell : FnScope n_tell ["player", "row"] (defScope s_tell) := ⟨rfl, rfl, rfl, by decide +kernel, rfl, by decide +kernel, by decide +kernel⟩
abbrev s_grab : Stmt := top 67
abbrev n_grab : List Str := ["player", "row", "held"]
theorem c_grab : FnScope n_grab ["player", "row"] (defScope s_grab) := ⟨rfl, rfl, rfl, by decide +kernel, rfl, by decide +kernel, by decide +kernel⟩
abbrev s_lay : Stmt := top 68
abbrev n_lay : List Str := ["player", "row"]
theorem c_lay : FnScope n_lay ["player", "row"] (defScope s_lay) := ⟨rfl, rfl, rfl, by decide +kernel, rfl, by decide +kernel, by decide +kernel⟩
abbrev s_longer : Stmt := top 69
abbrev n_longer : List Str := ["player", "row"]
theorem c_longer : FnScope n_longer ["player", "row"] (defScope s_longer) := ⟨rfl, rfl, rfl, by decide +kernel, rfl, by decide +kernel, by decide +kernel⟩
abbrev s_shorter : Stmt := top 70
abbrev n_shorter : List Str := ["player", "row"]
theorem c_shorter : FnScope n_shorter ["player", "row"] (defScope s_shorter) := ⟨rfl, rfl, rfl, by decide +kernel, rfl, by decide +kernel, by decide +kernel⟩
abbrev s_trade : Stmt := top 71
abbrev n_trade : List Str := ["player", "row"]
theorem c_trade : FnScope n_trade ["player", "row"] (defScope s_trade) := ⟨rfl, rfl, rfl, by decide +kernel, rfl, by decide +kernel, by decide +kernel⟩
abbrev s_to_start : Stmt := top 72
abbrev n_to_start : List Str := ["player", "row"]
theorem c_to_start : FnScope n_to_start ["player", "row"] (defScope s_to_start) := ⟨rfl, rfl, rfl, by decide +kernel, rfl, by decide +kernel, by decide +kernel⟩
abbrev s_note : Stmt := top 73
abbrev n_note : List Str := ["player", "row"]
theorem c_note : FnScope n_note ["player", "row"] (defScope s_note) := ⟨rfl, rfl, rfl, by decide +kernel, rfl, by decide +kernel, by decide +kernel⟩
abbrev s_note_mate : Stmt := top 74
abbrev n_note_mate : List Str := ["player", "row"]
theorem c_note_mate : FnScope n_note_mate ["player", "row"] (defScope s_note_mate) := ⟨rfl, rfl, rfl, by decide +kernel, rfl, by decide +kernel, by decide +kernel⟩
abbrev s_go : Stmt := top 75
abbrev n_go : List Str := ["player", "row", "place"]
theorem c_go : FnScope n_go ["player", "row"] (defScope s_go) := ⟨rfl, rfl, rfl, by decide +kernel, rfl, by decide +kernel, by decide +kernel⟩
abbrev s_pull : Stmt := top 76
abbrev n_pull : List Str := ["player", "row"]
theorem c_pull : FnScope n_pull ["player", "row"] (defScope s_pull) := ⟨rfl, rfl, rfl, by decide +kernel, rfl, by decide +kernel, by decide +kernel⟩
abbrev s_swap : Stmt := top 77
abbrev n_swap : List Str := ["player", "row"]
theorem c_swap : FnScope n_swap ["player", "row"] (defScope s_swap) := ⟨rfl, rfl, rfl, by decide +kernel, rfl, by decide +kernel, by decide +kernel⟩
abbrev s_pick : Stmt := top 78
abbrev n_pick : List Str := ["player", "row"]
theorem c_pick : FnScope n_pick ["player", "row"] (defScope s_pick) := ⟨rfl, rfl, rfl, by decide +kernel, rfl, by decide +kernel, by decide +kernel⟩
abbrev s_tree_of : Stmt := top 81
abbrev n_tree_of : List Str := ["start", "width", "count", "within", "place"]
theorem c_tree_of : FnScope n_tree_of ["start", "width", "count"] (defScope s_tree_of) := ⟨rfl, rfl, rfl, by decide +kernel, rfl, by decide +kernel, by decide +kernel⟩
abbrev s_owed_items : Stmt := top 82
abbrev n_owed_items : List Str := ["kind", "items", "given", "told", "whole"]
theorem c_owed_items : FnScope n_owed_items ["kind", "items", "given", "told"] (defScope s_owed_items) := ⟨rfl, rfl, rfl, by decide +kernel, rfl, by decide +kernel, by decide +kernel⟩
abbrev s_keeps_items : Stmt := top 83
abbrev n_keeps_items : List Str := ["kind", "width", "items", "start", "given", "left", "told", "within", "place", "item"]
theorem c_keeps_items : FnScope n_keeps_items ["kind", "width", "items", "start", "given", "left", "told"] (defScope s_keeps_items) := ⟨rfl, rfl, rfl, by decide +kernel, rfl, by decide +kernel, by decide +kernel⟩
abbrev s_keeps_orderP : Stmt := top 84
abbrev n_keeps_orderP : List Str := ["kind", "width", "start", "left", "within", "place"]
theorem c_keeps_orderP : FnScope n_keeps_orderP ["kind", "width", "start", "left"] (defScope s_keeps_orderP) := ⟨rfl, rfl, rfl, by decide +kernel, rfl, by decide +kernel, by decide +kernel⟩
abbrev s_keeps_told : Stmt := top 86
abbrev n_keeps_told : List Str := ["kind", "items", "start", "told", "key", "_"]
theorem c_keeps_told : FnScope n_keeps_told ["kind", "items", "start", "told"] (defScope s_keeps_told) := ⟨rfl, rfl, rfl, by decide +kernel, rfl, by decide +kernel, by decide +kernel⟩
abbrev s_keeps_places : Stmt := top 87
abbrev n_keeps_places : List Str := ["left", "entries", "noted", "place", "_", "mark"]
theorem c_keeps_places : FnScope n_keeps_places ["left", "entries", "noted"] (defScope s_keeps_places) := ⟨rfl, rfl, rfl, by decide +kernel, rfl, by decide +kernel, by decide +kernel⟩
abbrev s_broken_at_end : Stmt := top 88
abbrev n_broken_at_end : List Str := ["code", "items", "start", "given", "player", "entries", "left", "broken"]
theorem c_broken_at_end : FnScope n_broken_at_end ["code", "items", "start", "given", "player", "entries"] (defScope s_broken_at_end) := ⟨rfl, rfl, rfl, by decide +kernel, rfl, by decide +kernel, by decide +kernel⟩
abbrev s_broken_by : Stmt := top 89
abbrev n_broken_by : List Str := ["code", "items", "start", "given", "player", "entries"]
theorem c_broken_by : FnScope n_broken_by ["code", "items", "start", "given", "player", "entries"] (defScope s_broken_by) := ⟨rfl, rfl, rfl, by decide +kernel, rfl, by decide +kernel, by decide +kernel⟩
abbrev s_Table_init : Stmt := inClass (top 91) 0
abbrev n_Table_init : List Str := ["self", "older", "entries"]
theorem c_Table_init : FnScope n_Table_init ["self", "older", "entries"] (defScope s_Table_init) := ⟨rfl, rfl, rfl, by decide +kernel, rfl, by decide +kernel, by decide +kernel⟩
abbrev s_Table_whole : Stmt := inClass (top 91) 1
abbrev n_Table_whole : List Str := ["self", "layers", "table", "found", "entries"]
theorem c_Table_whole : FnScope n_Table_whole ["self"] (defScope s_Table_whole) := ⟨rfl, rfl, rfl, by decide +kernel, rfl, by decide +kernel, by decide +kernel⟩
abbrev s_Play_init : Stmt := inClass (top 93) 0
abbrev n_Play_init : List Str := ["self", "player", "broken", "table"]
theorem c_Play_init : FnScope n_Play_init ["self", "player", "broken", "table"] (defScope s_Play_init) := ⟨rfl, rfl, rfl, by decide +kernel, rfl, by decide +kernel, by decide +kernel⟩
abbrev s_Play_table : Stmt := inClass (top 93) 1
abbrev n_Play_table : List Str := ["self"]
theorem c_Play_table : FnScope n_Play_table ["self"] (defScope s_Play_table) := ⟨rfl, rfl, rfl, by decide +kernel, rfl, by decide +kernel, by decide +kernel⟩
abbrev s_Play_lines : Stmt := inClass (top 93) 2
abbrev n_Play_lines : List Str := ["self"]
theorem c_Play_lines : FnScope n_Play_lines ["self"] (defScope s_Play_lines) := ⟨rfl, rfl, rfl, by decide +kernel, rfl, by decide +kernel, by decide +kernel⟩
abbrev s_Play_sides : Stmt := inClass (top 93) 3
abbrev n_Play_sides : List Str := ["self"]
theorem c_Play_sides : FnScope n_Play_sides ["self"] (defScope s_Play_sides) := ⟨rfl, rfl, rfl, by decide +kernel, rfl, by decide +kernel, by decide +kernel⟩
abbrev s_Play_stations : Stmt := inClass (top 93) 4
abbrev n_Play_stations : List Str := ["self"]
theorem c_Play_stations : FnScope n_Play_stations ["self"] (defScope s_Play_stations) := ⟨rfl, rfl, rfl, by decide +kernel, rfl, by decide +kernel, by decide +kernel⟩
abbrev s_first_place : Stmt := top 94
abbrev n_first_place : List Str := ["kind", "count", "start"]
theorem c_first_place : FnScope n_first_place ["kind", "count", "start"] (defScope s_first_place) := ⟨rfl, rfl, rfl, by decide +kernel, rfl, by decide +kernel, by decide +kernel⟩
abbrev s_play : Stmt := top 95
abbrev n_play : List Str := ["code", "items", "start", "given", "entries", "place", "item", "player", "broken"]
theorem c_play : FnScope n_play ["code", "items", "start", "given"] (defScope s_play) := ⟨rfl, rfl, rfl, by decide +kernel, rfl, by decide +kernel, by decide +kernel⟩
abbrev s_match_blocks : Stmt := top 97
abbrev n_match_blocks : List Str := ["rows", "heads", "ends", "opened", "at", "row"]
theorem c_match_blocks : FnScope n_match_blocks ["rows"] (defScope s_match_blocks) := ⟨rfl, rfl, rfl, by decide +kernel, rfl, by decide +kernel, by decide +kernel⟩
abbrev s_Flow_init : Stmt := inClass (top 98) 0
abbrev n_Flow_init : List Str := ["self", "rows", "at"]
theorem c_Flow_init : FnScope n_Flow_init ["self", "rows"] (defScope s_Flow_init) := ⟨rfl, rfl, rfl, by decide +kernel, rfl, by decide +kernel, by decide +kernel⟩
abbrev s_Flow_landing : Stmt := inClass (top 98) 1
abbrev n_Flow_landing : List Str := ["self", "at", "head"]
theorem c_Flow_landing : FnScope n_Flow_landing ["self", "at"] (defScope s_Flow_landing) := ⟨rfl, rfl, rfl, by decide +kernel, rfl, by decide +kernel, by decide +kernel⟩
abbrev s_Flow_way_past : Stmt := inClass (top 98) 2
abbrev n_Flow_way_past : List Str := ["self", "at", "place", "head"]
theorem c_Flow_way_past : FnScope n_Flow_way_past ["self", "at"] (defScope s_Flow_way_past) := ⟨rfl, rfl, rfl, by decide +kernel, rfl, by decide +kernel, by decide +kernel⟩
abbrev s_Flow_find_loops : Stmt := inClass (top 98) 3
abbrev n_Flow_find_loops : List Str := ["self", "found", "head", "end", "at"]
theorem c_Flow_find_loops : FnScope n_Flow_find_loops ["self"] (defScope s_Flow_find_loops) := ⟨rfl, rfl, rfl, by decide +kernel, rfl, by decide +kernel, by decide +kernel⟩
abbrev s_keeps_order : Stmt := top 103
abbrev n_keeps_order : List Str := ["way", "word", "loops", "home", "_", "once"]
theorem c_keeps_order : FnScope n_keeps_order ["way", "word"] (defScope s_keeps_order) := ⟨rfl, rfl, rfl, by decide +kernel, rfl, by decide +kernel, by decide +kernel⟩
abbrev s_way_behind : Stmt := top 105
abbrev n_way_behind : List Str := ["way", "line", "word", "loops", "home", "cut", "once", "known"]
theorem c_way_behind : FnScope n_way_behind ["way", "line", "word"] (defScope s_way_behind) := ⟨rfl, rfl, rfl, by decide +kernel, rfl, by decide +kernel, by decide +kernel⟩
abbrev s_is_turn : Stmt := top 106
abbrev n_is_turn : List Str := ["way", "word", "loops", "home", "_"]
theorem c_is_turn : FnScope n_is_turn ["way", "word"] (defScope s_is_turn) := ⟨rfl, rfl, rfl, by decide +kernel, rfl, by decide +kernel, by decide +kernel⟩
abbrev s_may_begin : Stmt := top 107
abbrev n_may_begin : List Str := ["way", "word", "loops", "home", "_"]
theorem c_may_begin : FnScope n_may_begin ["way", "word"] (defScope s_may_begin) := ⟨rfl, rfl, rfl, by decide +kernel, rfl, by decide +kernel, by decide +kernel⟩
abbrev s_Walk_init : Stmt := inClass (top 108) 0
abbrev n_Walk_init : List Str := ["self", "kind"]
theorem c_Walk_init : FnScope n_Walk_init ["self", "kind"] (defScope s_Walk_init) := ⟨rfl, rfl, rfl, by decide +kernel, rfl, by decide +kernel, by decide +kernel⟩
abbrev s_Walk_step : Stmt := inClass (top 108) 1
abbrev n_Walk_step : List Str := ["self", "line", "row"]
theorem c_Walk_step : FnScope n_Walk_step ["self", "line", "row"] (defScope s_Walk_step) := ⟨rfl, rfl, rfl, by decide +kernel, rfl, by decide +kernel, by decide +kernel⟩
abbrev s_Walk_begin_loop : Stmt := inClass (top 108) 2
abbrev n_Walk_begin_loop : List Str := ["self", "line", "word", "way", "behind", "loops", "_", "cut", "once"]
theorem c_Walk_begin_loop : FnScope n_Walk_begin_loop ["self", "line", "word"] (defScope s_Walk_begin_loop) := ⟨rfl, rfl, rfl, by decide +kernel, rfl, by decide +kernel, by decide +kernel⟩
abbrev s_Walk_stay_in_loop : Stmt := inClass (top 108) 3
abbrev n_Walk_stay_in_loop : List Str := ["self", "line", "word"]
theorem c_Walk_stay_in_loop : FnScope n_Walk_stay_in_loop ["self", "line", "word"] (defScope s_Walk_stay_in_loop) := ⟨rfl, rfl, rfl, by decide +kernel, rfl, by decide +kernel, by decide +kernel⟩
abbrev s_Walk_fork : Stmt := inClass (top 108) 4
abbrev n_Walk_fork : List Str := ["self", "line", "row", "ahead", "_", "way", "first"]
theorem c_Walk_fork : FnScope n_Walk_fork ["self", "line", "row"] (defScope s_Walk_fork) := ⟨rfl, rfl, rfl, by decide +kernel, rfl, by decide +kernel, by decide +kernel⟩
abbrev s_Walk_pass_line : Stmt := inClass (top 108) 5
abbrev n_Walk_pass_line : List Str := ["self", "line", "word", "way"]
theorem c_Walk_pass_line : FnScope n_Walk_pass_line ["self", "line", "word"] (defScope s_Walk_pass_line) := ⟨rfl, rfl, rfl, by decide +kernel, rfl, by decide +kernel, by decide +kernel⟩
abbrev s_Walk_end_ways : Stmt := inClass (top 108) 6
abbrev n_Walk_end_ways : List Str := ["self", "_", "home"]
theorem c_Walk_end_ways : FnScope n_Walk_end_ways ["self"] (defScope s_Walk_end_ways) := ⟨rfl, rfl, rfl, by decide +kernel, rfl, by decide +kernel, by decide +kernel⟩
abbrev s_least_break : Stmt := top 109
abbrev n_least_break : List Str := ["kind", "rows", "walk", "line", "row"]
theorem c_least_break : FnScope n_least_break ["kind", "rows"] (defScope s_least_break) := ⟨rfl, rfl, rfl, by decide +kernel, rfl, by decide +kernel, by decide +kernel⟩
abbrev s_Code_init : Stmt := inClass (top 112) 0
abbrev n_Code_init : List Str := ["self", "kind", "width", "text", "lines", "rows", "broken"]
theorem c_Code_init : FnScope n_Code_init ["self", "kind", "width", "text"] (defScope s_Code_init) := ⟨rfl, rfl, rfl, by decide +kernel, rfl, by decide +kernel, by decide +kernel⟩
abbrev s_Code_len : Stmt := inClass (top 112) 1
abbrev n_Code_len : List Str := ["self"]
theorem c_Code_len : FnScope n_Code_len ["self"] (defScope s_Code_len) := ⟨rfl, rfl, rfl, by decide +kernel, rfl, by decide +kernel, by decide +kernel⟩
abbrev s_Code_getitem : Stmt := inClass (top 112) 2
abbrev n_Code_getitem : List Str := ["self", "at"]
theorem c_Code_getitem : FnScope n_Code_getitem ["self", "at"] (defScope s_Code_getitem) := ⟨rfl, rfl, rfl, by decide +kernel, rfl, by decide +kernel, by decide +kernel⟩
abbrev s_Code_iter : Stmt := inClass (top 112) 3
abbrev n_Code_iter : List Str := ["self"]
theorem c_Code_iter : FnScope n_Code_iter ["self"] (defScope s_Code_iter) := ⟨rfl, rfl, rfl, by decide +kernel, rfl, by decide +kernel, by decide +kernel⟩
abbrev s_Code_eq : Stmt := inClass (top 112) 4
abbrev n_Code_eq : List Str := ["self", "other"]
theorem c_Code_eq : FnScope n_Code_eq ["self", "other"] (defScope s_Code_eq) := ⟨rfl, rfl, rfl, by decide +kernel, rfl, by decide +kernel, by decide +kernel⟩
abbrev s_Code_as_kind : Stmt := inClass (top 112) 5
abbrev n_Code_as_kind : List Str := ["self", "kind"]
theorem c_Code_as_kind : FnScope n_Code_as_kind ["self", "kind"] (defScope s_Code_as_kind) := ⟨rfl, rfl, rfl, by decide +kernel, rfl, by decide +kernel, by decide +kernel⟩
abbrev s_Lparent : Stmt := top 116
abbrev n_Lparent : List Str := ["_law_place", "_law_width"]
theorem c_Lparent : FnScope n_Lparent ["_law_place", "_law_width"] (defScope s_Lparent) := ⟨rfl, rfl, rfl, by decide +kernel, rfl, by decide +kernel, by decide +kernel⟩
abbrev s_Lfaults : Stmt := top 117
abbrev n_Lfaults : List Str := ["_law_row", "_law_width", "_law_k"]
theorem c_Lfaults : FnScope n_Lfaults ["_law_row", "_law_width"] (defScope s_Lfaults) := ⟨rfl, rfl, rfl, by decide +kernel, rfl, by decide +kernel, by decide +kernel⟩
abbrev s_Lunder : Stmt := top 118
abbrev n_Lunder : List Str := ["_law_place", "_law_start", "_law_width"]
theorem c_Lunder : FnScope n_Lunder ["_law_place", "_law_start", "_law_width"] (defScope s_Lunder) := ⟨rfl, rfl, rfl, by decide +kernel, rfl, by decide +kernel, by decide +kernel⟩
abbrev s_Lis_list : Stmt := top 119
abbrev n_Lis_list : List Str := ["_law_kind", "_law_width", "_law_row", "_law_start", "_law_faults_here", "_law_kids", "_law_k", "_law_allowed", "_law_base", "_law_item"]
theorem c_Lis_list : FnScope n_Lis_list ["_law_kind", "_law_width", "_law_row", "_law_start"] (defScope s_Lis_list) := ⟨rfl, rfl, rfl, by decide +kernel, rfl, by decide +kernel, by decide +kernel⟩
abbrev s_Litems : Stmt := top 120
abbrev n_Litems : List Str := ["_law_bag_here", "_law_n", "_law_width", "_law_wide", "_law_scale", "_law_first", "_law_found", "_law_k", "_law_base"]
theorem c_Litems : FnScope n_Litems ["_law_bag_here", "_law_n", "_law_width"] (defScope s_Litems) := ⟨rfl, rfl, rfl, by decide +kernel, rfl, by decide +kernel, by decide +kernel⟩
abbrev s_Ltold : Stmt := top 121
abbrev n_Ltold : List Str := ["_law_code", "_law_row", "_law_start", "_law_given", "e"]
theorem c_Ltold : FnScope n_Ltold ["_law_code", "_law_row", "_law_start", "_law_given"] (defScope s_Ltold) := ⟨rfl, rfl, rfl, by decide +kernel, rfl, by decide +kernel, by decide +kernel⟩
abbrev s_law : Stmt := top 122
abbrev n_law : List Str := ["_law_script", "_law_bag_here", "_law_k", "_law_kind", "_law_width", "_law_code", "_law_n", "_law_row", "_law_j", "_law_at", "_law_given", "_law_starts", "_law_start", "_law_due"]
theorem c_law : FnScope n_law ["_law_script"] (defScope s_law) := ⟨rfl, rfl, rfl, by decide +kernel, rfl, by decide +kernel, by decide +kernel⟩
end
end H2
namespace H2
open PySem PySem.Spec PyProof.Rows L2 Hx Nd Dun
section
variable {P : Program} {w : World} {K : PySem.W.Frag} {mg : Str → Option Value} {base : Heap} {D : Addr}
/-! ### facts of the top -/
structure FT (K : PySem.W.Frag) (mg : Str → Option Value) (x : Str) (st : Stmt) (ps : List Str) (f : Addr) : Prop where
  g : mg x = some (.ref f)
  fn : ∃ fd, Fun K x x st f fd ∧ Binds K fd ps []
structure MT (K : PySem.W.Frag) (C : Addr) (nm qual : Str) (st : Stmt) (ps : List Str) (f : Addr) : Prop where
  m : Meth K C nm f
  fn : ∃ fd, Fun K nm qual st f fd ∧ Binds K fd ps []
structure TupT (K : PySem.W.Frag) (mg : Str → Option Value) (x : Str) (a : Addr) (xs : List V) : Prop where
  g : mg x = some (.ref a)
  s : ∀ H, SqT K H a xs
def kindsV : List V := [.str "put", .str "take", .str "top", .str "out", .str "either", .str "above", .str "below", .str "tree"]
def widthsV : List V := [.int 2, .int 3, .int 4]
/-! ### is_kind, is_width, allows -/
def spIs (K : PySem.W.Frag) (ty : String) (xs : List V) : Sp := fun vs H Q _ => ∃ (v : V) (t : Value) (b : Bool), vs = [v] ∧ TyX K H v t ∧ PySem.W.kitOne K t (.type ty) = some b ∧ (b = true → flatV v = true) ∧ Q (.bl (b && inV v xs)) H
theorem ok_is_kind {f k : Addr} (T : FT K mg "is_kind" s_is_kind ["value"] f) (isi : mg "isinstance" = none) (st : mg "str" = none) (C : TupT K mg "KINDS" k kindsV) : ∃ fd, Fun K "is_kind" "is_kind" s_is_kind f fd ∧ Binds K fd ["value"] [] ∧ FnOk P w K mg base CX0 1 f fd ["value"] (spIs K "str" kindsV) := by
  obtain ⟨fd, F, b⟩ := T.fn
  refine ⟨fd, F, b, F.ok c_is_kind (fun vs H Q E h => ?_) (fun cdv A outer s H vs Q E hr h => ?_)⟩
  · obtain ⟨v, t, b, rfl, _⟩ := h
    rfl
  obtain ⟨v, t, b, rfl, ty, hk, hf, q⟩ := h
  refine ⟨_, pss_one (ps_ret (pe_and (pe_callB call_isi (by rfl) isi (by decide +kernel) (pa_cons (pv 0) (pa_cons (pe_bltn (x := "str") (v := .ty "str") rfl st (by decide +kernel) rfl) pa_nil))) (pe_one (pe_cmpR op_in_seq (pv 0) (pe_glob (v := .ref k) rfl C.g rfl) rfl)))), ?_⟩
  refine ⟨_, rfl, v, .ty "str", t, .type "str", b, rfl, .ty _, ty, hk, b, rfl, ?_⟩
  cases b with
  | false => exact q
  | true => exact ⟨_, rfl, k, kindsV, rfl, .inr (C.s H), hf rfl, rfl, q⟩
theorem ok_is_width {f k : Addr} (T : FT K mg "is_width" s_is_width ["value"] f) (isi : mg "isinstance" = none) (st : mg "int" = none) (C : TupT K mg "WIDTHS" k widthsV) : ∃ fd, Fun K "is_width" "is_width" s_is_width f fd ∧ Binds K fd ["value"] [] ∧ FnOk P w K mg base CX0 1 f fd ["value"] (spIs K "int" widthsV) := by
  obtain ⟨fd, F, b⟩ := T.fn
  refine ⟨fd, F, b, F.ok c_is_width (fun vs H Q E h => ?_) (fun cdv A outer s H vs Q E hr h => ?_)⟩
  · obtain ⟨v, t, b, rfl, _⟩ := h
    rfl
  obtain ⟨v, t, b, rfl, ty, hk, hf, q⟩ := h
  refine ⟨_, pss_one (ps_ret (pe_and (pe_callB call_isi (by rfl) isi (by decide +kernel) (pa_cons (pv 0) (pa_cons (pe_bltn (x := "int") (v := .ty "int") rfl st (by decide +kernel) rfl) pa_nil))) (pe_one (pe_cmpR op_in_seq (pv 0) (pe_glob (v := .ref k) rfl C.g rfl) rfl)))), ?_⟩
  refine ⟨_, rfl, v, .ty "int", t, .type "int", b, rfl, .ty _, ty, hk, b, rfl, ?_⟩
  cases b with
  | false => exact q
  | true => exact ⟨_, rfl, k, widthsV, rfl, .inr (C.s H), hf rfl, rfl, q⟩
/-- the words that stand in every kind -/
def freeW : List Str := ["tell", "grab", "note", "quit"]
structure AllT (K : PySem.W.Frag) (w : World) (mg : Str → Option Value) (d : Addr) : Prop where
  g : mg "ALLOWED" = some (.ref d)
  kd : ∃ es n, KDict K w d es n
  no : ∀ x ∈ freeW, PySem.W.nsIn K d x = some none
def spAllows : Sp := fun vs H Q _ => ∃ (v : V) (x : Str), vs = [v, .str x] ∧ x ∈ freeW ∧ Q (.bl true) H
theorem ok_allows {f d : Addr} (T : FT K mg "allows" s_allows ["kind", "word"] f) (C : AllT K w mg d) : ∃ fd, Fun K "allows" "allows" s_allows f fd ∧ Binds K fd ["kind", "word"] [] ∧ FnOk P w K mg base CX0 1 f fd ["kind", "word"] spAllows := by
  obtain ⟨fd, F, b⟩ := T.fn
  refine ⟨fd, F, b, F.ok c_allows (fun vs H Q E h => ?_) (fun cdv A outer s H vs Q E hr h => ?_)⟩
  · obtain ⟨v, x, rfl, _⟩ := h
    rfl
  obtain ⟨v, x, rfl, hx, q⟩ := h
  obtain ⟨es, n, kd⟩ := C.kd
  refine ⟨_, pss_one (ps_ret (pe_or (pe_cmpR (op_notIn_kd kd) (pv 1) (pe_glob (v := .ref d) rfl C.g rfl) rfl) (pe_one pe_no))), ?_⟩
  exact ⟨_, rfl, x, none, rfl, rfl, C.no x hx, true, rfl, q⟩
end
end H2
namespace H2
open PySem PySem.Spec PyProof.Rows L2 Hx Nd Dun
section
variable {P : Program} {w : World} {K : PySem.W.Frag} {mg : Str → Option Value} {base : Heap} {D : Addr}
theorem u65 {k : Nat} {A : Around} (r : Room k A) : A.units + 65 < cLine := by have := r.un; omega
/-! ### parts and tests: of 'inside' and 'below root' alone -/
def partTexts : List Str := ["inside", "below root"]
/-- the part that such a text is -/
def Part (K : PySem.W.Frag) (H : Hp) (p : Addr) : Prop := ∃ x : Str, x ∈ partTexts ∧ SqT K H p [.bl true, .str x, .non, .non]
/-- a test of one such part -/
def Test (K : PySem.W.Frag) (H : Hp) (t : Addr) : Prop := ∃ p, SqT K H t [.ref p] ∧ Part K H p
theorem Part.keep {H H' : Hp} {p : Addr} (h : Part K H p) (e : Same H H') : Part K H' p := by
  obtain ⟨x, hx, h⟩ := h
  exact ⟨x, hx, sqt_same e h⟩
theorem partOk {x : Str} (hx : x ∈ partTexts) : PyData.strOk x = true := by
  unfold partTexts at hx
  rcases List.mem_cons.mp hx with rfl | hx
  · decide +kernel
  · rcases List.mem_cons.mp hx with rfl | hx
    · decide +kernel
    · cases hx
theorem Test.keep {H H' : Hp} {p : Addr} (h : Test K H p) (e : Same H H') : Test K H' p := by
  obtain ⟨q, h1, h2⟩ := h
  exact ⟨q, sqt_same e h1, h2.keep e⟩
def spPlain (K : PySem.W.Frag) : Sp := fun vs H Q _ => ∃ (x : Str) (y z : V), vs = [.str x, y, z] ∧ x ∈ partTexts ∧ ∀ H' p, Same H H' → SqT K H' p [.str x, .non, .non] → Q (.ref p) H'
theorem ok_plain {f : Addr} (T : FT K mg "read_plain_part" s_read_plain_part ["text", "place", "width"] f) : ∃ fd, Fun K "read_plain_part" "read_plain_part" s_read_plain_part f fd ∧ Binds K fd ["text", "place", "width"] [] ∧ FnOk P w K mg base CX0 1 f fd ["text", "place", "width"] (spPlain K) := by
  obtain ⟨fd, F, b⟩ := T.fn
  refine ⟨fd, F, b, F.ok c_read_plain_part (fun vs H Q E h => ?_) (fun cdv A outer s H vs Q E hr h => ?_)⟩
  · obtain ⟨x, y, z, rfl, _⟩ := h
    rfl
  obtain ⟨x, y, z, rfl, hx, q⟩ := h
  refine ⟨_, pss_cons (ps_if (pt_cmpR op_in_seq (pv 0) (pe_tup (pa_cons pe_str (pa_cons pe_str (pa_cons pe_str pa_nil)))) rfl) (pss_one (ps_ret (pe_tup (pa_cons (pv 0) (pa_cons pe_non (pa_cons pe_non pa_nil)))))) pss_nil) (pss_cons ps_never (pss_cons ps_never (pss_one ps_never))), ?_⟩
  refine ⟨_, rfl, (by show 3 ≤ sizeLine; decide), fun t nt => ⟨t, _, rfl, .inr (SqT.of upd_same), rfl, rfl, _, rfl, ?_⟩⟩
  have hin : (if false = true then !inV (V.str x) [.str "inside", .str "below root", .str "below start"] else inV (V.str x) [.str "inside", .str "below root", .str "below start"]) = true := by
    unfold partTexts at hx
    rcases List.mem_cons.mp hx with rfl | hx
    · decide +kernel
    · rcases List.mem_cons.mp hx with rfl | hx
      · decide +kernel
      · cases hx
  rw [hin]
  refine iteT ?_
  refine ⟨_, rfl, (by show 3 ≤ sizeLine; decide), fun p np => ?_⟩
  exact q _ _ ((new_same nt).trans (new_same np)) (SqT.of upd_same)
/-- a part -/
def spPart (K : PySem.W.Frag) : Sp := fun vs H Q _ => ∃ (x : Str) (y z : V), vs = [.str x, y, z] ∧ x ∈ partTexts ∧ ∀ H' p, Same H H' → Part K H' p → Q (.ref p) H'
theorem ok_part {f g : Addr} (T : FT K mg "read_part" s_read_part ["text", "place", "width"] f) (T1 : FT K mg "read_plain_part" s_read_plain_part ["text", "place", "width"] g) : ∃ fd, Fun K "read_part" "read_part" s_read_part f fd ∧ Binds K fd ["text", "place", "width"] [] ∧ FnOk P w K mg base CX0 2 f fd ["text", "place", "width"] (spPart K) := by
  obtain ⟨fd, F, b⟩ := T.fn
  obtain ⟨fd1, F1, b1, G1⟩ := ok_plain (P := P) (w := w) (base := base) T1
  refine ⟨fd, F, b, F.ok c_read_part (fun vs H Q E h => ?_) (fun cdv A outer s H vs Q E hr h => ?_)⟩
  · obtain ⟨x, y, z, rfl, _⟩ := h
    rfl
  obtain ⟨x, y, z, rfl, hx, q⟩ := h
  refine ⟨_, pss_cons (ps_set (i := 3) c_read_part.nd rfl (Or.inl rfl) (pe_m1 PySem.F.slot_str_startswith PySem.F.type_str_startswith mt_startswith (pv 0) pe_str))
    (pss_cons (ps_set (i := 4) c_read_part.nd rfl (Or.inl rfl) (pe_call G1 hr rfl T1.g F1.kp b1 .nil pass0 (pa_cons (pe_ifExp (pt_val (pv 3)) pe_no (pv 0)) (pa_cons (pv 1) (pa_cons (pv 2) pa_nil)))))
    (pss_one (ps_ret (pe_ifExp (pt_cmp (pc_isN (pv 4))) pe_non (pe_tup (pa_cons (pe_not (pv 3)) (StX.pa_star (pv 4) pa_nil))))))), ?_⟩
  have hno : Txt.startswith x "not " = false := by
    unfold partTexts at hx
    rcases List.mem_cons.mp hx with rfl | hx
    · decide +kernel
    · rcases List.mem_cons.mp hx with rfl | hx
      · decide +kernel
      · cases hx
  refine ⟨_, rfl, ⟨_, rfl⟩, x, _, rfl, rfl, ?_⟩
  rw [hno]
  refine ⟨_, rfl, _, rfl, ?_⟩
  refine iteF ?_
  refine ⟨_, rfl, _, rfl, _, rfl, x, y, z, rfl, hx, fun H1 p s1 e1 => ?_⟩
  refine ⟨_, rfl, _, rfl, ?_⟩
  refine iteF ?_
  refine ⟨_, rfl, _, rfl, _, rfl, p, _, rfl, .inl e1, (by show 4 ≤ sizeLine; decide), fun r nr => ?_⟩
  exact q _ r (s1.trans (new_same nr)) ⟨x, hx, SqT.of upd_same⟩
/-- a test -/
def spTest (K : PySem.W.Frag) : Sp := fun vs H Q _ => ∃ (x : Str) (y z : V), vs = [.str x, y, z] ∧ x ∈ partTexts ∧ ∀ H' p, Same H H' → Test K H' p → Q (.ref p) H'
theorem part_split {x : Str} (hx : x ∈ partTexts) : Txt.split x " and " = [x] ∧ x.length + 2 ≤ sizeLine := by
  unfold partTexts at hx
  rcases List.mem_cons.mp hx with rfl | hx
  · exact ⟨by decide +kernel, by decide +kernel⟩
  · rcases List.mem_cons.mp hx with rfl | hx
    · exact ⟨by decide +kernel, by decide +kernel⟩
    · cases hx
theorem ok_test {f g e : Addr} (T : FT K mg "read_test" s_read_test ["text", "place", "width"] f) (T2 : FT K mg "read_part" s_read_part ["text", "place", "width"] g) (T1 : FT K mg "read_plain_part" s_read_plain_part ["text", "place", "width"] e) (tup : mg "tuple" = none) : ∃ fd, Fun K "read_test" "read_test" s_read_test f fd ∧ Binds K fd ["text", "place", "width"] [] ∧ FnOk P w K mg base CX0 3 f fd ["text", "place", "width"] (spTest K) := by
  obtain ⟨fd, F, b⟩ := T.fn
  obtain ⟨fd2, F2, b2, G2⟩ := ok_part (P := P) (w := w) (base := base) T2 T1
  refine ⟨fd, F, b, F.ok c_read_test (fun vs H Q E h => ?_) (fun cdv A outer s H vs Q E hr h => ?_)⟩
  · obtain ⟨x, y, z, rfl, _⟩ := h
    rfl
  obtain ⟨x, y, z, rfl, hx, q⟩ := h
  obtain ⟨e1, e2⟩ := part_split hx
  refine ⟨_, pss_cons (ps_setLc (i := 3) (own := [("part", 4)]) (g := gName 4) (tt := tYes) rfl c_read_test.nd rfl rfl (sw_true rfl rfl rfl (by decide +kernel)) (pi_list (pe_split (pv 0) pe_str)) (blkOk_by (own := [("part", 4)]) (N := n_read_test) (sc := defScope s_read_test) (by decide +kernel))
      (fun _ _ _ _ _ => pg_name (i := 4) c_read_test.nd rfl (Or.inl rfl)) (fun _ _ _ _ _ => pts_nil) (fun _ _ _ _ _ => pe_call G2 hr rfl T2.g F2.kp b2 .nil pass0 (pa_cons (pv 4) (pa_cons (pv 1) (pa_cons (pv 2) pa_nil)))))
    (pss_one (ps_ret (pe_ifExp (pt_cmpR (op_inD (u65 hr)) pe_non (pv 3) rfl) pe_non (pe_callTy call_tuple_of (by rfl) tup (by decide +kernel) (pa_cons (pv 3) pa_nil))))), ?_⟩
  refine ⟨_, rfl, ⟨_, rfl⟩, x, _, rfl, rfl, by decide +kernel, e2, ?_⟩
  rw [e1]
  refine fun l nl => ⟨l, rfl, ⟨_, SqL.of upd_same⟩, fun L nL => lc_list (K := K) (a := l) (xs := [.str x]) (fun i G => (i = 0 ∧ G = upd (upd H l (.lst [.str x])) L (.lst [])) ∨ (i = 1 ∧ ∃ p, Same H G ∧ SqL K G l [.str x] ∧ Part K G p ∧ G L = some (.lst [.ref p]))) (.inl ⟨rfl, rfl⟩) ?_ ?_ ?_⟩
  · rintro i G hi (⟨rfl, rfl⟩ | ⟨rfl, p, s1, h1, _⟩)
    · have nlL : l ≠ L := fun e => by rw [e, upd_same] at nL; cases nL
      exact SqL.of (by rw [upd_ne nlL, upd_same])
    · exact h1
  · rintro i v G hi (⟨rfl, rfl⟩ | ⟨rfl, p, s1, h1, _⟩)
    · cases hi
      have nlL : l ≠ L := fun e => by rw [e, upd_same] at nL; cases nL
      refine ⟨rfl, ?_⟩
      unfold tYes
      dsimp only
      rw [if_pos rfl]
      refine ⟨_, rfl, _, rfl, _, rfl, x, y, z, rfl, hx, fun G2 p s2 hp => ?_⟩
      obtain ⟨nL1, _⟩ := free_upd nL
      have s3 : Same H G2 := (same_new (new_same nl) nL).trans s2
      have eL : G2 L = some (.lst []) := s2 _ _ upd_same
      refine ⟨[], eL, (by show 0 < sizeLine; decide), .inr ⟨rfl, p, same_out s3 nL1, ?_, ?_, upd_same⟩⟩
      · exact SqL.of (by rw [upd_ne nlL]; exact s2 _ _ (by rw [upd_ne nlL, upd_same]))
      · obtain ⟨t, htx, ht⟩ := hp
        exact ⟨t, htx, sqt_tups (tups_lst eL) ht⟩
    · cases hi
  · rintro G (⟨h, _⟩ | ⟨_, p, s1, h1, hp, hL⟩)
    · cases h
    obtain ⟨t, htx, ht⟩ := hp
    have dp : Dp K G (.ref p) (.tuple [.bool true, .str t, .none, .none]) := .tup ht (.cons (.bl _) (.cons (.str _) (.cons .non (.cons .non .nil))))
    refine ⟨_, rfl, .none, [.tuple [.bool true, .str t, .none, .none]], .non, .lst (SqL.of hL) (.cons dp .nil), by decide +kernel, by simp [SeqAt.shaped, PyData.canLay0, PyData.canLayAll0, PyData.depth, PyData.depthAll, partOk htx], ?_⟩
    refine ⟨_, rfl, ?_⟩
    refine iteF ?_
    refine ⟨_, rfl, L, _, rfl, .inl ⟨SqL.of hL, fun r nr => ?_⟩⟩
    exact q _ r (s1.trans (new_same nr)) ⟨p, SqT.of upd_same, t, htx, sqt_same (new_same nr) ht⟩
theorem op_inDTk {X : Cx} {K' : PySem.W.Frag} (hk : X.K = K') (hu : X.A.units + 65 < cLine) : OpR X (compareOp .In) (rInDT K') := by subst hk; exact op_inDT hu
/-- such a test names no given item -/
def spNames (K : PySem.W.Frag) : Sp := fun vs H Q _ => ∃ (t : Addr), vs = [.ref t] ∧ Test K H t ∧ ∀ H', Same H H' → Q (.bl false) H'
theorem ok_names {f a : Addr} (T : FT K mg "names_given" s_names_given ["test"] f) (C : TupT K mg "GIVEN" a [.str "given", .int 0]) (any : mg "any" = none) : ∃ fd, Fun K "names_given" "names_given" s_names_given f fd ∧ Binds K fd ["test"] [] ∧ FnOk P w K mg base CX0 1 f fd ["test"] (spNames K) := by
  obtain ⟨fd, F, b⟩ := T.fn
  refine ⟨fd, F, b, F.ok c_names_given (fun vs H Q E h => ?_) (fun cdv A outer s H vs Q E hr h => ?_)⟩
  · obtain ⟨t, rfl, _⟩ := h
    rfl
  obtain ⟨t, rfl, ⟨p, ht, x, hxx, hp⟩, q⟩ := h
  refine ⟨_, pss_one (ps_ret (pe_callB (cr_any rfl) (by rfl) any (by decide +kernel) (pa_cons (pe_lc (own := [("_", 1), ("left", 2), ("right", 3)]) (g := gTup K 4 (gCons (gName 1) (gCons (gName 1) (gCons (gName 2) (gCons (gName 3) gNil))))) (tt := tYes) rfl c_names_given.nd (pi_tup (pv 0)) (blkOk_by (own := [("_", 1), ("left", 2), ("right", 3)]) (N := n_names_given) (sc := defScope s_names_given) (by decide +kernel))
      (fun _ _ _ _ _ => pg_tup rfl (pgs_cons (pg_name (i := 1) c_names_given.nd rfl (Or.inl rfl)) (pgs_cons (pg_name (i := 1) c_names_given.nd rfl (Or.inl rfl)) (pgs_cons (pg_name (i := 2) c_names_given.nd rfl (Or.inl rfl)) (pgs_cons (pg_name (i := 3) c_names_given.nd rfl (Or.inl rfl)) pgs_nil))))) (fun _ _ _ _ _ => pts_nil)
      (fun _ _ _ _ _ => pe_cmpR (op_inDTk (K' := K) rfl (by exact u65 hr)) (pe_glob (v := .ref a) rfl C.g rfl) (pe_tup (pa_cons (pv 2) (pa_cons (pv 3) pa_nil))) rfl)) pa_nil))), ?_⟩
  refine ⟨_, rfl, t, rfl, ⟨_, ht⟩, fun L nL => lc_tup (K := K) (a := t) (xs := [.ref p]) (fun i G => (i = 0 ∧ G = upd H L (.lst [])) ∨ (i = 1 ∧ Same H G ∧ G L = some (.lst [.bl false]))) (.inl ⟨rfl, rfl⟩) ?_ ?_ ?_⟩
  · rintro i G hi (⟨rfl, rfl⟩ | ⟨rfl, s1, _⟩)
    · exact sqt_same (new_same nL) ht
    · exact sqt_same s1 ht
  · rintro i v G hi (⟨rfl, rfl⟩ | ⟨rfl, _⟩)
    · cases hi
      have hp2 : SqT K (upd H L (.lst [])) p [.bl true, .str x, .non, .non] := sqt_same (new_same nL) hp
      refine ⟨p, _, rfl, hp2, rfl, _, _, rfl, _, _, rfl, _, _, rfl, _, _, rfl, rfl, rfl, ?_⟩
      unfold tYes
      dsimp only
      rw [if_pos rfl]
      refine ⟨_, rfl, _, rfl, (by show 2 ≤ sizeLine; decide), fun r nr => ?_⟩
      refine ⟨.tuple [.str "given", .int 0], [.none, .none], .tup (C.s _) (.cons (.str _) (.cons (.int _) .nil)), .tup (SqT.of upd_same) (.cons .non (.cons .non .nil)), ?_, ?_, ?_⟩
      · decide +kernel
      · decide +kernel
      · have e : ([PyData.none, PyData.none].any fun z => PyData.eqv z (.tuple [.str "given", .int 0])) = false := by decide +kernel
        rw [e]
        obtain ⟨nr1, nrL⟩ := free_upd nr
        refine ⟨[], (by rw [upd_ne nrL.symm, upd_same]), (by show 0 < sizeLine; decide), .inr ⟨rfl, same_out (same_new (new_same nL) nr) nL, upd_same⟩⟩
    · cases hi
  · rintro G (⟨h, _⟩ | ⟨_, s1, hL⟩)
    · cases h
    exact ⟨L, [false], rfl, SqL.of hL, q _ s1⟩
end
end H2
namespace H2
open PySem PySem.Spec PyProof.Rows L2 Hx Nd Dun
section
variable {P : Program} {w : World} {K : PySem.W.Frag} {mg : Str → Option Value} {base : Heap} {D : Addr}
/-! ### the lines of the law's texts -/
inductive Tk | tell | grab | note | quit | ifi | ifb | els | fin
inductive On | no | yes | els
def Tk.line : Tk → Str
  | .tell => "tell" | .grab => "grab" | .note => "note" | .quit => "quit" | .ifi => "if inside" | .ifb => "if below root" | .els => "else" | .fin => "end"
def Tk.word : Tk → Str
  | .tell => "tell" | .grab => "grab" | .note => "note" | .quit => "quit" | .ifi => "if" | .ifb => "if" | .els => "else" | .fin => "end"
def On.vs : On → List V
  | .no => [] | .yes => [.str "if"] | .els => [.str "else"]
def stp : On → Tk → Option On
  | o, .tell => some o
  | o, .grab => some o
  | o, .note => some o
  | o, .quit => some o
  | .no, .ifi => some .yes
  | .no, .ifb => some .yes
  | .yes, .els => some .els
  | .yes, .fin => some .no
  | .els, .fin => some .no
  | _, _ => none
/-! ### Row -/
abbrev psRow : List Str := ["self", "word", "place", "number", "test"]
structure RowT (K : PySem.W.Frag) (mg : Str → Option Value) (C fI tt : Addr) : Prop where
  g : mg "Row" = some (.ref C)
  mak : Mk K C fI
  cl : Cls K C
  nw : NoAttr K C "word"
  np : NoAttr K C "place"
  nn : NoAttr K C "number"
  nt : NoAttr K C "test"
  te : ∀ H, SqT K H tt []
  fn : ∃ fd, FunD K "__init__" "Row.__init__" (defArgs s_Row_init) (defBody s_Row_init) (defScope s_Row_init) [.non, .ref tt] [] fI fd
def rowF (a b c d : V) : List (Str × V) := [("word", a), ("place", b), ("number", c), ("test", d)]
def spRow (C : Addr) : Sp := fun vs H Q _ => ∃ (p dx : Addr) (a b c d : V), vs = [.ref p, a, b, c, d] ∧ H p = some (.ins C dx []) ∧ Q .non (upd H p (.ins C dx (rowF a b c d)))
theorem ok_Row {C fI tt : Addr} (T : RowT K mg C fI tt) {fd : FuncData} (F : FunD K "__init__" "Row.__init__" (defArgs s_Row_init) (defBody s_Row_init) (defScope s_Row_init) [.non, .ref tt] [] fI fd) : FnOk P w K mg base CX0 1 fI fd psRow (spRow C) := by
  refine F.ok (CX := CX0) c_Row_init (fun vs H Q E h => ?_) (fun cdv A outer s H vs Q E hr h => ?_)
  · obtain ⟨p, dx, a, b, c, d, rfl, _⟩ := h
    rfl
  obtain ⟨p, dx, a, b, c, d, rfl, hp, q⟩ := h
  refine ⟨_, (pss_cons (ps_fld (pv 0) (pv 1) rfl) (pss_cons (ps_fld (pv 0) (pv 2) rfl) (pss_cons (ps_fld (pv 0) (pv 3) rfl) (pss_one (ps_fld (pv 0) (pv 4) rfl))))), ?_⟩
  refine ⟨_, rfl, _, rfl, p, C, dx, _, rfl, hp, T.cl, T.nw, (by show 0 < 1000; decide), ?_⟩
  refine ⟨_, rfl, _, rfl, p, C, dx, _, rfl, upd_same, T.cl, T.np, (by show 1 < 1000; decide), ?_⟩
  refine ⟨_, rfl, _, rfl, p, C, dx, _, rfl, upd_same, T.cl, T.nn, (by show 2 < 1000; decide), ?_⟩
  refine ⟨_, rfl, _, rfl, p, C, dx, _, rfl, upd_same, T.cl, T.nt, (by show 3 < 1000; decide), ?_⟩
  rw [upd_upd, upd_upd, upd_upd]
  exact q
theorem iteBT {b : Bool} {A B : Prop} (h : b = true) (x : A) : if b = true then A else B := by rw [if_pos h]; exact x
theorem iteBF {b : Bool} {A B : Prop} (h : b = false) (x : B) : if b = true then A else B := by rw [h]; exact iteF x
def RowAt (K : PySem.W.Frag) (C : Addr) (H : Hp) (r : Addr) (t : Tk) : Prop := ∃ (dx tt : Addr) (nu : V), H r = some (.ins C dx (rowF (.str t.word) (.str "top") nu (.ref tt))) ∧ (t = .ifi ∨ t = .ifb → Test K H tt) ∧ (t = .tell → SqT K H tt [])
theorem RowAt.keep {C r : Addr} {t : Tk} {H H' : Hp} (h : RowAt K C H r t) (e : Same H H') : RowAt K C H' r t := by
  obtain ⟨dx, tt, nu, h1, h2, h9⟩ := h
  exact ⟨dx, tt, nu, e _ _ h1, fun z => (h2 z).keep e, fun z => sqt_same e (h9 z)⟩
theorem row_kb {fI tt : Addr} {fd : FuncData} (F : FunD K "__init__" "Row.__init__" (defArgs s_Row_init) (defBody s_Row_init) (defScope s_Row_init) [.non, .ref tt] [] fI fd) :
    ∃ its : List Value, KBn K fd psRow 3 ["test"] (fun us ws => us ++ (its.take 1 ++ ws)) (fun vs zs => vs ++ (([.non, .ref tt] : List V).take 1 ++ zs)) :=
  FunD.kbindsD (ps := psRow) F 3 ["test"] (fun us its ws => us ++ (its.take 1 ++ ws)) (by simp) (fun r1 r2 r3 => by
    exact r1.append ((r2.take 1).append r3)) (fun T kV doc pm an cdv ct us its ws l1 l2 l3 => by
    match us, its, ws, l1, l2, l3 with
    | [a, b, c], [d, e], [f], _, _, _ => exact ⟨_, rfl, rfl⟩)
theorem row_b {fI tt : Addr} {fd : FuncData} (F : FunD K "__init__" "Row.__init__" (defArgs s_Row_init) (defBody s_Row_init) (defScope s_Row_init) [.non, .ref tt] [] fI fd) : ∃ ds, Vals [.non, .ref tt] ds ∧ Binds K fd psRow ds :=
  FunD.binds1 (ps := psRow) F 3 0 (by simp) rfl (fun T kV doc pm an cdv ct us its l1 l2 => by
    match us, its, l1, l2 with
    | [a, b, c], [d, e], _, _ => exact ⟨_, rfl, rfl⟩)
/-! ### row_with_test -/
def spRowTest (K : PySem.W.Frag) (C : Addr) : Sp := fun vs H Q _ => ∃ (x : Str) (y z : V), vs = [y, .str "top", .str x, z] ∧ x ∈ partTexts ∧ ∀ H' r dx tt, Same H H' → H r = none → H' r = some (.ins C dx (rowF y (.str "top") .non (.ref tt))) → Test K H' tt → Q (.ref r) H'
theorem ok_rowTest {f g C fI tt : Addr} (T : FT K mg "row_with_test" s_row_with_test ["word", "place", "text", "width"] f) {td : FuncData} (TF : Fun K "read_test" "read_test" s_read_test g td) (tb : Binds K td ["text", "place", "width"] []) (tg : mg "read_test" = some (.ref g)) (TG : FnOk P w K mg base CX0 3 g td ["text", "place", "width"] (spTest K)) (R : RowT K mg C fI tt) :
    ∃ fd, Fun K "row_with_test" "row_with_test" s_row_with_test f fd ∧ Binds K fd ["word", "place", "text", "width"] [] ∧ FnOk P w K mg base CX0 4 f fd ["word", "place", "text", "width"] (spRowTest K C) := by
  obtain ⟨fd, F, b⟩ := T.fn
  refine ⟨fd, F, b, F.ok c_row_with_test (fun vs H Q E h => ?_) (fun cdv A outer s H vs Q E hr h => ?_)⟩
  · obtain ⟨x, y, z, rfl, _⟩ := h
    rfl
  obtain ⟨x, y, z, rfl, hx, q⟩ := h
  obtain ⟨rd, RF⟩ := R.fn
  obtain ⟨its, kb⟩ := row_kb RF
  refine ⟨_, pss_cons (ps_set (i := 4) c_row_with_test.nd rfl (Or.inl rfl) (pe_call TG hr rfl tg TF.kp tb .nil pass0 (pa_cons (pv 2) (pa_cons (pv 1) (pa_cons (pv 3) pa_nil)))))
    (pss_one (ps_ret (pe_ifExp (pt_cmp (pc_isN (pv 4))) pe_non (pe_makeN (n := 2) R.mak (ok_Row R RF) (hr.mono (by decide)) rfl R.g kb pass0 (pa_cons (pv 0) (pa_cons (pv 1) pa_nil)) (pk_cons (pv 4) pk_nil))))), ?_⟩
  refine ⟨_, rfl, _, rfl, _, rfl, x, .str "top", z, rfl, hx, fun H1 t s1 ht => ?_⟩
  refine ⟨_, rfl, _, rfl, ?_⟩
  refine iteF ?_
  refine ⟨_, rfl, _, rfl, _, rfl, rfl, rfl, fun p dx np nd ne => ?_⟩
  refine ⟨p, dx, y, .str "top", .non, .ref t, rfl, upd_same, rfl, ?_⟩
  rw [upd_upd]
  have s2 := (s1.trans (new_same (o := .own p) nd))
  have np' : upd H1 dx (.own p) p = none := by rw [upd_ne ne.symm]; exact np
  have s3 := s2.trans (new_same (o := .ins C dx (rowF y (.str "top") .non (.ref t))) np')
  exact q _ p dx t s3 (free_same s1 np) upd_same (ht.keep ((new_same nd).trans (new_same np')))
/-! ### row_of_block_word -/
def spBlock (K : PySem.W.Frag) (C : Addr) : Sp := fun vs H Q _ => ∃ (op : Addr) (o : On) (t : Tk), vs = [.str t.word, .str "top", .ref op] ∧ SqL K H op o.vs ∧ ((t = .els ∧ o = .yes) ∨ (t = .fin ∧ o = .yes) ∨ (t = .fin ∧ o = .els)) ∧ ∀ H' r, Same H H' → H r = none → RowAt K C H' r t → Q (.ref r) H'
theorem ok_block {f C fI tt : Addr} (T : FT K mg "row_of_block_word" s_row_of_block_word ["word", "place", "opened"] f) (R : RowT K mg C fI tt) :
    ∃ fd, Fun K "row_of_block_word" "row_of_block_word" s_row_of_block_word f fd ∧ Binds K fd ["word", "place", "opened"] [] ∧ FnOk P w K mg base CX0 3 f fd ["word", "place", "opened"] (spBlock K C) := by
  obtain ⟨fd, F, b⟩ := T.fn
  refine ⟨fd, F, b, F.ok c_row_of_block_word (fun vs H Q E h => ?_) (fun cdv A outer s H vs Q E hr h => ?_)⟩
  · obtain ⟨op, o, t, rfl, _⟩ := h
    rfl
  obtain ⟨op, o, t, rfl, ho, hot, q⟩ := h
  obtain ⟨rd, RF⟩ := R.fn
  obtain ⟨ds, rds, rb⟩ := row_b RF
  refine ⟨_, pss_cons (ps_set (i := 3) c_row_of_block_word.nd rfl (Or.inl rfl) (pe_ifExp (pt_cmpR op_eq (pv 0) pe_str (nomark _)) (pe_tup (pa_cons pe_str pa_nil)) (pe_tup (pa_cons pe_str (pa_cons pe_str (pa_cons pe_str (pa_cons pe_str pa_nil)))))))
    (pss_one (ps_ret (pe_ifExp (PW.pt (pw_and (pt_truth (pv 2) (by intro _; rfl)) (pw_and1 (pt_cmpR op_in_seq (pe_ix ix_list (pv 2) (pe_un un_neg pe_int) (fun _ _ => rfl)) (pv 3) rfl)))) (pe_make R.mak (ok_Row R RF) (hr.mono (by decide)) rfl R.g rb rds pass0 (pa_cons (pv 0) (pa_cons (pv 1) pa_nil))) pe_non))), ?_⟩
  have fin : ∀ (G : Hp) (p dx : Addr), Same H G → G p = none → G dx = none → dx ≠ p → spRow C (.ref p :: ([.str t.word, .str "top"] ++ [.non, .ref tt])) (upd (upd G dx (.own p)) p (.ins C dx [])) (fun v H2 => v = .non ∧ Q (.ref p) H2) E := by
    intro G p dx s1 np nd ne
    refine ⟨p, dx, .str t.word, .str "top", .non, .ref tt, rfl, upd_same, rfl, ?_⟩
    rw [upd_upd]
    have np' : upd G dx (.own p) p = none := by rw [upd_ne ne.symm]; exact np
    refine q _ p ((s1.trans (new_same nd)).trans (new_same np')) (free_same s1 np) ⟨dx, tt, .non, upd_same, fun z => ?_, fun z => by rcases hot with ⟨rfl, _⟩ | ⟨rfl, _⟩ | ⟨rfl, _⟩ <;> cases z⟩
    rcases hot with ⟨rfl, _⟩ | ⟨rfl, _⟩ | ⟨rfl, _⟩ <;> rcases z with z | z <;> cases z
  rcases hot with ⟨rfl, rfl⟩ | ⟨rfl, rfl⟩ | ⟨rfl, rfl⟩
  · refine ⟨_, rfl, rfl, _, rfl, iteBT (by decide +kernel) ⟨(by show 1 ≤ sizeLine; decide), fun u nu => ?_⟩⟩
    have ho' := sqt_list_same ho (new_same (o := .tup [.str "if"]) nu)
    refine ⟨_, rfl, true, .inl ⟨_, ho', rfl⟩, iteT ?_⟩
    refine ⟨_, rfl, _, rfl, op, _, _, _, rfl, rfl, ho', rfl, _, rfl, u, _, rfl, .inr (SqT.of upd_same), rfl, rfl, _, rfl, iteBT (by decide +kernel) ?_⟩
    exact ⟨_, rfl, _, rfl, fun p dx np nd ne => fin _ p dx (new_same nu) np nd ne⟩
  · refine ⟨_, rfl, rfl, _, rfl, iteBF (by decide +kernel) ⟨(by show 4 ≤ sizeLine; decide), fun u nu => ?_⟩⟩
    have ho' := sqt_list_same ho (new_same (o := .tup [.str "if", .str "else", .str "down", .str "up"]) nu)
    refine ⟨_, rfl, true, .inl ⟨_, ho', rfl⟩, iteT ?_⟩
    refine ⟨_, rfl, _, rfl, op, _, _, _, rfl, rfl, ho', rfl, _, rfl, u, _, rfl, .inr (SqT.of upd_same), rfl, rfl, _, rfl, iteBT (by decide +kernel) ?_⟩
    exact ⟨_, rfl, _, rfl, fun p dx np nd ne => fin _ p dx (new_same nu) np nd ne⟩
  · refine ⟨_, rfl, rfl, _, rfl, iteBF (by decide +kernel) ⟨(by show 4 ≤ sizeLine; decide), fun u nu => ?_⟩⟩
    have ho' := sqt_list_same ho (new_same (o := .tup [.str "if", .str "else", .str "down", .str "up"]) nu)
    refine ⟨_, rfl, true, .inl ⟨_, ho', rfl⟩, iteT ?_⟩
    refine ⟨_, rfl, _, rfl, op, _, _, _, rfl, rfl, ho', rfl, _, rfl, u, _, rfl, .inr (SqT.of upd_same), rfl, rfl, _, rfl, iteBT (by decide +kernel) ?_⟩
    exact ⟨_, rfl, _, rfl, fun p dx np nd ne => fin _ p dx (new_same nu) np nd ne⟩
end
end H2
namespace H2
open PySem PySem.Spec PyProof.Rows L2 Hx Nd Dun
section
variable {P : Program} {w : World} {K : PySem.W.Frag} {mg : Str → Option Value} {base : Heap} {D : Addr}
/-! ### read_row -/
theorem pt_no {X : Cx} {e : Expr} : PT X e (fun _ _ _ => False) := ⟨fun _ _ _ _ _ _ h => h.elim⟩
theorem op_in_seqk {X : Cx} {K' : PySem.W.Frag} (hk : X.K = K') : OpR X (compareOp .In) (rIn K' false) := by subst hk; exact op_in_seq
def loopsV : List V := [.str "down", .str "up"]
def topV : List V := [.str "tell", .str "grab", .str "grab last", .str "grab given", .str "lay", .str "longer", .str "shorter", .str "trade", .str "to start", .str "note", .str "quit"]
abbrev psRT : List Str := ["word", "place", "text", "width"]
abbrev psBW : List Str := ["word", "place", "opened"]
abbrev psRR : List Str := ["line", "opened", "width"]
def spReadRow (K : PySem.W.Frag) (C : Addr) : Sp := fun vs H Q _ => ∃ (x : Str) (op : Addr) (z : V) (o : On), vs = [.str x, .ref op, z] ∧ SqL K H op o.vs ∧ ((∃ (t : Tk) (o' : On), stp o t = some o' ∧ x = t.line ∧ ∀ H' r, Same H H' → H r = none → RowAt K C H' r t → Q (.ref r) H') ∨
  (x = "Tell" ∧ ∀ H', Same H H' → Q .non H'))
theorem ok_read_row {f g1 g2 C fI tt aL aT : Addr} (T : FT K mg "read_row" s_read_row psRR f) {d1 d2 : FuncData}
    (F1 : Fun K "row_with_test" "row_with_test" s_row_with_test g1 d1) (b1 : Binds K d1 psRT []) (m1 : mg "row_with_test" = some (.ref g1)) (G1 : FnOk P w K mg base CX0 4 g1 d1 psRT (spRowTest K C))
    (F2 : Fun K "row_of_block_word" "row_of_block_word" s_row_of_block_word g2 d2) (b2 : Binds K d2 psBW []) (m2 : mg "row_of_block_word" = some (.ref g2)) (G2 : FnOk P w K mg base CX0 3 g2 d2 psBW (spBlock K C))
    (R : RowT K mg C fI tt) (cL : TupT K mg "LOOPS" aL loopsV) (cT : TupT K mg "TOP_WORDS" aT topV) :
    ∃ fd, Fun K "read_row" "read_row" s_read_row f fd ∧ Binds K fd psRR [] ∧ FnOk P w K mg base CX0 5 f fd psRR (spReadRow K C) := by
  obtain ⟨fd, F, b⟩ := T.fn
  refine ⟨fd, F, b, F.ok c_read_row (fun vs H Q E h => ?_) (fun cdv A outer s H vs Q E hr h => ?_)⟩
  · obtain ⟨x, op, z, o, rfl, _⟩ := h
    rfl
  obtain ⟨x, op, z, o, rfl, ho, q⟩ := h
  obtain ⟨rd, RF⟩ := R.fn
  obtain ⟨ds, rds, rb⟩ := row_b RF
  refine ⟨_, pss_cons (ps_setLc (i := 3) (own := [("block", 4)]) (g := gName 4) rfl c_read_row.nd rfl rfl (sw_true rfl rfl rfl (by decide +kernel)) (pi_list (pv 1)) (blkOk_by (own := [("block", 4)]) (N := n_read_row) (sc := defScope s_read_row) (by decide +kernel))
      (fun _ _ _ _ _ => pg_name (i := 4) c_read_row.nd rfl (Or.inl rfl)) (fun _ _ _ _ _ => pts_one (pt_cmpR (op_in_seqk (K' := K) rfl) (pv 4) (pe_glob (v := .ref aL) rfl cL.g rfl) rfl)) (fun _ _ _ _ _ => pv 4))
    (pss_cons (ps_set (i := 5) c_read_row.nd rfl (Or.inl rfl) (pe_ifExp (pt_truth (pv 3) (by intro _; rfl)) pe_no pe_str))
    (pss_cons (ps_if (pt_cmpR op_in_seq (pv 0) (pe_tup (pa_cons pe_str (pa_cons pe_str pa_nil))) rfl) (pss_one (ps_ret (pe_call G2 (hr.mono (by decide)) rfl m2 F2.kp b2 .nil pass0 (pa_cons (pv 0) (pa_cons (pv 5) (pa_cons (pv 1) pa_nil)))))) pss_nil)
    (pss_cons (ps_if (pt_cmpR op_in_seq (pv 0) (pe_ifExp (pt_truth (pv 3) (by intro _; rfl)) pe_no (pe_glob (v := .ref aT) rfl cT.g rfl)) rfl) (pss_one (ps_ret (pe_make R.mak (ok_Row R RF) (hr.mono (by decide)) rfl R.g rb rds pass0 (pa_cons (pv 0) (pa_cons (pv 5) pa_nil))))) pss_nil)
    (pss_cons (ps_asg (pe_partition (pv 0) pe_str) (pg_tup rfl (pgs_cons (pg_name (i := 6) c_read_row.nd rfl (Or.inl rfl)) (pgs_cons (pg_name (i := 7) c_read_row.nd rfl (Or.inl rfl)) (pgs_cons (pg_name (i := 8) c_read_row.nd rfl (Or.inl rfl)) pgs_nil)))))
    (pss_cons (ps_if (pt_cmpR op_eq (pv 6) pe_str (nomark _)) (pss_one (ps_ret (pe_call G1 hr rfl m1 F1.kp b1 .nil pass0 (pa_cons (pv 6) (pa_cons (pv 5) (pa_cons (pv 8) (pa_cons (pv 2) pa_nil))))))) pss_nil)
    (pss_cons (ps_if (PW.pt (pw_and (pt_cmpR op_in_seq (pv 6) (pe_glob (v := .ref aL) rfl cL.g rfl) rfl) (pw_and1 pt_no))) (pss_one ps_never) pss_nil)
    (pss_one (ps_ret (pe_ifExp (pt_cmpR op_eq (pv 6) pe_str (nomark _)) pe_no pe_non))))))))), ?_⟩
  refine ⟨_, rfl, op, rfl, ⟨_, ho⟩, fun L nL => lc_list (K := K) (a := op) (xs := o.vs) (fun i G => G = upd H L (.lst [])) rfl ?_ ?_ ?_⟩
  · rintro i G _ rfl
    exact sqt_list_same ho (new_same nL)
  · rintro i v G hi rfl
    have hv : flatV v = true ∧ inV v loopsV = false := by
      cases o with
      | no => cases hi
      | yes =>
        match i, hi with
        | 0, hi => cases hi; exact ⟨rfl, by decide +kernel⟩
        | i + 1, hi => cases hi
      | els =>
        match i, hi with
        | 0, hi => cases hi; exact ⟨rfl, by decide +kernel⟩
        | i + 1, hi => cases hi
    refine ⟨rfl, ?_⟩
    exact ⟨_, rfl, _, _, rfl, .inr (cL.s _), hv.1, rfl, _, rfl, iteBF hv.2 rfl⟩
  rintro G rfl
  have sL : Same H (upd H L (.lst [])) := new_same nL
  refine ⟨_, rfl, false, .inl ⟨_, SqL.of upd_same, rfl⟩, iteF ?_⟩
  refine ⟨_, rfl, (by show 2 ≤ sizeLine; decide), fun u nu => ⟨u, _, rfl, .inr (SqT.of upd_same), rfl, rfl, _, rfl, ?_⟩⟩
  obtain ⟨G, hG⟩ : ∃ G, G = upd (upd H L (.lst [])) u (.tup [.str "else", .str "end"]) := ⟨_, rfl⟩
  have sG : Same H G := by rw [hG]; exact same_new sL nu
  have eL : G L = some (.lst []) := by rw [hG]; exact (new_same nu) _ _ upd_same
  rw [← hG]
  clear hG
  obtain ⟨qq, hqq⟩ : ∃ qq : Tk → Prop, qq = fun t => ∀ H' r, Same H H' → H r = none → RowAt K C H' r t → Q (.ref r) H' := ⟨_, rfl⟩
  have cls : (∃ t : Tk, x = t.word ∧ inV (.str x) [.str "else", .str "end"] = false ∧ inV (.str x) topV = true ∧ t ≠ .ifi ∧ t ≠ .ifb ∧ qq t) ∨
      (∃ t : Tk, x = t.word ∧ inV (.str x) [.str "else", .str "end"] = true ∧ ((t = .els ∧ o = .yes) ∨ (t = .fin ∧ o = .yes) ∨ (t = .fin ∧ o = .els)) ∧ qq t) ∨
      (∃ (t : Tk) (y : Str), t.word = "if" ∧ y ∈ partTexts ∧ inV (.str x) [.str "else", .str "end"] = false ∧ inV (.str x) topV = false ∧ Txt.partition x " " = (("if" : Str), (" " : Str), y) ∧ x.length ≤ sizeLine ∧ qq t) ∨
      (x = "Tell" ∧ ∀ H', Same H H' → Q .non H') := by
    rcases q with ⟨t, o', hst, rfl, q⟩ | ⟨rfl, q⟩
    · have q' : qq t := by rw [hqq]; exact q
      cases t with
      | tell => exact .inl ⟨_, rfl, by decide +kernel, by decide +kernel, by intro z; (cases z), by intro z; (cases z), q'⟩
      | grab => exact .inl ⟨_, rfl, by decide +kernel, by decide +kernel, by intro z; (cases z), by intro z; (cases z), q'⟩
      | note => exact .inl ⟨_, rfl, by decide +kernel, by decide +kernel, by intro z; (cases z), by intro z; (cases z), q'⟩
      | quit => exact .inl ⟨_, rfl, by decide +kernel, by decide +kernel, by intro z; (cases z), by intro z; (cases z), q'⟩
      | els =>
        cases o with
        | yes => exact .inr (.inl ⟨_, rfl, by decide +kernel, .inl ⟨rfl, rfl⟩, q'⟩)
        | _ => cases hst
      | fin =>
        cases o with
        | yes => exact .inr (.inl ⟨_, rfl, by decide +kernel, .inr (.inl ⟨rfl, rfl⟩), q'⟩)
        | els => exact .inr (.inl ⟨_, rfl, by decide +kernel, .inr (.inr ⟨rfl, rfl⟩), q'⟩)
        | _ => cases hst
      | ifi => exact .inr (.inr (.inl ⟨_, "inside", rfl, by decide +kernel, by decide +kernel, by decide +kernel, by decide +kernel, by decide +kernel, q'⟩))
      | ifb => exact .inr (.inr (.inl ⟨_, "below root", rfl, by decide +kernel, by decide +kernel, by decide +kernel, by decide +kernel, by decide +kernel, q'⟩))
    · exact .inr (.inr (.inr ⟨rfl, q⟩))
  clear q
  subst hqq
  rcases cls with ⟨t, rfl, h1, h2, n1, n2, q⟩ | ⟨t, rfl, h1, hot, q⟩ | ⟨t, y, hw, hy, h1, h2, hp, hl, q⟩ | ⟨rfl, q⟩
  · refine iteBF h1 ?_
    refine ⟨_, rfl, _, rfl, false, .inl ⟨_, SqL.of eL, rfl⟩, iteF ?_⟩
    refine ⟨aT, topV, rfl, .inr (cT.s _), rfl, rfl, _, rfl, iteBT h2 ?_⟩
    refine ⟨_, rfl, _, rfl, fun p dx np nd ne => ⟨p, dx, _, .str "top", .non, .ref tt, rfl, upd_same, rfl, ?_⟩⟩
    rw [upd_upd]
    have np' : upd G dx (.own p) p = none := by rw [upd_ne ne.symm]; exact np
    refine q _ p ((sG.trans (new_same nd)).trans (new_same np')) (free_same sG np) ⟨dx, tt, .non, upd_same, fun z => ?_, fun _ => R.te _⟩
    rcases z with z | z
    · exact absurd z n1
    · exact absurd z n2
  · refine iteBT h1 ?_
    refine ⟨_, rfl, _, rfl, _, rfl, op, o, t, rfl, sqt_list_same ho sG, hot, fun H' r s1 nr hrow => ?_⟩
    exact q H' r (sG.trans s1) (free_same sG nr) hrow
  · refine iteBF h1 ?_
    refine ⟨_, rfl, _, rfl, false, .inl ⟨_, SqL.of eL, rfl⟩, iteF ?_⟩
    refine ⟨aT, topV, rfl, .inr (cT.s _), rfl, rfl, _, rfl, iteBF h2 ?_⟩
    refine ⟨_, rfl, ⟨_, rfl⟩, x, _, rfl, rfl, by decide +kernel, hl, fun T nT => ?_⟩
    rw [hp]
    refine ⟨T, _, rfl, SqT.of upd_same, rfl, _, _, rfl, _, _, rfl, _, _, rfl, rfl, ?_⟩
    refine ⟨_, rfl, rfl, _, rfl, iteBT (by show decide (V.str ("if" : Str) = V.str ("if" : Str)) = true; decide +kernel) ?_⟩
    refine ⟨_, rfl, _, rfl, _, rfl, _, rfl, y, .str "if", z, rfl, hy, fun H' r dx tt s1 nr er ht => ?_⟩
    exact q H' r ((same_new sG nT).trans s1) (free_same (same_new sG nT) nr) ⟨dx, tt, .non, (by rw [hw]; exact er), fun _ => ht, fun z => by rw [z] at hw; exact absurd hw (by decide +kernel)⟩
  · refine iteBF (by decide +kernel) ?_
    refine ⟨_, rfl, _, rfl, false, .inl ⟨_, SqL.of eL, rfl⟩, iteF ?_⟩
    refine ⟨aT, topV, rfl, .inr (cT.s _), rfl, rfl, _, rfl, iteBF (by decide +kernel) ?_⟩
    refine ⟨_, rfl, ⟨_, rfl⟩, "Tell", _, rfl, rfl, by decide +kernel, by decide +kernel, fun T nT => ?_⟩
    have hp : Txt.partition "Tell" " " = (("Tell" : Str), ("" : Str), ("" : Str)) := by decide +kernel
    rw [hp]
    refine ⟨T, _, rfl, SqT.of upd_same, rfl, _, _, rfl, _, _, rfl, _, _, rfl, rfl, ?_⟩
    refine ⟨_, rfl, rfl, _, rfl, iteBF (by decide +kernel) ?_⟩
    refine ⟨_, rfl, _, _, rfl, .inr (cL.s _), rfl, rfl, _, rfl, iteBF (by decide +kernel) ?_⟩
    refine iteF ?_
    refine ⟨_, rfl, rfl, _, rfl, iteBF (by decide +kernel) ?_⟩
    exact q _ (same_new sG nT)
/-! ### blocks_behind -/
def spBlocks : Sp := fun vs H Q _ => ∃ (op : Addr) (o o' : On) (t : Tk), vs = [.str t.word, .ref op] ∧ H op = some (.lst o.vs) ∧ stp o t = some o' ∧ ∀ H' p, Same H H' → (p = op ∨ H p = none) → H' p = some (.lst o'.vs) → Q (.ref p) H'
theorem ok_blocks {f aL : Addr} (T : FT K mg "blocks_behind" s_blocks_behind ["word", "opened"] f) (cL : TupT K mg "LOOPS" aL loopsV) : ∃ fd, Fun K "blocks_behind" "blocks_behind" s_blocks_behind f fd ∧ Binds K fd ["word", "opened"] [] ∧ FnOk P w K mg base CX0 1 f fd ["word", "opened"] spBlocks := by
  obtain ⟨fd, F, b⟩ := T.fn
  refine ⟨fd, F, b, F.ok c_blocks_behind (fun vs H Q E h => ?_) (fun cdv A outer s H vs Q E hr h => ?_)⟩
  · obtain ⟨op, o, o', t, rfl, _⟩ := h
    rfl
  obtain ⟨op, o, o', t, rfl, ho, hst, q⟩ := h
  refine ⟨_, pss_cons (ps_if (PW.pt (pw_or (pt_cmpR op_eq (pv 0) pe_str (nomark _)) (pw_or1 (pt_cmpR op_in_seq (pv 0) (pe_glob (v := .ref aL) rfl cL.g rfl) rfl)))) (pss_one (ps_ret (pe_op op_cat (pv 1) (pe_lst (pa_cons (pv 0) pa_nil))))) pss_nil)
    (pss_cons (ps_if (pt_cmpR op_eq (pv 0) pe_str (nomark _)) (pss_one (ps_ret (pe_op op_cat (pe_slice sl_list (pv 1) po_none (po_some (pe_un un_neg pe_int))) (pe_lst (pa_cons (pv 0) pa_nil))))) pss_nil)
    (pss_one (ps_ret (pe_ifExp (pt_cmpR op_eq (pv 0) pe_str (nomark _)) (pe_slice sl_list (pv 1) po_none (po_some (pe_un un_neg pe_int))) (pv 1))))), ?_⟩
  refine ⟨_, rfl, rfl, _, rfl, ?_⟩
  have cls : (t.word = "if" ∧ o = .no ∧ o' = .yes) ∨ (t.word = "else" ∧ o = .yes ∧ o' = .els) ∨ (t.word = "end" ∧ (o = .yes ∨ o = .els) ∧ o' = .no) ∨ (decide (V.str t.word = V.str "if") = false ∧ inV (V.str t.word) loopsV = false ∧ decide (V.str t.word = V.str "else") = false ∧ decide (V.str t.word = V.str "end") = false ∧ o' = o) := by
    cases t with
    | tell => cases hst; exact .inr (.inr (.inr ⟨by decide +kernel, by decide +kernel, by decide +kernel, by decide +kernel, rfl⟩))
    | grab => cases hst; exact .inr (.inr (.inr ⟨by decide +kernel, by decide +kernel, by decide +kernel, by decide +kernel, rfl⟩))
    | note => cases hst; exact .inr (.inr (.inr ⟨by decide +kernel, by decide +kernel, by decide +kernel, by decide +kernel, rfl⟩))
    | quit => cases hst; exact .inr (.inr (.inr ⟨by decide +kernel, by decide +kernel, by decide +kernel, by decide +kernel, rfl⟩))
    | ifi => cases o <;> cases hst; exact .inl ⟨rfl, rfl, rfl⟩
    | ifb => cases o <;> cases hst; exact .inl ⟨rfl, rfl, rfl⟩
    | els => cases o <;> cases hst; exact .inr (.inl ⟨rfl, rfl, rfl⟩)
    | fin =>
      cases o with
      | no => cases hst
      | yes => cases hst; exact .inr (.inr (.inl ⟨rfl, .inl rfl, rfl⟩))
      | els => cases hst; exact .inr (.inr (.inl ⟨rfl, .inr rfl, rfl⟩))
  rcases cls with ⟨hw, rfl, rfl⟩ | ⟨hw, rfl, rfl⟩ | ⟨hw, hoo, rfl⟩ | ⟨h1, h2, h3, h4, rfl⟩
  · rw [hw]
    refine iteBT (by decide +kernel) (iteT ?_)
    refine ⟨_, rfl, _, rfl, (by show 1 ≤ sizeLine; decide), fun l nl => ?_⟩
    refine ⟨op, l, _, _, rfl, rfl, (new_same nl) _ _ ho, upd_same, (by show 0 + 1 ≤ sizeLine; decide), fun p np => ?_⟩
    exact q _ p ((new_same nl).trans (new_same np)) (.inr (free_upd np).1) upd_same
  · rw [hw]
    refine iteBF (by decide +kernel) ?_
    refine ⟨_, rfl, _, _, rfl, .inr (cL.s _), rfl, rfl, _, rfl, iteBF (by decide +kernel) ?_⟩
    refine ⟨_, rfl, rfl, _, rfl, iteBT (by decide +kernel) ?_⟩
    refine ⟨_, rfl, _, rfl, _, rfl, op, _, rfl, SqL.of ho, fun c nc => ?_⟩
    refine ⟨_, rfl, (by show 1 ≤ sizeLine; decide), fun l nl => ?_⟩
    refine ⟨c, l, _, _, rfl, rfl, (new_same nl) _ _ upd_same, upd_same, (by show 0 + 1 ≤ sizeLine; decide), fun p np => ?_⟩
    exact q _ p (((new_same nc).trans (new_same nl)).trans (new_same np)) (.inr (free_upd (free_upd np).1).1) upd_same
  · rw [hw]
    refine iteBF (by decide +kernel) ?_
    refine ⟨_, rfl, _, _, rfl, .inr (cL.s _), rfl, rfl, _, rfl, iteBF (by decide +kernel) ?_⟩
    refine ⟨_, rfl, rfl, _, rfl, iteBF (by decide +kernel) ?_⟩
    refine ⟨_, rfl, rfl, _, rfl, iteBT (by decide +kernel) ?_⟩
    refine ⟨_, rfl, _, rfl, _, rfl, op, _, rfl, SqL.of ho, fun c nc => ?_⟩
    rcases hoo with rfl | rfl
    · exact q _ c (new_same nc) (.inr nc) upd_same
    · exact q _ c (new_same nc) (.inr nc) upd_same
  · refine iteBF h1 ?_
    refine ⟨_, rfl, _, _, rfl, .inr (cL.s _), rfl, rfl, _, rfl, iteBF h2 ?_⟩
    refine ⟨_, rfl, rfl, _, rfl, iteBF h3 ?_⟩
    refine ⟨_, rfl, rfl, _, rfl, iteBF h4 ?_⟩
    exact ⟨_, rfl, q H op (fun _ _ z => z) (.inl rfl) ho⟩
end
end H2
namespace H2
open PySem PySem.Spec PyProof.Rows L2 Hx Nd Dun
section
variable {P : Program} {w : World} {K : PySem.W.Frag} {mg : Str → Option Value} {base : Heap} {D : Addr}
/-! ### read_rows -/
def run : On → List Tk → Option On
  | o, [] => some o
  | o, t :: r => (stp o t).bind fun o' => run o' r
def RowsAt (K : PySem.W.Frag) (C : Addr) (H : Hp) (rs : List Addr) (ts : List Tk) : Prop := ∀ (i : Nat) (r : Addr) (t : Tk), rs[i]? = some r → ts[i]? = some t → RowAt K C H r t
theorem RowAt.lst {C r a : Addr} {t : Tk} {H : Hp} {ys : List V} {o : HO} (h : RowAt K C H r t) (e : H a = some (.lst ys)) : RowAt K C (upd H a o) r t := by
  obtain ⟨dx, tt, nu, h1, h2, h9⟩ := h
  refine ⟨dx, tt, nu, ?_, fun z => ?_, fun z => sqt_tups (tups_lst e) (h9 z)⟩
  · have n : r ≠ a := ne_of h1 e (by intro z; cases z)
    rw [upd_ne n]
    exact h1
  · obtain ⟨p, t1, x, hx, t2⟩ := h2 z
    exact ⟨p, sqt_tups (tups_lst e) t1, x, hx, sqt_tups (tups_lst e) t2⟩
theorem RowsAt.keep {C : Addr} {rs : List Addr} {ts : List Tk} {H H' : Hp} (h : RowsAt K C H rs ts) (e : Same H H') : RowsAt K C H' rs ts := fun i r t a b => (h i r t a b).keep e
structure ErrT (K : PySem.W.Frag) (mg : Str → Option Value) (D : Addr) (C I : Nat → Addr) : Prop where
  base : BaseT K mg D
  t0 : ClT K mg "BadKind" "BadKind.__init__" iBadKind ["self", "kind"] ["kind"] (C 0) (I 0)
  t1 : ClT K mg "BadWidth" "BadWidth.__init__" iBadWidth ["self", "width"] ["width"] (C 1) (I 1)
  t2 : ClT K mg "BadLine" "BadLine.__init__" iBadLine ["self", "line"] ["line"] (C 2) (I 2)
  t3 : ClT K mg "Refused" "Refused.__init__" iRefused ["self", "line"] ["line"] (C 3) (I 3)
  t4 : ClT K mg "TooMany" "TooMany.__init__" iTooMany ["self", "what", "many", "most"] ["what", "many", "most"] (C 4) (I 4)
abbrev psLW : List Str := ["lines", "width"]
def spRows (K : PySem.W.Frag) (C CB : Addr) : Sp := fun vs H Q E => ∃ (l : Addr) (z : V) (xs : List Str), vs = [.ref l, z] ∧ SqL K H l (xs.map V.str) ∧ xs.length ≤ 1000 ∧
  ((∃ ts : List Tk, xs = ts.map Tk.line ∧ run .no ts = some .no ∧ ∀ H' r rs, Same H H' → H' r = some (.lst (rs.map V.ref)) → rs.length = ts.length → RowsAt K C H' rs ts → Q (.ref r) H') ∨
  (∃ ys : List Str, xs = ("Tell" : Str) :: ys ∧ ∀ H', Same H H' → err1 CB "line" (.int 1) H' E))
theorem ok_read_rows {f g1 g2 C fI tt DB : Addr} {EC EI : Nat → Addr} (T : FT K mg "read_rows" s_read_rows psLW f) {d1 d2 : FuncData} (ET : ErrT K mg DB EC EI) (R : RowT K mg C fI tt) (enu : mg "enumerate" = none)
    (F1 : Fun K "read_row" "read_row" s_read_row g1 d1) (b1 : Binds K d1 psRR []) (m1 : mg "read_row" = some (.ref g1)) (G1 : FnOk P w K mg base CX0 5 g1 d1 psRR (spReadRow K C))
    (F2 : Fun K "blocks_behind" "blocks_behind" s_blocks_behind g2 d2) (b2 : Binds K d2 ["word", "opened"] []) (m2 : mg "blocks_behind" = some (.ref g2)) (G2 : FnOk P w K mg base CX0 1 g2 d2 ["word", "opened"] spBlocks) :
    ∃ fd, Fun K "read_rows" "read_rows" s_read_rows f fd ∧ Binds K fd psLW [] ∧ FnOk P w K mg base (L2.CX P w) 6 f fd psLW (spRows K C (EC 2)) := by
  obtain ⟨fd, F, b⟩ := T.fn
  refine ⟨fd, F, b, F.okX c_read_rows (fun vs H Q E h => ?_) (fun cdv A outer s H vs Q E hr h => ?_)⟩
  · obtain ⟨l, z, xs, rfl, _⟩ := h
    rfl
  obtain ⟨l, z, xs, rfl, hl, hn, q⟩ := h
  have tk : Takes (cxOf (L2.CX P w) P w K mg base n_read_rows "read_rows" (defScope s_read_rows) f cdv A outer s H E) (fun cls d _ G => E cls d G) := takes_of rfl rfl rfl rfl
  refine ⟨_, pss_cons (ps_set (i := 2) c_read_rows.nd rfl (Or.inl rfl) (pe_lst pa_nil)) (pss_cons (ps_set (i := 3) c_read_rows.nd rfl (Or.inl rfl) (pe_lst pa_nil))
    (pss_cons (ps_for (passes_of rfl) rfl (Nd.pi_from enu (by decide) (by decide) (pa_cons (pv 0) pa_nil)) (pg_tup rfl (pgs_cons (pg_name (i := 4) c_read_rows.nd rfl (Or.inl rfl)) (pgs_cons (pg_name (i := 5) c_read_rows.nd rfl (Or.inl rfl)) pgs_nil)))
      (pss_cons (ps_set (i := 6) c_read_rows.nd rfl (Or.inl rfl) (pe_call G1 hr rfl m1 F1.kp b1 .nil pass0 (pa_cons (pv 5) (pa_cons (pv 3) (pa_cons (pv 1) pa_nil)))))
      (pss_cons (ps_if (pt_cmp (pc_isN (pv 6))) (pss_one (ps_rz rfl tk ET.t2 (fun fd F => okBadLine F ET.base) (hr.mono (by decide)) (pa_cons (pv 4) pa_nil))) pss_nil)
      (pss_cons (ps_expr (pe_bm PySem.F.plainAttrs_list PySem.F.slot_list_append PySem.F.type_list_append mt_append (pv 2) (pa_cons (pv 6) pa_nil)))
      (pss_one (ps_set (i := 3) c_read_rows.nd rfl (Or.inl rfl) (pe_call G2 (hr.mono (by decide)) rfl m2 F2.kp b2 .nil pass0 (pa_cons (pe_fld (pv 6) rfl) (pa_cons (pv 3) pa_nil)))))))))
    (pss_cons (ps_if (pt_truth (pv 3) (by intro _; rfl)) (pss_one ps_never) pss_nil)
    (pss_one (ps_ret (pv 2)))))), ?_⟩
  refine ⟨Nat.zero_le _, fun lr nr => ⟨Nat.zero_le _, fun lo no => ?_⟩⟩
  obtain ⟨no1, nlr⟩ := free_upd no
  refine ⟨_, rfl, l, _, rfl, sqt_list_same hl (same_new (new_same nr) no), ?_⟩
  rcases q with ⟨ts, rfl, hrun, q⟩ | ⟨ys, rfl, q⟩
  · have hts : ts.length ≤ 1000 := by rw [List.length_map] at hn; exact hn
    refine for_from (K := K) (a := l) (xs := (ts.map Tk.line).map V.str) (fun i σ G => ∃ (lo : Addr) (o : On) (rs : List Addr) (v4 v5 v6 : Option V), σ = [some (.ref l), some z, some (.ref lr), some (.ref lo), v4, v5, v6] ∧ Same H G ∧ G lr = some (.lst (rs.map V.ref)) ∧ G lo = some (.lst o.vs) ∧ lo ≠ lr ∧ rs.length = i ∧ RowsAt K C G rs ts ∧ run o (ts.drop i) = some .no)
      ⟨lo, .no, [], none, none, none, rfl, same_new (new_same nr) no, (new_same no) _ _ upd_same, upd_same, nlr, rfl, (fun i r t h => by cases h), hrun⟩ ?_ ?_ ?_
    · rintro i σ G _ ⟨lo, o, rs, v4, v5, v6, rfl, sG, _⟩
      exact sqt_list_same hl sG
    · rintro i x σ G Tp hi ⟨lo, o, rs, v4, v5, v6, rfl, sG, elr, elo, nlo, hrs, hrow, hrun⟩ nT
      rw [List.getElem?_map, List.getElem?_map] at hi
      cases hti : ts[i]? with
      | none => rw [hti] at hi; cases hi
      | some t =>
        rw [hti] at hi
        cases hi
        have hd : ts.drop i = t :: ts.drop (i + 1) := by
          obtain ⟨hlt, he⟩ := List.getElem?_eq_some_iff.mp hti
          rw [List.drop_eq_getElem_cons hlt, he]
        rw [hd] at hrun
        obtain ⟨o', hst, hrun'⟩ := Option.bind_eq_some_iff.mp hrun
        have sT := new_same (o := .tup [.int (1 + (i : Int)), .str t.line]) nT
        refine ⟨Tp, _, rfl, SqT.of upd_same, rfl, _, _, rfl, _, _, rfl, rfl, ?_⟩
        refine ⟨_, rfl, _, rfl, _, rfl, t.line, lo, z, o, rfl, SqL.of (sT _ _ elo), .inl ⟨t, o', hst, rfl, fun G2 r s2 nr2 hr2 => ?_⟩⟩
        have sG2 := sT.trans s2
        refine ⟨_, rfl, _, rfl, iteF ?_⟩
        refine ⟨_, rfl, .inl ⟨rfl, _, SqL.of (sG2 _ _ elr)⟩, _, rfl, lr, _, _, rfl, rfl, sG2 _ _ elr, (by rw [List.length_map, hrs]; exact Nat.lt_of_lt_of_le (Nat.lt_of_lt_of_le (List.getElem?_eq_some_iff.mp hti).1 hts) (by decide)), ?_⟩
        have elr2 := sG2 _ _ elr
        obtain ⟨dx, tt', nu, er, ht, _⟩ := hr2.lst (o := .lst (rs.map V.ref ++ [.ref r])) elr2
        refine ⟨_, rfl, r, C, dx, _, _, rfl, er, R.cl, R.nw, rfl, _, rfl, lo, o, o', t, rfl, (by rw [upd_ne nlo]; exact sG2 _ _ elo), hst, fun G3 lo' s3 hlo' elo' => ?_⟩
        have h3 : RowsAt K C G3 (rs ++ [r]) ts := fun j a u ha hu => by
          rcases Nat.lt_or_ge j rs.length with lt | ge
          · rw [List.getElem?_append_left lt] at ha
            exact (((hrow j a u ha hu).keep sG2).lst elr2).keep s3
          · rw [List.getElem?_append_right ge] at ha
            have ej : j - rs.length = 0 := by
              have := (List.getElem?_eq_some_iff.mp ha).1
              simp at this
              omega
            rw [ej] at ha
            cases ha
            have e2 : j = i := by omega
            rw [e2, hti] at hu
            cases hu
            exact (hr2.lst elr2).keep s3
        refine ⟨lo', o', rs ++ [r], _, _, _, rfl, ?_, ?_, elo', ?_, by rw [List.length_append, hrs]; rfl, h3, hrun'⟩
        · exact (same_out (sG.trans sG2) nr).trans s3
        · have := s3 lr _ upd_same
          rw [this, List.map_append]
          rfl
        · rcases hlo' with e | e
          · rw [e]; exact nlo
          · intro z
            rw [z, upd_same] at e
            cases e
    · rintro σ G ⟨lo, o, rs, v4, v5, v6, rfl, sG, elr, elo, nlo, hrs, hrow, hrun⟩
      have ho : o = .no := by
        rw [List.length_map, List.length_map, List.drop_length] at hrun
        exact Option.some.inj hrun
      subst ho
      refine ⟨_, rfl, false, .inl ⟨_, SqL.of elo, rfl⟩, iteF ?_⟩
      exact ⟨_, rfl, q G lr rs sG elr (by rw [hrs, List.length_map, List.length_map]) hrow⟩
  · refine for_from (K := K) (a := l) (xs := (("Tell" : Str) :: ys).map V.str) (fun i σ G => i = 0 ∧ ∃ v4 v5 v6, σ = [some (.ref l), some z, some (.ref lr), some (.ref lo), v4, v5, v6] ∧ G = upd (upd H lr (.lst [])) lo (.lst [])) ⟨rfl, none, none, none, rfl, rfl⟩ ?_ ?_ ?_
    · rintro i σ G _ ⟨_, v4, v5, v6, rfl, rfl⟩
      exact sqt_list_same hl (same_new (new_same nr) no)
    · rintro i x σ G Tp hi ⟨rfl, v4, v5, v6, rfl, rfl⟩ nT
      cases hi
      have s0 : Same H (upd (upd (upd H lr (.lst [])) lo (.lst [])) Tp (.tup [.int (1 + ((0 : Nat) : Int)), .str "Tell"])) := same_new (same_new (new_same nr) no) nT
      obtain ⟨nT1, nTlo⟩ := free_upd nT
      refine ⟨Tp, _, rfl, SqT.of upd_same, rfl, _, _, rfl, _, _, rfl, rfl, ?_⟩
      refine ⟨_, rfl, _, rfl, _, rfl, "Tell", lo, z, .no, rfl, SqL.of ((new_same nT) _ _ upd_same), .inr ⟨rfl, fun G2 s2 => ?_⟩⟩
      refine ⟨_, rfl, _, rfl, iteT ?_⟩
      exact rd1 (W := fun cls d _ G => E cls d G) ET.t2.ex.oex (ET.t2.nf _ List.mem_cons_self) rfl (q _ (s0.trans s2))
    · rintro σ G ⟨h, _⟩
      cases h
end
end H2
namespace H2
open PySem PySem.Spec PyProof.Rows L2 Hx Nd Dun
section
variable {P : Program} {w : World} {K : PySem.W.Frag} {mg : Str → Option Value} {base : Heap} {D : Addr}
/-! ### ways -/
def key0 : NestedKey := .tup [.tup [], .num 0, .num 0, .tup []]
abbrev Wy (K : PySem.W.Frag) (H : Hp) (v : V) : Prop := NV K H v key0
theorem wy_inv {H : Hp} {v : V} (h : Wy K H v) : ∃ a b c, v = .ref a ∧ SqT K H a [.ref b, .int 0, .int 0, .ref c] ∧ SqT K H b [] ∧ SqT K H c [] := by
  cases h with
  | @tup a xs _ h1 h2 =>
    cases h2 with
    | cons x1 h2 =>
      cases h2 with
      | cons x2 h2 =>
        cases h2 with
        | cons x3 h2 =>
          cases h2 with
          | cons x4 h2 =>
            cases h2
            cases x2
            cases x3
            cases x1 with
            | @tup b ys _ y1 y2 =>
              cases y2
              cases x4 with
              | @tup c zs _ z1 z2 =>
                cases z2
                exact ⟨a, b, c, rfl, h1, y1, z1⟩
theorem wy_mk {H : Hp} {a b c : Addr} (h : SqT K H a [.ref b, .int 0, .int 0, .ref c]) (hb : SqT K H b []) (hc : SqT K H c []) : Wy K H (.ref a) :=
  .tup h (.cons (.tup hb .nil) (.cons (.int 0) (.cons (.int 0) (.cons (.tup hc .nil) .nil))))
theorem key0_deep : key0.depth ≤ 8 := by decide +kernel
def aheadV : List V := [.str "tell", .str "grab last", .str "grab given", .str "longer", .str "trade"]
def onceV : List V := [.str "longer", .str "shorter", .str "trade"]
def spKeeps (K : PySem.W.Frag) : Sp := fun vs H Q _ => ∃ (v : V) (x : Str), vs = [v, .str x] ∧ Wy K H v ∧ x ∈ freeW ∧ ∀ H', Same H H' → Q (.bl true) H'
theorem free_cases {x : Str} (h : x ∈ freeW) : x = "tell" ∨ x = "grab" ∨ x = "note" ∨ x = "quit" := by
  unfold freeW at h
  simpa using h
theorem ok_keeps {f aA : Addr} (T : FT K mg "keeps_order" s_keeps_order ["way", "word"] f) (cA : TupT K mg "AHEAD_OF_LOOPS" aA aheadV) : ∃ fd, Fun K "keeps_order" "keeps_order" s_keeps_order f fd ∧ Binds K fd ["way", "word"] [] ∧ FnOk P w K mg base CX0 1 f fd ["way", "word"] (spKeeps K) := by
  obtain ⟨fd, F, b⟩ := T.fn
  refine ⟨fd, F, b, F.ok c_keeps_order (fun vs H Q E h => ?_) (fun cdv A outer s H vs Q E hr h => ?_)⟩
  · obtain ⟨v, x, rfl, _⟩ := h
    rfl
  obtain ⟨v, x, rfl, hv, hx, q⟩ := h
  obtain ⟨a, b1, c1, rfl, ha, hb, hc⟩ := wy_inv hv
  refine ⟨_, pss_cons (ps_asg (pv 0) (pg_tup rfl (pgs_cons (pg_name (i := 2) c_keeps_order.nd rfl (Or.inl rfl)) (pgs_cons (pg_name (i := 3) c_keeps_order.nd rfl (Or.inl rfl)) (pgs_cons (pg_name (i := 4) c_keeps_order.nd rfl (Or.inl rfl)) (pgs_cons (pg_name (i := 5) c_keeps_order.nd rfl (Or.inl rfl)) pgs_nil))))))
    (pss_cons (ps_if (PW.pt (pw_and (pt_cmpR op_in_seq (pv 1) (pe_glob (v := .ref aA) rfl cA.g rfl) rfl) (pw_and1 (pt_truth (pv 2) (by intro _; rfl))))) (pss_one ps_never) pss_nil)
    (pss_cons (ps_if (pt_cmpR op_eq (pv 1) pe_str (nomark _)) (pss_one (ps_ret (pe_or (pe_notT (pv 2)) (pe_one pe_no)))) pss_nil)
    (pss_cons (ps_if (pt_cmpR op_eq (pv 1) pe_str (nomark _)) (pss_one ps_never) pss_nil)
    (pss_cons (ps_if (pt_cmpR op_eq (pv 1) pe_str (nomark _)) (pss_one ps_never) pss_nil)
    (pss_cons (ps_if (pt_cmpR op_in_seq (pv 1) (pe_tup (pa_cons pe_str (pa_cons pe_str pa_nil))) rfl) (pss_one ps_never) pss_nil)
    (pss_cons (ps_if (pt_cmpR op_eq (pv 1) pe_str (nomark _)) (pss_one ps_never) pss_nil)
    (pss_one (ps_ret pe_bl)))))))), ?_⟩
  refine ⟨_, rfl, a, _, rfl, ha, rfl, _, _, rfl, _, _, rfl, _, _, rfl, _, _, rfl, rfl, ?_⟩
  have grabT : ∀ n : Nat, True := fun _ => trivial
  rcases free_cases hx with rfl | rfl | rfl | rfl
  · refine ⟨_, rfl, _, _, rfl, .inr (cA.s _), rfl, rfl, _, rfl, iteBT (by decide +kernel) ?_⟩
    refine ⟨_, rfl, false, .inr (.inl ⟨_, hb, rfl⟩), iteF ?_⟩
    refine ⟨_, rfl, rfl, _, rfl, iteBF (by decide +kernel) ?_⟩
    refine ⟨_, rfl, rfl, _, rfl, iteBF (by decide +kernel) ?_⟩
    refine ⟨_, rfl, rfl, _, rfl, iteBF (by decide +kernel) ?_⟩
    refine ⟨_, rfl, (by show 2 ≤ sizeLine; decide), fun u nu => ⟨u, _, rfl, .inr (SqT.of upd_same), rfl, rfl, _, rfl, iteBF (by decide +kernel) ?_⟩⟩
    refine ⟨_, rfl, rfl, _, rfl, iteBF (by decide +kernel) ?_⟩
    exact q _ (new_same nu)
  · refine ⟨_, rfl, _, _, rfl, .inr (cA.s _), rfl, rfl, _, rfl, iteBF (by decide +kernel) ?_⟩
    refine iteF ?_
    refine ⟨_, rfl, rfl, _, rfl, iteBT (by decide +kernel) ?_⟩
    exact ⟨_, rfl, false, .inr (.inl ⟨_, hb, rfl⟩), _, rfl, q H (fun _ _ z => z)⟩
  · refine ⟨_, rfl, _, _, rfl, .inr (cA.s _), rfl, rfl, _, rfl, iteBF (by decide +kernel) ?_⟩
    refine iteF ?_
    refine ⟨_, rfl, rfl, _, rfl, iteBF (by decide +kernel) ?_⟩
    refine ⟨_, rfl, rfl, _, rfl, iteBF (by decide +kernel) ?_⟩
    refine ⟨_, rfl, rfl, _, rfl, iteBF (by decide +kernel) ?_⟩
    refine ⟨_, rfl, (by show 2 ≤ sizeLine; decide), fun u nu => ⟨u, _, rfl, .inr (SqT.of upd_same), rfl, rfl, _, rfl, iteBF (by decide +kernel) ?_⟩⟩
    refine ⟨_, rfl, rfl, _, rfl, iteBF (by decide +kernel) ?_⟩
    exact q _ (new_same nu)
  · refine ⟨_, rfl, _, _, rfl, .inr (cA.s _), rfl, rfl, _, rfl, iteBF (by decide +kernel) ?_⟩
    refine iteF ?_
    refine ⟨_, rfl, rfl, _, rfl, iteBF (by decide +kernel) ?_⟩
    refine ⟨_, rfl, rfl, _, rfl, iteBF (by decide +kernel) ?_⟩
    refine ⟨_, rfl, rfl, _, rfl, iteBF (by decide +kernel) ?_⟩
    refine ⟨_, rfl, (by show 2 ≤ sizeLine; decide), fun u nu => ⟨u, _, rfl, .inr (SqT.of upd_same), rfl, rfl, _, rfl, iteBF (by decide +kernel) ?_⟩⟩
    refine ⟨_, rfl, rfl, _, rfl, iteBF (by decide +kernel) ?_⟩
    exact q _ (new_same nu)
/-! ### way_behind -/
def spBehind (K : PySem.W.Frag) : Sp := fun vs H Q _ => ∃ (v : V) (n : V) (x : Str), vs = [v, n, .str x] ∧ Wy K H v ∧ x ∈ freeW ∧ ∀ H' b, Same H H' → Wy K H' (.ref b) → Q (.ref b) H'
theorem ok_behind {f aO : Addr} (T : FT K mg "way_behind" s_way_behind ["way", "line", "word"] f) (cO : TupT K mg "ONCE" aO onceV) (tup : mg "tuple" = none) : ∃ fd, Fun K "way_behind" "way_behind" s_way_behind f fd ∧ Binds K fd ["way", "line", "word"] [] ∧ FnOk P w K mg base CX0 1 f fd ["way", "line", "word"] (spBehind K) := by
  obtain ⟨fd, F, b⟩ := T.fn
  refine ⟨fd, F, b, F.ok c_way_behind (fun vs H Q E h => ?_) (fun cdv A outer s H vs Q E hr h => ?_)⟩
  · obtain ⟨v, n, x, rfl, _⟩ := h
    rfl
  obtain ⟨v, n, x, rfl, hv, hx, q⟩ := h
  obtain ⟨a, b1, c1, rfl, ha, hb, hc⟩ := wy_inv hv
  refine ⟨_, pss_cons (ps_asg (pv 0) (pg_tup rfl (pgs_cons (pg_name (i := 3) c_way_behind.nd rfl (Or.inl rfl)) (pgs_cons (pg_name (i := 4) c_way_behind.nd rfl (Or.inl rfl)) (pgs_cons (pg_name (i := 5) c_way_behind.nd rfl (Or.inl rfl)) (pgs_cons (pg_name (i := 6) c_way_behind.nd rfl (Or.inr rfl)) pgs_nil))))))
    (pss_cons (ps_if (PW.pt (pw_and (pt_cmpR op_eq (pv 2) pe_str (nomark _)) (pw_and1 pt_no))) (pss_one ps_never) pss_nil)
    (pss_cons (ps_if (PW.pt (pw_and (pt_cmpR op_eq (pv 2) pe_str (nomark _)) (pw_and1 pt_no))) (pss_one ps_never) pss_nil)
    (pss_one (ps_ret (pe_tup (pa_cons (pv 3) (pa_cons (pv 4) (pa_cons (pv 5) (pa_cons (pe_callTy call_tuple_of (by rfl) tup (by decide +kernel) (pa_cons
      (pe_lc (own := [("known", 7)]) (g := gName 7) rfl c_way_behind.nd (pi_tup (pe_glob (v := .ref aO) rfl cO.g rfl)) (blkOk_by (own := [("known", 7)]) (N := n_way_behind) (sc := defScope s_way_behind) (by decide +kernel))
        (fun _ _ _ _ _ => pg_name (i := 7) c_way_behind.nd rfl (Or.inl rfl)) (fun _ _ _ _ _ => pts_one (PW.pt (pw_or (pt_cmpR op_eq (pv 7) (pv 2) (nomark _)) (pw_or1 (pt_cmpR (op_in_seqk (K' := K) rfl) (pv 7) (pv 6) rfl))))) (fun _ _ _ _ _ => pv 7)) pa_nil)) pa_nil))))))))), ?_⟩
  refine ⟨_, rfl, a, _, rfl, ha, rfl, _, _, rfl, _, _, rfl, _, _, rfl, _, _, rfl, rfl, ?_⟩
  have w1 : decide (V.str x = V.str "to start") = false := by rcases free_cases hx with rfl | rfl | rfl | rfl <;> decide +kernel
  have w2 : decide (V.str x = V.str "shorter") = false := by rcases free_cases hx with rfl | rfl | rfl | rfl <;> decide +kernel
  refine ⟨_, rfl, rfl, _, rfl, iteBF w1 (iteF ?_)⟩
  refine ⟨_, rfl, rfl, _, rfl, iteBF w2 (iteF ?_)⟩
  refine ⟨_, rfl, _, rfl, _, rfl, aO, rfl, ⟨_, cO.s _⟩, fun L nL => lc_tup (K := K) (a := aO) (xs := onceV) (fun i G => G = upd H L (.lst [])) rfl (fun i G _ _ => cO.s G) ?_ ?_⟩
  · rintro i v G hi rfl
    have hv : ∃ y, v = .str y ∧ decide (V.str y = V.str x) = false := by
      match i, hi with
      | 0, hi => cases hi; exact ⟨_, rfl, by rcases free_cases hx with rfl | rfl | rfl | rfl <;> decide +kernel⟩
      | 1, hi => cases hi; exact ⟨_, rfl, by rcases free_cases hx with rfl | rfl | rfl | rfl <;> decide +kernel⟩
      | 2, hi => cases hi; exact ⟨_, rfl, by rcases free_cases hx with rfl | rfl | rfl | rfl <;> decide +kernel⟩
      | i + 3, hi => cases hi
    obtain ⟨y, rfl, hy⟩ := hv
    refine ⟨rfl, ?_⟩
    refine ⟨_, rfl, _, rfl, rfl, _, rfl, iteBF hy ?_⟩
    exact ⟨_, rfl, _, rfl, c1, [], rfl, .inr (sqt_same (new_same nL) hc), rfl, rfl, _, rfl, iteBF rfl rfl⟩
  · rintro G rfl
    refine ⟨L, _, rfl, .inl ⟨SqL.of upd_same, fun t nt => ?_⟩⟩
    have st := same_new (new_same (o := .lst []) nL) (o := .tup []) nt
    refine ⟨(by show 4 ≤ sizeLine; decide), fun p np => ?_⟩
    have sp := same_new (o := .tup [.ref b1, .int 0, .int 0, .ref t]) st np
    exact q _ p sp (wy_mk (SqT.of upd_same) (sqt_same sp hb) (SqT.of ((new_same np) _ _ upd_same)))
end
end H2
namespace H2
open PySem PySem.Spec PyProof.Rows L2 Hx Nd Dun
section
variable {P : Program} {w : World} {K : PySem.W.Frag} {mg : Str → Option Value} {base : Heap} {D : Addr}
/-! ### Walk -/
structure WalkT (K : PySem.W.Frag) (mg : Str → Option Value) (C : Addr) (m : Nat → Addr) : Prop where
  g : mg "Walk" = some (.ref C)
  mak : Mk K C (m 0)
  cl : Cls K C
  nk : NoAttr K C "kind"
  nb : NoAttr K C "broken"
  nw : NoAttr K C "ways"
  nf : NoAttr K C "forks"
  nt : NoAttr K C "turning"
  f0 : ∃ fd, Fun K "__init__" "Walk.__init__" s_Walk_init (m 0) fd ∧ Binds K fd ["self", "kind"] []
  f1 : MT K C "step" "Walk.step" s_Walk_step ["self", "line", "row"] (m 1)
  f4 : MT K C "fork" "Walk.fork" s_Walk_fork ["self", "line", "row"] (m 4)
  f5 : MT K C "pass_line" "Walk.pass_line" s_Walk_pass_line ["self", "line", "word"] (m 5)
  f6 : MT K C "end_ways" "Walk.end_ways" s_Walk_end_ways ["self"] (m 6)
def walkF (kd : V) (br wy fo : Addr) : List (Str × V) := [("kind", kd), ("broken", .ref br), ("ways", .ref wy), ("forks", .ref fo), ("turning", .bl false)]
/-- a list of at most one way, all alike -/
def WL (K : PySem.W.Frag) (H : Hp) (n : Nat) (l : Addr) : Prop := ∃ xs, H l = some (.lst xs) ∧ xs.length ≤ n ∧ ∀ v ∈ xs, Wy K H v
theorem WL.keep {H H' : Hp} {n : Nat} {l : Addr} (h : WL K H n l) (e : H' l = H l) (t : Tups H H') : WL K H' n l := by
  obtain ⟨xs, h1, h2, h3⟩ := h
  exact ⟨xs, by rw [e]; exact h1, h2, fun v hv => NV.keep t _ _ (h3 v hv)⟩
def FkAt (K : PySem.W.Frag) (H : Hp) (fo : Addr) (fs : List V) : On → Prop
  | .no => fs = []
  | _ => ∃ T l1 l2, fs = [.ref T] ∧ SqT K H T [.ref l1, .ref l2] ∧ WL K H 1 l1 ∧ WL K H 1 l2 ∧ l1 ≠ fo ∧ l2 ≠ fo
/-- the walk at wk, with open blocks o -/
structure WS (P : Program) (w : World) (K : PySem.W.Frag) (C : Addr) (H : Hp) (wk br fo : Addr) (kd : V) (o : On) : Prop where
  ex : ∃ (dx wy : Addr) (ks : Ks) (fs : List V), H wk = some (.ins C dx (walkF kd br wy fo)) ∧ H br = some (.lst []) ∧ ND P w K H wy ks ∧ (∀ p ∈ ks, p.1 = key0) ∧ ks.length ≤ 1 ∧ H fo = some (.lst fs) ∧ FkAt K H fo fs o
  ne : fo ≠ br
/-- all but two as it was -/
def Bt (a b : Addr) (H H' : Hp) : Prop := ∀ c u, c ≠ a → c ≠ b → H c = some u → H' c = some u
theorem Bt.of {a b : Addr} {H H' : Hp} (e : Same H H') : Bt a b H H' := fun c u _ _ h => e c u h
theorem Bt.trans {a b : Addr} {H H1 H2 : Hp} (x : Bt a b H H1) (y : Bt a b H1 H2) : Bt a b H H2 := fun c u n1 n2 h => y c u n1 n2 (x c u n1 n2 h)
theorem Bt.l {a b : Addr} {H : Hp} {o : HO} : Bt a b H (upd H a o) := fun c u n _ h => by rw [upd_ne n]; exact h
theorem Bt.r {a b : Addr} {H : Hp} {o : HO} : Bt a b H (upd H b o) := fun c u _ n h => by rw [upd_ne n]; exact h
theorem putN_key {ks : Ks} {b : Addr} (h : ∀ p ∈ ks, p.1 = key0) (hl : ks.length ≤ 1) : (∀ p ∈ putN ks key0 b, p.1 = key0) ∧ (putN ks key0 b).length ≤ 1 := by
  match ks, h, hl with
  | [], _, _ => exact ⟨fun p hp => by simp [putN] at hp; rw [hp], by simp [putN]⟩
  | [q], h, _ =>
    have hq := h q List.mem_cons_self
    have e : putN [q] key0 b = [q] := by simp [putN, hq]
    rw [e]
    exact ⟨h, by simp⟩
/-- list(self.ways) holds ways -/
theorem ways_wl {P : Program} {w : World} {K : PySem.W.Frag} {H : Hp} {wy l : Addr} {ks : Ks} (N : ND P w K H wy ks) (h0 : ∀ p ∈ ks, p.1 = key0) (h1 : ks.length ≤ 1) (nl : H l = none) : WL K (upd H l (.lst (ks.map fun p => V.ref p.2))) 1 l := by
  refine ⟨_, upd_same, by rw [List.length_map]; exact h1, fun v hv => ?_⟩
  obtain ⟨p, hp, rfl⟩ := List.mem_map.mp hv
  have z := (N.nv p hp).1
  rw [h0 p hp] at z
  exact NV.keep (Tups.of (new_same nl)) _ _ z
theorem nd_move {P : Program} {w : World} {K : PySem.W.Frag} {H H' : Hp} {a : Addr} {ks : Ks} (N : ND P w K H a ks) (e : H' a = H a) (t : Tups H H') : ND P w K H' a ks :=
  ⟨by rw [e]; exact N.at_, N.sm, N.ln, fun p hp => ⟨NV.keep t _ _ (N.nv p hp).1, (N.nv p hp).2⟩⟩
theorem tups_new {H : Hp} {a : Addr} {o : HO} (h : H a = none) : Tups H (upd H a o) := Tups.of (new_same h)
/-! #### __init__ -/
def spWalk (P : Program) (w : World) (K : PySem.W.Frag) (C : Addr) : Sp := fun vs H Q _ => ∃ (p dx : Addr) (kd : V), vs = [.ref p, kd] ∧ H p = some (.ins C dx []) ∧ ∀ H' br fo, But p H H' → H br = none → H fo = none → WS P w K C H' p br fo kd .no → Q .non H'
structure FreshT (K : PySem.W.Frag) (mg : Str → Option Value) (a : Addr) : Prop where
  g : mg "FRESH" = some (.ref a)
  w : ∀ H, Wy K H (.ref a)
theorem ok_Walk {C aF : Addr} {m : Nat → Addr} (T : WalkT K mg C m) (cF : FreshT K mg aF) {fd : FuncData} (F : Fun K "__init__" "Walk.__init__" s_Walk_init (m 0) fd) : FnOk P w K mg base CX0 1 (m 0) fd ["self", "kind"] (spWalk P w K C) := by
  refine F.ok c_Walk_init (fun vs H Q E h => ?_) (fun cdv A outer s H vs Q E hr h => ?_)
  · obtain ⟨p, dx, kd, rfl, _⟩ := h
    rfl
  obtain ⟨p, dx, kd, rfl, hp, q⟩ := h
  refine ⟨_, pss_cons (ps_fld (pv 0) (pv 1) rfl) (pss_cons (ps_fld (pv 0) (pe_lst pa_nil) rfl) (pss_cons (ps_fld (pv 0) (pe_ndone hr.units (pe_glob (v := .ref aF) rfl cF.g rfl) pe_bl) rfl) (pss_cons (ps_fld (pv 0) (pe_lst pa_nil) rfl) (pss_one (ps_fld (pv 0) pe_bl rfl))))), ?_⟩
  refine ⟨_, rfl, _, rfl, p, C, dx, _, rfl, hp, T.cl, T.nk, (by show 0 < 1000; decide), ?_⟩
  refine ⟨Nat.zero_le _, fun br nbr => ?_⟩
  obtain ⟨nbr1, nbrp⟩ := free_upd nbr
  refine ⟨_, rfl, p, C, dx, _, rfl, (new_same nbr) _ _ upd_same, T.cl, T.nb, (by show 1 < 1000; decide), ?_⟩
  refine fun wy nwy sm => ?_
  obtain ⟨nwy1, nwyp⟩ := free_upd nwy
  obtain ⟨nwy2, nwybr⟩ := free_upd nwy1
  refine ⟨aF, key0, rfl, rfl, cF.w _, key0_deep, upd_same, ?_⟩
  rw [upd_upd]
  refine ⟨_, rfl, p, C, dx, _, rfl, (new_same nwy) _ _ upd_same, T.cl, T.nw, (by show 2 < 1000; decide), ?_⟩
  refine ⟨Nat.zero_le _, fun fo nfo => ?_⟩
  obtain ⟨nfo1, nfop⟩ := free_upd nfo
  obtain ⟨nfo2, nfowy⟩ := free_upd nfo1
  obtain ⟨nfo3, _⟩ := free_upd nfo2
  obtain ⟨nfo4, nfobr⟩ := free_upd nfo3
  obtain ⟨nfo5, _⟩ := free_upd nfo4
  refine ⟨_, rfl, p, C, dx, _, rfl, (new_same nfo) _ _ upd_same, T.cl, T.nf, (by show 3 < 1000; decide), ?_⟩
  refine ⟨_, rfl, p, C, dx, _, rfl, upd_same, T.cl, T.nt, (by show 4 < 1000; decide), ?_⟩
  rw [upd_upd]
  obtain ⟨nbr2, _⟩ := free_upd nbr
  refine q _ br fo (fun c u n h => ?_) nbr2 nfo5 ⟨⟨dx, wy, [(key0, aF)], [], upd_same, ?_, ⟨?_, sm, (by show 1 ≤ 1000; decide), fun p hp => ?_⟩, fun p hp => ?_, (by show 1 ≤ 1; decide), ?_, rfl⟩, nfobr⟩
  · have c1 : c ≠ br := ne_of_none h nbr2
    have c2 : c ≠ fo := ne_of_none h nfo5
    have c3 : c ≠ wy := fun e => by
      rw [e] at h
      have := free_upd nwy2
      rw [this.1] at h
      cases h
    rw [upd_ne n, upd_ne c2, upd_ne n, upd_ne c3, upd_ne n, upd_ne c1, upd_ne n]
    exact h
  · rw [upd_ne nbrp, upd_ne nfobr.symm, upd_ne nbrp, upd_ne nwybr.symm, upd_ne nbrp, upd_same]
  · rw [upd_ne nwyp, upd_ne nfowy.symm, upd_ne nwyp, upd_same]
    rfl
  · simp at hp
    rw [hp]
    exact ⟨cF.w _, key0_deep⟩
  · simp at hp
    rw [hp]
  · rw [upd_ne nfop, upd_same]
end
end H2
namespace H2
open PySem PySem.Spec PyProof.Rows L2 Hx Nd Dun
section
variable {P : Program} {w : World} {K : PySem.W.Frag} {mg : Str → Option Value} {base : Heap} {D : Addr}
/-! #### how a walk moves -/
theorem FkAt.move {H H' : Hp} {fo : Addr} {fs : List V} {o : On} (h : FkAt K H fo fs o) (t : Tups H H') (e : ∀ l ys, l ≠ fo → H l = some (.lst ys) → H' l = some (.lst ys)) : FkAt K H' fo fs o := by
  have wl : ∀ l, l ≠ fo → WL K H 1 l → WL K H' 1 l := fun l n z => by
    obtain ⟨xs, h1, h2, h3⟩ := z
    exact ⟨xs, e l xs n h1, h2, fun v hv => NV.keep t _ _ (h3 v hv)⟩
  cases o with
  | no => exact h
  | yes =>
    obtain ⟨T, l1, l2, h1, h2, h3, h4, n1, n2⟩ := h
    exact ⟨T, l1, l2, h1, sqt_tups t h2, wl l1 n1 h3, wl l2 n2 h4, n1, n2⟩
  | els =>
    obtain ⟨T, l1, l2, h1, h2, h3, h4, n1, n2⟩ := h
    exact ⟨T, l1, l2, h1, sqt_tups t h2, wl l1 n1 h3, wl l2 n2 h4, n1, n2⟩
section
variable {C wk br fo : Addr} {kd : V} {o : On} {H H' : Hp}
theorem WS.keep (h : WS P w K C H wk br fo kd o) (e : Same H H') : WS P w K C H' wk br fo kd o := by
  obtain ⟨⟨dx, wy, ks, fs, h1, h2, h3, h4, h5, h6, h7⟩, n⟩ := h
  exact ⟨⟨dx, wy, ks, fs, e _ _ h1, e _ _ h2, h3.keep e, h4, h5, e _ _ h6, h7.move (Tups.of e) (fun l ys _ z => e _ _ z)⟩, n⟩
/-- the ways are new ones -/
theorem WS.ways {dx wy wy' : Addr} {ks' : Ks} {fs : List V} (h1 : H wk = some (.ins C dx (walkF kd br wy fo))) (h2 : H br = some (.lst [])) (h6 : H fo = some (.lst fs)) (h7 : FkAt K H fo fs o) (n : fo ≠ br) (N : ND P w K H wy' ks') (h4 : ∀ p ∈ ks', p.1 = key0) (h5 : ks'.length ≤ 1) :
    WS P w K C (upd H wk (.ins C dx (walkF kd br wy' fo))) wk br fo kd o := by
  have nb : br ≠ wk := ne_of h2 h1 (by intro z; cases z)
  have nf : fo ≠ wk := ne_of h6 h1 (by intro z; cases z)
  have nw : wy' ≠ wk := ne_of N.at_ h1 (by intro z; cases z)
  refine ⟨⟨dx, wy', ks', fs, upd_same, by rw [upd_ne nb]; exact h2, nd_move N (upd_ne nw) (tups_ins h1), h4, h5, by rw [upd_ne nf]; exact h6, h7.move (tups_ins h1) fun l ys _ z => ?_⟩, n⟩
  rw [upd_ne (ne_of z h1 (by intro z; cases z))]
  exact z
end
/-! #### end_ways -/
def spEnd (P : Program) (w : World) (K : PySem.W.Frag) (C : Addr) : Sp := fun vs H Q _ => ∃ (wk br fo : Addr) (kd : V) (o : On), vs = [.ref wk] ∧ WS P w K C H wk br fo kd o ∧ ∀ H', Bt wk fo H H' → WS P w K C H' wk br fo kd o → Q .non H'
theorem ok_end {C : Addr} {m : Nat → Addr} (T : WalkT K mg C m) (lst : mg "list" = none) : ∃ fd, Fun K "end_ways" "Walk.end_ways" s_Walk_end_ways (m 6) fd ∧ Binds K fd ["self"] [] ∧ FnOk P w K mg base CX0 1 (m 6) fd ["self"] (spEnd P w K C) := by
  obtain ⟨fd, F, b⟩ := T.f6.fn
  refine ⟨fd, F, b, F.ok c_Walk_end_ways (fun vs H Q E h => ?_) (fun cdv A outer s H vs Q E hr h => ?_)⟩
  · obtain ⟨wk, br, fo, kd, o, rfl, _⟩ := h
    rfl
  obtain ⟨wk, br, fo, kd, o, rfl, hw, q⟩ := h
  refine ⟨_, pss_cons (ps_for PassesOwn.never rfl (pi_list (pe_callTy (call_listNd rfl) (by rfl) lst (by decide +kernel) (pa_cons (pe_fld (pv 0) rfl) pa_nil)))
      (pg_tup rfl (pgs_cons (pg_name (i := 1) c_Walk_end_ways.nd rfl (Or.inl rfl)) (pgs_cons (pg_name (i := 2) c_Walk_end_ways.nd rfl (Or.inl rfl)) (pgs_cons (pg_name (i := 1) c_Walk_end_ways.nd rfl (Or.inl rfl)) (pgs_cons (pg_name (i := 1) c_Walk_end_ways.nd rfl (Or.inl rfl)) pgs_nil)))))
      (pss_one (ps_if (pt_truth (pv 2) (by intro _; rfl)) (pss_one ps_never) pss_nil)))
    (pss_one (ps_fld (pv 0) Nd.pe_ndnew rfl)), ?_⟩
  obtain ⟨⟨dx, wy, ks, fs, h1, h2, h3, h4, h5, h6, h7⟩, n⟩ := id hw
  refine ⟨_, rfl, wk, C, dx, _, _, rfl, h1, T.cl, T.nw, rfl, wy, ks, rfl, h3, fun l nl => ?_⟩
  have wl := ways_wl h3 h4 h5 nl
  refine ⟨l, rfl, ⟨_, SqL.of upd_same⟩, for_list (K := K) (a := l) (xs := ks.map fun p => V.ref p.2) (fun i σ G => G = upd H l (.lst (ks.map fun p => V.ref p.2)) ∧ ∃ v1 v2, σ = [some (.ref wk), v1, v2]) ⟨rfl, none, none, rfl⟩ ?_ ?_ ?_⟩
  · rintro i σ G _ ⟨rfl, _⟩
    exact SqL.of upd_same
  · rintro i v σ G hi ⟨rfl, v1, v2, rfl⟩
    obtain ⟨xs, e1, e2, e3⟩ := wl
    rw [upd_same] at e1
    have e1' : (ks.map fun p => V.ref p.2) = xs := by injection e1 with e1; injection e1
    have hv := e3 v (by rw [← e1']; exact List.mem_of_getElem? hi)
    obtain ⟨a, b1, c1, rfl, ha, hb, hc⟩ := wy_inv hv
    refine ⟨a, _, rfl, ha, rfl, _, _, rfl, _, _, rfl, _, _, rfl, _, _, rfl, rfl, ?_⟩
    exact ⟨_, rfl, false, rfl, iteF ⟨rfl, _, _, rfl⟩⟩
  · rintro σ G ⟨rfl, v1, v2, rfl⟩
    refine fun d nd sm => ?_
    have s1 := same_new (new_same (o := .lst (ks.map fun p => V.ref p.2)) nl) nd (o := ndO P w d [])
    refine ⟨_, rfl, wk, C, dx, _, rfl, s1 _ _ h1, T.cl, T.nw, (by show 5 < 1000; decide), ?_⟩
    refine q _ ((Bt.of s1).trans Bt.l) ?_
    exact WS.ways (s1 _ _ h1) (s1 _ _ h2) (s1 _ _ h6) (h7.move (Tups.of s1) fun l ys _ z => s1 _ _ z) n (Nd.nd_new (K := K) sm) (fun p hp => by cases hp) (by show 0 ≤ 1; decide)
/-! #### pass_line -/
abbrev psPL : List Str := ["self", "line", "word"]
theorem wl_mem {H : Hp} {l : Addr} {ys : List V} (h : WL K H 1 l) (e : H l = some (.lst ys)) : ys.length ≤ 1 ∧ ∀ v ∈ ys, Wy K H v := by
  obtain ⟨xs, e1, e2, e3⟩ := h
  rw [e] at e1
  have e1' : ys = xs := by injection e1 with e1; injection e1
  rw [e1']
  exact ⟨e2, e3⟩
def spPass (P : Program) (w : World) (K : PySem.W.Frag) (C : Addr) : Sp := fun vs H Q _ => ∃ (wk br fo : Addr) (kd n : V) (x : Str) (o : On), vs = [.ref wk, n, .str x] ∧ x ∈ freeW ∧ WS P w K C H wk br fo kd o ∧ ∀ H', Bt wk fo H H' → WS P w K C H' wk br fo kd o → Q .non H'
theorem ok_pass {C g1 g2 g3 : Addr} {m : Nat → Addr} (T : WalkT K mg C m) (lst : mg "list" = none) {d1 d2 d3 : FuncData}
    (F1 : Fun K "allows" "allows" s_allows g1 d1) (b1 : Binds K d1 ["kind", "word"] []) (m1 : mg "allows" = some (.ref g1)) (G1 : FnOk P w K mg base CX0 1 g1 d1 ["kind", "word"] spAllows)
    (F2 : Fun K "keeps_order" "keeps_order" s_keeps_order g2 d2) (b2 : Binds K d2 ["way", "word"] []) (m2 : mg "keeps_order_limits" = some (.ref g2)) (G2 : FnOk P w K mg base CX0 1 g2 d2 ["way", "word"] (spKeeps K))
    (F3 : Fun K "way_behind" "way_behind" s_way_behind g3 d3) (b3 : Binds K d3 ["way", "line", "word"] []) (m3 : mg "way_behind" = some (.ref g3)) (G3 : FnOk P w K mg base CX0 1 g3 d3 ["way", "line", "word"] (spBehind K)) :
    ∃ fd, Fun K "pass_line" "Walk.pass_line" s_Walk_pass_line (m 5) fd ∧ Binds K fd psPL [] ∧ FnOk P w K mg base CX0 2 (m 5) fd psPL (spPass P w K C) := by
  obtain ⟨fd, F, b⟩ := T.f5.fn
  obtain ⟨d6, F6, b6, G6⟩ := ok_end (P := P) (w := w) (base := base) T lst
  refine ⟨fd, F, b, F.ok c_Walk_pass_line (fun vs H Q E h => ?_) (fun cdv A outer s H vs Q E hr h => ?_)⟩
  · obtain ⟨wk, br, fo, kd, n, x, o, rfl, _⟩ := h
    rfl
  obtain ⟨wk, br, fo, kd, n, x, o, rfl, hx, hw, q⟩ := h
  refine ⟨_, pss_cons (ps_for PassesOwn.never rfl (pi_list (pe_callTy (call_listNd rfl) (by rfl) lst (by decide +kernel) (pa_cons (pe_fld (pv 0) rfl) pa_nil))) (pg_name (i := 3) c_Walk_pass_line.nd rfl (Or.inl rfl))
      (pss_one (ps_if (PW.pt (pw_or (pt_not (pt_val (pe_call G1 hr rfl m1 F1.kp b1 .nil pass0 (pa_cons (pe_fld (pv 0) rfl) (pa_cons (pv 2) pa_nil))))) (pw_or1 (pt_not (pt_val (pe_call G2 hr rfl m2 F2.kp b2 .nil pass0 (pa_cons (pv 3) (pa_cons (pv 2) pa_nil)))))))) (pss_one ps_never) pss_nil)))
    (Evl.pss_cut (ps_if (pt_cmpR op_eq (pv 2) pe_str (nomark _)) (pss_one (ps_expr (pe_meth0 (pv 0) T.cl T.f6.m G6 hr b6 .nil pass0))) pss_nil)
    (pss_one (ps_fld (pv 0) (Nd.pe_ndc (own := [("way", 3)]) (g := gName 3) (tt := tYes) rfl c_Walk_pass_line.nd hr.units (pi_list (pe_callTy (call_listNd rfl) (by rfl) lst (by decide +kernel) (pa_cons (pe_fld (pv 0) rfl) pa_nil))) (blkOk_by (own := [("way", 3)]) (N := n_Walk_pass_line) (sc := defScope s_Walk_pass_line) (by decide +kernel))
      (fun _ _ _ _ _ => pg_name (i := 3) c_Walk_pass_line.nd rfl (Or.inl rfl)) (fun _ _ _ _ _ => pts_nil) (fun _ _ _ _ _ => pe_call G3 hr rfl m3 F3.kp b3 .nil pass0 (pa_cons (pv 3) (pa_cons (pv 1) (pa_cons (pv 2) pa_nil)))) (fun _ _ _ _ _ => pe_bl)) rfl))), ?_⟩
  obtain ⟨⟨dx, wy, ks, fs, h1, h2, h3, h4, h5, h6, h7⟩, ne⟩ := id hw
  refine ⟨_, rfl, wk, C, dx, _, _, rfl, h1, T.cl, T.nw, rfl, wy, ks, rfl, h3, fun l nl => ?_⟩
  have wl := ways_wl h3 h4 h5 nl
  have sl := new_same (o := .lst (ks.map fun p => V.ref p.2)) nl
  refine ⟨l, rfl, ⟨_, SqL.of upd_same⟩, for_list (K := K) (a := l) (xs := ks.map fun p => V.ref p.2) (fun i σ G => Same (upd H l (.lst (ks.map fun p => V.ref p.2))) G ∧ ∃ v3, σ = [some (.ref wk), some n, some (.str x), v3]) ⟨fun _ _ z => z, none, rfl⟩ ?_ ?_ ?_⟩
  · rintro i σ G _ ⟨sG, _⟩
    exact SqL.of (sG _ _ upd_same)
  · rintro i v σ G hi ⟨sG, v3, rfl⟩
    have hv : Wy K G v := NV.keep (Tups.of sG) _ _ ((wl_mem wl upd_same).2 v (List.mem_of_getElem? hi))
    refine ⟨_, rfl, wk, C, dx, _, _, rfl, sG _ _ (sl _ _ h1), T.cl, T.nk, rfl, _, rfl, kd, x, rfl, hx, true, rfl, iteF ?_⟩
    refine ⟨_, rfl, _, rfl, v, x, rfl, hv, hx, fun G2 s2 => ⟨true, rfl, iteF ?_⟩⟩
    exact ⟨sG.trans s2, _, rfl⟩
  · rintro σ G ⟨sG, v3, rfl⟩
    have sHG := sl.trans sG
    refine ⟨fun σ G => ∃ v3, σ = [some (.ref wk), some n, some (.str x), v3] ∧ Bt wk fo H G ∧ WS P w K C G wk br fo kd o, ?_, ?_⟩
    · refine ⟨_, rfl, rfl, _, rfl, ite2 (fun _ => ?_) (fun _ => ?_)⟩
      · refine ⟨_, rfl, wk, dx, _, rfl, sHG _ _ h1, rfl, wk, br, fo, kd, o, rfl, hw.keep sHG, fun G2 b2 w2 => ?_⟩
        exact ⟨_, rfl, (Bt.of sHG).trans b2, w2⟩
      · exact ⟨_, rfl, Bt.of sHG, hw.keep sHG⟩
    · rintro σ G ⟨v3, rfl, bG, wG⟩
      obtain ⟨⟨dx, wy, ks, fs, h1, h2, h3, h4, h5, h6, h7⟩, ne⟩ := id wG
      refine ⟨_, rfl, wk, C, dx, _, _, rfl, h1, T.cl, T.nw, rfl, wy, ks, rfl, h3, fun l nl => ?_⟩
      have wl := ways_wl h3 h4 h5 nl
      have sl := new_same (o := .lst (ks.map fun p => V.ref p.2)) nl
      refine ⟨l, rfl, ⟨_, SqL.of upd_same⟩, fun D nD sm => ndc_list (K := K) (a := l) (xs := ks.map fun p => V.ref p.2) (fun i G2 => Same (upd G l (.lst (ks.map fun p => V.ref p.2))) G2 ∧ ∃ js : Ks, ND P w K G2 D js ∧ (∀ p ∈ js, p.1 = key0) ∧ js.length ≤ 1)
        ⟨new_same nD, [], Nd.nd_new sm, (fun p hp => by cases hp), (by show 0 ≤ 1; decide)⟩ ?_ ?_ ?_⟩
      · rintro i G2 _ ⟨s2, _⟩
        exact SqL.of (s2 _ _ upd_same)
      · rintro i v G2 hi ⟨s2, js, N, j0, j1⟩
        have hv : Wy K G2 v := NV.keep (Tups.of s2) _ _ ((wl_mem wl upd_same).2 v (List.mem_of_getElem? hi))
        refine ⟨rfl, ?_⟩
        unfold tYes
        dsimp only
        rw [if_pos rfl]
        refine ⟨_, rfl, _, rfl, _, rfl, v, n, x, rfl, hv, hx, fun G3 b s3 hb => ?_⟩
        have N3 := N.keep s3
        obtain ⟨k1, k2⟩ := putN_key (b := b) j0 j1
        exact ⟨b, js, key0, rfl, rfl, N3, by omega, hb, key0_deep, same_out (s2.trans s3) nD, _, N3.put (by omega) hb key0_deep, k1, k2⟩
      · rintro G2 ⟨s2, js, N, j0, j1⟩
        have sG2 := sl.trans s2
        refine ⟨_, rfl, wk, C, dx, _, rfl, sG2 _ _ h1, T.cl, T.nw, (by show 5 < 1000; decide), ?_⟩
        refine q _ (bG.trans ((Bt.of sG2).trans Bt.l)) ?_
        exact WS.ways (sG2 _ _ h1) (sG2 _ _ h2) (sG2 _ _ h6) (h7.move (Tups.of sG2) fun l ys _ z => sG2 _ _ z) ne N j0 j1
end
end H2
namespace H2
open PySem PySem.Spec PyProof.Rows L2 Hx Nd Dun
section
variable {P : Program} {w : World} {K : PySem.W.Frag} {mg : Str → Option Value} {base : Heap} {D : Addr}
/-! #### fork -/
theorem ndc_id {G : Hp} {l D : Addr} {xs : List V} {i : Nat} {σ : L2.St} {vs : List Nat} {Qd : Hp → Prop} (e : G l = some (.lst xs)) (hx : ∀ v ∈ xs, Wy K G v) (nD : G D = none) (sm : (D == sysModules) = false)
    (hw : ∀ v : V, wipe ((wipe σ vs).set i (some v)) vs = wipe σ vs) (hg : ∀ v : V, ((wipe σ vs).set i (some v))[i]? = some (some v))
    (hd : ∀ G2 js, Same G G2 → ND P w K G2 D js → (∀ p ∈ js, p.1 = key0) → js.length ≤ 1 → Qd G2) :
    ∃ W : Nat → Nat → Hp → Prop, (∃ m, W 0 m (upd G D (Nd.ndO P w D []))) ∧ ∀ j m G1, W j m G1 →
    ((Itl K l).stop j G1 ∧ Qd G1) ∨ ((Itl K l).go j G1 ∧ ∃ Nx : Hp → Prop, (∀ G2, Nx G2 → ∃ m', m' < m ∧ W (j + 1) m' G2) ∧ ∀ x G2, (Itl K l).yld j G1 x G2 → gName i x (wipe σ vs) G2 fun ρ G3 => wipe ρ vs = wipe σ vs ∧ tYes ρ G3 fun b G4 =>
      if b = true then tVar i ρ G4 fun y G5 => tC (.bl true) ρ G5 fun z G6 => Nd.NdTurn P w K D y z G6 Nx else Nx G4) := by
  refine ndc_list (K := K) (a := l) (xs := xs) (fun i G2 => Same G G2 ∧ ∃ js : Ks, ND P w K G2 D js ∧ (∀ p ∈ js, p.1 = key0) ∧ js.length ≤ 1)
    ⟨new_same nD, [], Nd.nd_new sm, (fun p hp => by cases hp), (by show 0 ≤ 1; decide)⟩ ?_ ?_ ?_
  · rintro j G2 _ ⟨s2, _⟩
    exact SqL.of (s2 _ _ e)
  · rintro j v G2 hi ⟨s2, js, N, j0, j1⟩
    have hv : Wy K G2 v := NV.keep (Tups.of s2) _ _ (hx v (List.mem_of_getElem? hi))
    obtain ⟨b, _, _, rfl, _⟩ := wy_inv hv
    refine ⟨hw _, ?_⟩
    unfold tYes
    dsimp only
    rw [if_pos rfl]
    obtain ⟨k1, k2⟩ := putN_key (b := b) j0 j1
    exact ⟨_, hg _, b, js, key0, rfl, rfl, N, by omega, hv, key0_deep, same_out s2 nD, _, N.put (by omega) hv key0_deep, k1, k2⟩
  · rintro G2 ⟨s2, js, N, j0, j1⟩
    exact hd G2 js s2 N j0 j1
abbrev psFK : List Str := ["self", "line", "row"]
def spFork (P : Program) (w : World) (K : PySem.W.Frag) (C CR : Addr) : Sp := fun vs H Q _ => ∃ (wk br fo r : Addr) (kd n : V) (t : Tk) (o o' : On), vs = [.ref wk, n, .ref r] ∧ RowAt K CR H r t ∧ (t.word = "if" ∧ (t = .ifi ∨ t = .ifb) ∧ o = .no ∧ o' = .yes ∨ t = .els ∧ o = .yes ∧ o' = .els ∨ t = .fin ∧ o ≠ .no ∧ o' = .no) ∧
  WS P w K C H wk br fo kd o ∧ ∀ H', Bt wk fo H H' → WS P w K C H' wk br fo kd o' → Q .non H'
theorem ok_fork {C CR fI tt g : Addr} {m : Nat → Addr} (T : WalkT K mg C m) (R : RowT K mg CR fI tt) (lst : mg "list" = none) {d : FuncData} (F1 : Fun K "names_given" "names_given" s_names_given g d) (b1 : Binds K d ["test"] []) (m1 : mg "names_given" = some (.ref g)) (G1 : FnOk P w K mg base CX0 1 g d ["test"] (spNames K)) :
    ∃ fd, Fun K "fork" "Walk.fork" s_Walk_fork (m 4) fd ∧ Binds K fd psFK [] ∧ FnOk P w K mg base CX0 2 (m 4) fd psFK (spFork P w K C CR) := by
  obtain ⟨fd, F, b⟩ := T.f4.fn
  refine ⟨fd, F, b, F.ok c_Walk_fork (fun vs H Q E h => ?_) (fun cdv A outer s H vs Q E hr h => ?_)⟩
  · obtain ⟨wk, br, fo, r, kd, n, t, o, o', rfl, _⟩ := h
    rfl
  obtain ⟨wk, br, fo, r, kd, n, t, o, o', rfl, hrow, hot, hw, q⟩ := h
  refine ⟨_, pss_one (ps_if (pt_cmpR op_eq (pe_fld (pv 2) rfl) pe_str (nomark _))
    (Evl.pss_cut (ps_if (PW.pt (pw_and (Nd.pt_nd (pe_fld (pv 0) rfl)) (pw_and (pt_val (pe_call G1 hr rfl m1 F1.kp b1 .nil pass0 (pa_cons (pe_fld (pv 2) rfl) pa_nil))) (pw_and1 pt_no)))) (pss_one ps_never) pss_nil)
      (pss_one (ps_expr (pe_bm PySem.F.plainAttrs_list PySem.F.slot_list_append PySem.F.type_list_append mt_append (pe_fld (pv 0) rfl) (pa_cons (pe_tup (pa_cons (pe_callTy (call_listNd rfl) (by rfl) lst (by decide +kernel) (pa_cons (pe_fld (pv 0) rfl) pa_nil)) (pa_cons (pe_lst pa_nil) pa_nil))) pa_nil)))))
    (pss_one (ps_if (pt_cmpR op_eq (pe_fld (pv 2) rfl) pe_str (nomark _))
      (pss_cons (ps_asg (pe_bm0 PySem.F.plainAttrs_list PySem.F.slot_list_pop PySem.F.type_list_pop mt_pop (pe_fld (pv 0) rfl)) (pg_tup rfl (pgs_cons (pg_name (i := 3) c_Walk_fork.nd rfl (Or.inl rfl)) (pgs_cons (pg_name (i := 4) c_Walk_fork.nd rfl (Or.inl rfl)) pgs_nil))))
      (pss_cons (ps_expr (pe_bm PySem.F.plainAttrs_list PySem.F.slot_list_append PySem.F.type_list_append mt_append (pe_fld (pv 0) rfl) (pa_cons (pe_tup (pa_cons (pe_lst pa_nil) (pa_cons (pe_callTy (call_listNd rfl) (by rfl) lst (by decide +kernel) (pa_cons (pe_fld (pv 0) rfl) pa_nil)) pa_nil))) pa_nil)))
      (pss_one (ps_fld (pv 0) (Nd.pe_ndc (own := [("way", 5)]) (g := gName 5) (tt := tYes) rfl c_Walk_fork.nd hr.units (pi_list (pv 3)) (blkOk_by (own := [("way", 5)]) (N := n_Walk_fork) (sc := defScope s_Walk_fork) (by decide +kernel))
        (fun _ _ _ _ _ => pg_name (i := 5) c_Walk_fork.nd rfl (Or.inl rfl)) (fun _ _ _ _ _ => pts_nil) (fun _ _ _ _ _ => pv 5) (fun _ _ _ _ _ => pe_bl)) rfl))))
      (pss_cons (ps_asg (pe_bm0 PySem.F.plainAttrs_list PySem.F.slot_list_pop PySem.F.type_list_pop mt_pop (pe_fld (pv 0) rfl)) (pg_tup rfl (pgs_cons (pg_name (i := 3) c_Walk_fork.nd rfl (Or.inl rfl)) (pgs_cons (pg_name (i := 6) c_Walk_fork.nd rfl (Or.inl rfl)) pgs_nil))))
      (pss_one (ps_fld (pv 0) (Nd.pe_ndc (own := [("way", 5)]) (g := gName 5) (tt := tYes) rfl c_Walk_fork.nd hr.units (pi_list (pe_op op_cat (pe_op op_cat (pe_callTy (call_listNd rfl) (by rfl) lst (by decide +kernel) (pa_cons (pe_fld (pv 0) rfl) pa_nil)) (pv 3)) (pv 6))) (blkOk_by (own := [("way", 5)]) (N := n_Walk_fork) (sc := defScope s_Walk_fork) (by decide +kernel))
        (fun _ _ _ _ _ => pg_name (i := 5) c_Walk_fork.nd rfl (Or.inl rfl)) (fun _ _ _ _ _ => pts_nil) (fun _ _ _ _ _ => pv 5) (fun _ _ _ _ _ => pe_bl)) rfl)))))), ?_⟩
  obtain ⟨⟨dx, wy, ks, fs, h1, h2, h3, h4, h5, h6, h7⟩, ne⟩ := id hw
  obtain ⟨dxr, ttr, nu, er, ht⟩ := hrow
  have nwf : wk ≠ fo := ne_of h1 h6 (by intro z; cases z)
  have nyf : wy ≠ fo := ne_of h3.at_ h6 (by intro z; cases z)
  rcases hot with ⟨hwd, hif, rfl, rfl⟩ | ⟨rfl, rfl, rfl⟩ | ⟨rfl, hno, rfl⟩
  · refine ⟨_, rfl, r, CR, dxr, _, _, rfl, er, R.cl, R.nw, rfl, rfl, _, rfl, iteBT (by rw [hwd]; decide +kernel) ?_⟩
    refine ⟨fun σ G => σ = [some (.ref wk), some n, some (.ref r), none, none, none, none] ∧ Same H G, ?_, ?_⟩
    · refine ⟨_, rfl, wk, C, dx, _, _, rfl, h1, T.cl, T.nw, rfl, wy, ks, rfl, h3, ite2 (fun _ => ?_) (fun _ => ?_)⟩
      · exact ⟨_, rfl, r, CR, dxr, _, _, rfl, er, R.cl, R.nt, rfl, ttr, rfl, ht.1 hif, fun G s => ⟨false, rfl, iteF (iteF ⟨rfl, s⟩)⟩⟩
      · exact iteF ⟨rfl, fun _ _ z => z⟩
    · rintro σ G ⟨rfl, sG⟩
      have hfs : fs = [] := h7
      subst hfs
      refine ⟨_, rfl, wk, C, dx, _, _, rfl, sG _ _ h1, T.cl, T.nf, rfl, .inl ⟨rfl, _, SqL.of (sG _ _ h6)⟩, ?_⟩
      refine ⟨_, rfl, wk, C, dx, _, _, rfl, sG _ _ h1, T.cl, T.nw, rfl, wy, ks, rfl, h3.keep sG, fun l nl => ?_⟩
      have wl := ways_wl (h3.keep sG) h4 h5 nl
      have sl := same_new (o := .lst (ks.map fun p => V.ref p.2)) sG nl
      refine ⟨Nat.zero_le _, fun l2 nl2 => ?_⟩
      obtain ⟨nl2a, nl2l⟩ := free_upd nl2
      have sl2 := same_new (o := .lst []) sl nl2
      refine ⟨(by show 2 ≤ sizeLine; decide), fun T' nT => ?_⟩
      have sT := same_new (o := .tup [.ref l, .ref l2]) sl2 nT
      refine ⟨fo, _, _, rfl, rfl, sT _ _ h6, (by show 0 < sizeLine; decide), ?_⟩
      have nlf : l ≠ fo := fun e => by rw [e, sG _ _ h6] at nl; cases nl
      have nl2f : l2 ≠ fo := fun e => by rw [e, sl _ _ h6] at nl2; cases nl2
      have nTl : T' ≠ l := fun e => by
        rw [e, upd_ne nl2l.symm, upd_same] at nT
        cases nT
      have nTl2 : T' ≠ l2 := fun e => by rw [e, upd_same] at nT; cases nT
      have tf := tups_lst (o := .lst [.ref T']) (sT _ _ h6)
      refine q _ ((Bt.of sT).trans Bt.r) ⟨⟨dx, wy, ks, [.ref T'], ?_, ?_, ?_, h4, h5, upd_same, T', l, l2, rfl, sqt_tups tf (SqT.of upd_same), ?_, ?_, nlf, nl2f⟩, ne⟩
      · rw [upd_ne nwf]; exact sT _ _ h1
      · rw [upd_ne ne.symm]; exact sT _ _ h2
      · exact nd_move (h3.keep sT) (upd_ne nyf) tf
      · exact wl.keep (by rw [upd_ne nlf, upd_ne nTl.symm, upd_ne nl2l.symm]) (((tups_new nl2).trans (tups_new nT)).trans tf)
      · exact ⟨[], by rw [upd_ne nl2f, upd_ne nTl2.symm, upd_same], (by show 0 ≤ 1; decide), fun v hv => by cases hv⟩
  · obtain ⟨T0, l1, l2, rfl, hT0, ⟨xs1, e1, c1, w1⟩, ⟨xs2, e2, c2, w2⟩, n1, n2⟩ := h7
    refine ⟨_, rfl, r, CR, dxr, _, _, rfl, er, R.cl, R.nw, rfl, rfl, _, rfl, iteBF (by decide +kernel) ?_⟩
    refine ⟨_, rfl, r, CR, dxr, _, _, rfl, er, R.cl, R.nw, rfl, rfl, _, rfl, iteBT (by decide +kernel) ?_⟩
    refine ⟨_, rfl, wk, C, dx, _, _, rfl, h1, T.cl, T.nf, rfl, .inl ⟨rfl, _, SqL.of h6⟩, fo, _, .ref T0, rfl, rfl, h6, rfl, ?_⟩
    obtain ⟨H1, hH1⟩ : ∃ H1, H1 = upd H fo (.lst (([.ref T0] : List V).dropLast)) := ⟨_, rfl⟩
    have t1 : Tups H H1 := by rw [hH1]; exact tups_lst h6
    have k1 : ∀ c u, c ≠ fo → H c = some u → H1 c = some u := fun c u n z => by rw [hH1, upd_ne n]; exact z
    have f1 : H1 fo = some (.lst []) := by rw [hH1]; exact upd_same
    have b1' : Bt wk fo H H1 := by rw [hH1]; exact Bt.r
    have ND1 : ND P w K H1 wy ks := nd_move h3 (by rw [hH1]; exact upd_ne nyf) t1
    rw [← hH1]
    clear hH1
    refine ⟨T0, _, rfl, sqt_tups t1 hT0, rfl, _, _, rfl, _, _, rfl, rfl, ?_⟩
    refine ⟨_, rfl, wk, C, dx, _, _, rfl, k1 _ _ nwf h1, T.cl, T.nf, rfl, .inl ⟨rfl, _, SqL.of f1⟩, Nat.zero_le _, fun la nla => ?_⟩
    have sa := new_same (o := .lst []) nla
    refine ⟨_, rfl, wk, C, dx, _, _, rfl, sa _ _ (k1 _ _ nwf h1), T.cl, T.nw, rfl, wy, ks, rfl, ND1.keep sa, fun lb nlb => ?_⟩
    have wlb := ways_wl (ND1.keep sa) h4 h5 nlb
    obtain ⟨nlb1, nlba⟩ := free_upd nlb
    have sb := same_new (o := .lst (ks.map fun p => V.ref p.2)) sa nlb
    refine ⟨(by show 2 ≤ sizeLine; decide), fun T1 nT1 => ?_⟩
    have st := same_new (o := .tup [.ref la, .ref lb]) sb nT1
    refine ⟨fo, _, _, rfl, rfl, st _ _ f1, (by show 0 < sizeLine; decide), ?_⟩
    have nlaf : la ≠ fo := fun e => by rw [e, f1] at nla; cases nla
    have nlbf : lb ≠ fo := fun e => by rw [e, sa _ _ f1] at nlb; cases nlb
    have nT1a : T1 ≠ la := fun e => by
      rw [e, upd_ne nlba.symm, upd_same] at nT1
      cases nT1
    have nT1b : T1 ≠ lb := fun e => by rw [e, upd_same] at nT1; cases nT1
    have t5 := tups_lst (o := .lst [.ref T1]) (st _ _ f1)
    obtain ⟨H5, hH5⟩ : ∃ H5, H5 = upd (upd (upd (upd H1 la (.lst [])) lb (.lst (ks.map fun p => V.ref p.2))) T1 (.tup [.ref la, .ref lb])) fo (.lst [.ref T1]) := ⟨_, rfl⟩
    have k5 : ∀ c u, c ≠ fo → H c = some u → H5 c = some u := fun c u n z => by rw [hH5, upd_ne n]; exact st _ _ (k1 c u n z)
    have tt5 : Tups H H5 := by rw [hH5]; exact (t1.trans (Tups.of st)).trans t5
    have fk5 : FkAt K H5 fo [.ref T1] .els := by
      rw [hH5]
      refine ⟨T1, la, lb, rfl, sqt_tups t5 (SqT.of upd_same), ?_, ?_, nlaf, nlbf⟩
      · exact ⟨[], by rw [upd_ne nlaf, upd_ne nT1a.symm, upd_ne nlba.symm, upd_same], (by show 0 ≤ 1; decide), fun v hv => by cases hv⟩
      · exact wlb.keep (by rw [upd_ne nlbf, upd_ne nT1b.symm]) ((tups_new nT1).trans t5)
    have f5 : H5 fo = some (.lst [.ref T1]) := by rw [hH5]; exact upd_same
    have b5 : Bt wk fo H H5 := by rw [hH5]; exact (b1'.trans (Bt.of st)).trans Bt.r
    subst hH5
    refine ⟨_, rfl, l1, rfl, ⟨xs1, SqL.of (k5 _ _ n1 e1)⟩, ?_⟩
    refine fun D nD sm => ndc_id (i := 5) (k5 _ _ n1 e1) (fun v hv => NV.keep tt5 _ _ (w1 v hv)) nD sm (fun v => rfl) (fun v => rfl) fun G2 js s2 N j0 j1 => ?_
    refine ⟨_, rfl, wk, C, dx, _, rfl, s2 _ _ (k5 _ _ nwf h1), T.cl, T.nw, (by show 5 < 1000; decide), q _ ((b5.trans (Bt.of s2)).trans Bt.l) ?_⟩
    exact WS.ways (s2 _ _ (k5 _ _ nwf h1)) (s2 _ _ (k5 _ _ ne.symm h2)) (s2 _ _ f5) (fk5.move (Tups.of s2) fun l ys _ z => s2 _ _ z) ne N j0 j1
  · obtain ⟨T0, l1, l2, rfl, hT0, ⟨xs1, e1, c1, w1⟩, ⟨xs2, e2, c2, w2⟩, n1, n2⟩ : ∃ T l1 l2, fs = [.ref T] ∧ SqT K H T [.ref l1, .ref l2] ∧ WL K H 1 l1 ∧ WL K H 1 l2 ∧ l1 ≠ fo ∧ l2 ≠ fo := by
      cases o with
      | no => exact absurd rfl hno
      | yes => exact h7
      | els => exact h7
    refine ⟨_, rfl, r, CR, dxr, _, _, rfl, er, R.cl, R.nw, rfl, rfl, _, rfl, iteBF (by decide +kernel) ?_⟩
    refine ⟨_, rfl, r, CR, dxr, _, _, rfl, er, R.cl, R.nw, rfl, rfl, _, rfl, iteBF (by decide +kernel) ?_⟩
    refine ⟨_, rfl, wk, C, dx, _, _, rfl, h1, T.cl, T.nf, rfl, .inl ⟨rfl, _, SqL.of h6⟩, fo, _, .ref T0, rfl, rfl, h6, rfl, ?_⟩
    obtain ⟨H1, hH1⟩ : ∃ H1, H1 = upd H fo (.lst (([.ref T0] : List V).dropLast)) := ⟨_, rfl⟩
    have t1 : Tups H H1 := by rw [hH1]; exact tups_lst h6
    have k1 : ∀ c u, c ≠ fo → H c = some u → H1 c = some u := fun c u n z => by rw [hH1, upd_ne n]; exact z
    have f1 : H1 fo = some (.lst []) := by rw [hH1]; exact upd_same
    have b1' : Bt wk fo H H1 := by rw [hH1]; exact Bt.r
    have ND1 : ND P w K H1 wy ks := nd_move h3 (by rw [hH1]; exact upd_ne nyf) t1
    rw [← hH1]
    clear hH1
    refine ⟨T0, _, rfl, sqt_tups t1 hT0, rfl, _, _, rfl, _, _, rfl, rfl, ?_⟩
    refine ⟨_, rfl, wk, C, dx, _, _, rfl, k1 _ _ nwf h1, T.cl, T.nw, rfl, wy, ks, rfl, ND1, fun l nl => ?_⟩
    have wl := wl_mem (ways_wl ND1 h4 h5 nl) upd_same
    have sl := new_same (o := .lst (ks.map fun p => V.ref p.2)) nl
    have lk : (ks.map fun p => V.ref p.2).length ≤ 1 := wl.1
    refine ⟨_, rfl, l, l1, _, _, rfl, rfl, upd_same, sl _ _ (k1 _ _ n1 e1), Nat.le_trans (Nat.add_le_add lk c1) (by decide), fun p np => ?_⟩
    have sp := same_new (o := .lst ((ks.map fun p => V.ref p.2) ++ xs1)) sl np
    refine ⟨_, rfl, p, l2, _, _, rfl, rfl, upd_same, sp _ _ (k1 _ _ n2 e2), (by rw [List.length_append]; exact Nat.le_trans (Nat.add_le_add (Nat.add_le_add lk c1) c2) (by decide)), fun p2 np2 => ?_⟩
    have sp2 := same_new (o := .lst (((ks.map fun p => V.ref p.2) ++ xs1) ++ xs2)) sp np2
    have tt := (tups_new nl (o := .lst (ks.map fun p => V.ref p.2))).trans ((tups_new np (o := .lst ((ks.map fun p => V.ref p.2) ++ xs1))).trans (tups_new np2 (o := .lst (((ks.map fun p => V.ref p.2) ++ xs1) ++ xs2))))
    refine ⟨p2, rfl, ⟨_, SqL.of upd_same⟩, fun D nD sm => ndc_id (i := 5) upd_same (fun v hv => ?_) nD sm (fun v => rfl) (fun v => rfl) fun G2 js s2 N j0 j1 => ?_⟩
    · rcases List.mem_append.mp hv with hv | hv
      · rcases List.mem_append.mp hv with hv | hv
        · exact NV.keep ((tups_new np).trans (tups_new np2)) _ _ (wl.2 v hv)
        · exact NV.keep (t1.trans tt) _ _ (w1 v hv)
      · exact NV.keep (t1.trans tt) _ _ (w2 v hv)
    · have s12 := sp2.trans s2
      refine ⟨_, rfl, wk, C, dx, _, rfl, s12 _ _ (k1 _ _ nwf h1), T.cl, T.nw, (by show 5 < 1000; decide), q _ ((b1'.trans (Bt.of s12)).trans Bt.l) ?_⟩
      exact WS.ways (s12 _ _ (k1 _ _ nwf h1)) (s12 _ _ (k1 _ _ ne.symm h2)) (s12 _ _ f1) rfl ne N j0 j1
end
end H2
namespace H2
open PySem PySem.Spec PyProof.Rows L2 Hx Nd Dun
section
variable {P : Program} {w : World} {K : PySem.W.Frag} {mg : Str → Option Value} {base : Heap} {D : Addr}
/-! #### step -/
abbrev psST : List Str := ["self", "line", "row"]
def spStep (P : Program) (w : World) (K : PySem.W.Frag) (C CR : Addr) : Sp := fun vs H Q _ => ∃ (wk br fo r : Addr) (kd n : V) (t : Tk) (o o' : On), vs = [.ref wk, n, .ref r] ∧ RowAt K CR H r t ∧ stp o t = some o' ∧ WS P w K C H wk br fo kd o ∧ ∀ H', Bt wk fo H H' → WS P w K C H' wk br fo kd o' → Q .non H'
theorem ok_step {C CR fI tt aL : Addr} {m : Nat → Addr} (T : WalkT K mg C m) (R : RowT K mg CR fI tt) (cL : TupT K mg "LOOPS" aL loopsV) {d4 d5 : FuncData}
    (F4 : Fun K "fork" "Walk.fork" s_Walk_fork (m 4) d4) (b4 : Binds K d4 psFK []) (G4 : FnOk P w K mg base CX0 2 (m 4) d4 psFK (spFork P w K C CR))
    (F5 : Fun K "pass_line" "Walk.pass_line" s_Walk_pass_line (m 5) d5) (b5 : Binds K d5 psPL []) (G5 : FnOk P w K mg base CX0 2 (m 5) d5 psPL (spPass P w K C)) :
    ∃ fd, Fun K "step" "Walk.step" s_Walk_step (m 1) fd ∧ Binds K fd psST [] ∧ FnOk P w K mg base CX0 3 (m 1) fd psST (spStep P w K C CR) := by
  obtain ⟨fd, F, b⟩ := T.f1.fn
  refine ⟨fd, F, b, F.ok c_Walk_step (fun vs H Q E h => ?_) (fun cdv A outer s H vs Q E hr h => ?_)⟩
  · obtain ⟨wk, br, fo, r, kd, n, t, o, o', rfl, _⟩ := h
    rfl
  obtain ⟨wk, br, fo, r, kd, n, t, o, o', rfl, hrow, hst, hw, q⟩ := h
  refine ⟨_, pss_one (ps_if (pt_cmpR op_in_seq (pe_fld (pv 2) rfl) (pe_glob (v := .ref aL) rfl cL.g rfl) rfl) (pss_one ps_never)
    (pss_one (ps_if (pt_cmpR op_ne (pe_fld (pv 2) rfl) pe_str (nomark _)) (pss_one ps_never)
    (pss_one (ps_if (pt_cmpR op_in_seq (pe_fld (pv 2) rfl) (pe_tup (pa_cons pe_str (pa_cons pe_str (pa_cons pe_str pa_nil)))) rfl) (pss_one (ps_expr (pe_meth (pv 0) T.cl T.f4.m G4 hr b4 .nil pass0 (pa_cons (pv 1) (pa_cons (pv 2) pa_nil)))))
      (pss_one (ps_expr (pe_meth (pv 0) T.cl T.f5.m G5 hr b5 .nil pass0 (pa_cons (pv 1) (pa_cons (pe_fld (pv 2) rfl) pa_nil)))))))))), ?_⟩
  obtain ⟨⟨dx, wy, ks, fs, h1, h2, h3, h4, h5, h6, h7⟩, ne⟩ := id hw
  obtain ⟨dxr, ttr, nu, er, ht⟩ := id hrow
  have cls : inV (V.str t.word) loopsV = false ∧ ((inV (V.str t.word) [.str "if", .str "else", .str "end"] = true ∧ (t.word = "if" ∧ (t = .ifi ∨ t = .ifb) ∧ o = .no ∧ o' = .yes ∨ t = .els ∧ o = .yes ∧ o' = .els ∨ t = .fin ∧ o ≠ .no ∧ o' = .no)) ∨ (inV (V.str t.word) [.str "if", .str "else", .str "end"] = false ∧ t.word ∈ freeW ∧ o' = o)) := by
    cases t with
    | tell => cases hst; exact ⟨by decide +kernel, .inr ⟨by decide +kernel, by decide +kernel, rfl⟩⟩
    | grab => cases hst; exact ⟨by decide +kernel, .inr ⟨by decide +kernel, by decide +kernel, rfl⟩⟩
    | note => cases hst; exact ⟨by decide +kernel, .inr ⟨by decide +kernel, by decide +kernel, rfl⟩⟩
    | quit => cases hst; exact ⟨by decide +kernel, .inr ⟨by decide +kernel, by decide +kernel, rfl⟩⟩
    | ifi => cases o <;> cases hst; exact ⟨by decide +kernel, .inl ⟨by decide +kernel, .inl ⟨rfl, .inl rfl, rfl, rfl⟩⟩⟩
    | ifb => cases o <;> cases hst; exact ⟨by decide +kernel, .inl ⟨by decide +kernel, .inl ⟨rfl, .inr rfl, rfl, rfl⟩⟩⟩
    | els => cases o <;> cases hst; exact ⟨by decide +kernel, .inl ⟨by decide +kernel, .inr (.inl ⟨rfl, rfl, rfl⟩)⟩⟩
    | fin =>
      cases o with
      | no => cases hst
      | yes => cases hst; exact ⟨by decide +kernel, .inl ⟨by decide +kernel, .inr (.inr ⟨rfl, (fun z => by cases z), rfl⟩)⟩⟩
      | els => cases hst; exact ⟨by decide +kernel, .inl ⟨by decide +kernel, .inr (.inr ⟨rfl, (fun z => by cases z), rfl⟩)⟩⟩
  obtain ⟨c1, c2⟩ := cls
  refine ⟨_, rfl, r, CR, dxr, _, _, rfl, er, R.cl, R.nw, rfl, aL, _, rfl, .inr (cL.s _), rfl, rfl, _, rfl, iteBF c1 ?_⟩
  refine ⟨_, rfl, r, CR, dxr, _, _, rfl, er, R.cl, R.np, rfl, rfl, _, rfl, iteBF (by decide +kernel) ?_⟩
  refine ⟨_, rfl, r, CR, dxr, _, _, rfl, er, R.cl, R.nw, rfl, (by show 3 ≤ sizeLine; decide), fun u nu => ⟨u, _, rfl, .inr (SqT.of upd_same), rfl, rfl, _, rfl, ?_⟩⟩
  have su := new_same (o := .tup [.str "if", .str "else", .str "end"]) nu
  rcases c2 with ⟨c3, hot⟩ | ⟨c3, hf, rfl⟩
  · refine iteBT c3 ?_
    exact ⟨_, rfl, wk, dx, _, rfl, su _ _ h1, rfl, _, rfl, _, rfl, wk, br, fo, r, kd, n, t, o, o', rfl, hrow.keep su, hot, hw.keep su, fun H' bt w' => q H' ((Bt.of su).trans bt) w'⟩
  · refine iteBF c3 ?_
    exact ⟨_, rfl, wk, dx, _, rfl, su _ _ h1, rfl, _, rfl, _, rfl, r, CR, dxr, _, _, rfl, su _ _ er, R.cl, R.nw, rfl, wk, br, fo, kd, n, t.word, o', rfl, hf, hw.keep su, fun H' bt w' => q H' ((Bt.of su).trans bt) w'⟩
/-! #### least_break -/
abbrev psLB : List Str := ["kind", "rows"]
def spLeast (K : PySem.W.Frag) (CR : Addr) : Sp := fun vs H Q _ => ∃ (l : Addr) (kd : V) (rs : List Addr) (ts : List Tk), vs = [kd, .ref l] ∧ H l = some (.lst (rs.map V.ref)) ∧ rs.length = ts.length ∧ RowsAt K CR H rs ts ∧ run .no ts = some .no ∧ ∀ H', Same H H' → Q .non H'
theorem Bt.same {a b : Addr} {H0 H H' : Hp} (x : Bt a b H H') (s : Same H0 H) (na : H0 a = none) (nb : H0 b = none) : Same H0 H' := fun c u z => x c u (fun e => by rw [e, na] at z; cases z) (fun e => by rw [e, nb] at z; cases z) (s c u z)
theorem ok_least {f C CR fI tt aF : Addr} {m : Nat → Addr} (T0 : FT K mg "least_break" s_least_break psLB f) (T : WalkT K mg C m) (R : RowT K mg CR fI tt) (cF : FreshT K mg aF) (lst : mg "list" = none) (enu : mg "enumerate" = none) (mn : mg "min" = none) {d1 : FuncData}
    (F1 : Fun K "step" "Walk.step" s_Walk_step (m 1) d1) (b1 : Binds K d1 psST []) (G1 : FnOk P w K mg base CX0 3 (m 1) d1 psST (spStep P w K C CR)) :
    ∃ fd, Fun K "least_break" "least_break" s_least_break f fd ∧ Binds K fd psLB [] ∧ FnOk P w K mg base CX0 4 f fd psLB (spLeast K CR) := by
  obtain ⟨fd, F, b⟩ := T0.fn
  obtain ⟨d6, F6, b6, G6⟩ := ok_end (P := P) (w := w) (base := base) T lst
  obtain ⟨d0, F0, b0⟩ := T.f0
  refine ⟨fd, F, b, F.ok c_least_break (fun vs H Q E h => ?_) (fun cdv A outer s H vs Q E hr h => ?_)⟩
  · obtain ⟨l, kd, rs, ts, rfl, _⟩ := h
    rfl
  obtain ⟨l, kd, rs, ts, rfl, hl, hlen, hrow, hrun, q⟩ := h
  refine ⟨_, pss_cons (ps_set (i := 2) c_least_break.nd rfl (Or.inl rfl) (pe_make T.mak (ok_Walk T cF F0) (hr.mono (by decide)) rfl T.g b0 .nil pass0 (pa_cons (pv 0) pa_nil)))
    (pss_cons (ps_for PassesOwn.never rfl (Nd.pi_from enu (by decide) (by decide) (pa_cons (pv 1) pa_nil)) (pg_tup rfl (pgs_cons (pg_name (i := 3) c_least_break.nd rfl (Or.inl rfl)) (pgs_cons (pg_name (i := 4) c_least_break.nd rfl (Or.inl rfl)) pgs_nil)))
      (pss_one (ps_expr (pe_meth (pv 2) T.cl T.f1.m G1 hr b1 .nil pass0 (pa_cons (pv 3) (pa_cons (pv 4) pa_nil))))))
    (pss_cons (ps_expr (pe_meth0 (pv 2) T.cl T.f6.m G6 (hr.mono (by decide)) b6 .nil pass0))
    (pss_one (ps_ret (pe_callBK (Nd.call_min0 rfl hr.units) rfl mn (by decide +kernel) (pa_cons (pe_fld (pv 2) rfl) pa_nil) (pk_cons pe_non pk_nil)))))), ?_⟩
  refine ⟨_, rfl, fun wk dx nwk nd nw => ⟨wk, dx, kd, rfl, upd_same, fun H1 br fo b1' nbr nfo w1 => ⟨rfl, ?_⟩⟩⟩
  have nwk' : upd H dx (.own wk) wk = none := by rw [upd_ne nw.symm]; exact nwk
  have sH : Same H (upd (upd H dx (.own wk)) wk (.ins C dx [])) := same_new (new_same nd) nwk'
  have s1 : Same H H1 := fun c u z => b1' c u (ne_of_none z nwk) (sH c u z)
  have nfoH : H fo = none := free_same sH nfo
  refine ⟨_, rfl, l, _, rfl, SqL.of (s1 _ _ hl), for_from (K := K) (a := l) (xs := rs.map V.ref) (fun i σ G => ∃ (o : On) (v3 v4 : Option V), σ = [some kd, some (.ref l), some (.ref wk), v3, v4] ∧ Same H G ∧ WS P w K C G wk br fo kd o ∧ run o (ts.drop i) = some .no)
    ⟨.no, none, none, rfl, s1, w1, hrun⟩ ?_ ?_ ?_⟩
  · rintro i σ G _ ⟨o, v3, v4, rfl, sG, _⟩
    exact SqL.of (sG _ _ hl)
  · rintro i x σ G Tp hi ⟨o, v3, v4, rfl, sG, wG, hrun⟩ nT
    rw [List.getElem?_map] at hi
    cases hri : rs[i]? with
    | none => rw [hri] at hi; cases hi
    | some r =>
      rw [hri] at hi
      cases hi
      have hlt : i < ts.length := by rw [← hlen]; exact (List.getElem?_eq_some_iff.mp hri).1
      have hti : ts[i]? = some ts[i] := List.getElem?_eq_getElem hlt
      have hd : ts.drop i = ts[i] :: ts.drop (i + 1) := List.drop_eq_getElem_cons hlt
      rw [hd] at hrun
      obtain ⟨o', hst, hrun'⟩ := Option.bind_eq_some_iff.mp hrun
      have sT := new_same (o := .tup [.int (1 + (i : Int)), .ref r]) nT
      obtain ⟨⟨dxw, wy, ks, fs, h1, _⟩, _⟩ := id wG
      refine ⟨Tp, _, rfl, SqT.of upd_same, rfl, _, _, rfl, _, _, rfl, rfl, ?_⟩
      refine ⟨_, rfl, wk, dxw, _, rfl, sT _ _ h1, rfl, _, rfl, _, rfl, wk, br, fo, r, kd, _, ts[i], o, o', rfl, (hrow i r _ hri hti).keep (sG.trans sT), hst, wG.keep sT, fun G2 bt w2 => ?_⟩
      exact ⟨o', _, _, rfl, bt.same (sG.trans sT) nwk nfoH, w2, hrun'⟩
  · rintro σ G ⟨o, v3, v4, rfl, sG, wG, hrun⟩
    obtain ⟨⟨dxw, wy, ks, fs, h1, _⟩, _⟩ := id wG
    refine ⟨_, rfl, wk, dxw, _, rfl, h1, rfl, wk, br, fo, kd, o, rfl, wG, fun G2 bt w2 => ?_⟩
    obtain ⟨⟨dxw, wy, ks, fs, h1, h2, _⟩, _⟩ := id w2
    exact ⟨_, rfl, wk, C, dxw, _, _, rfl, h1, T.cl, T.nb, rfl, br, .non, rfl, rfl, SqL.of h2, q _ (bt.same sG nwk nfoH)⟩
end
end H2
namespace H2
open PySem PySem.Spec PyProof.Rows L2 Hx Nd Dun
section
variable {P : Program} {w : World} {K : PySem.W.Frag} {mg : Str → Option Value} {base : Heap} {D : Addr}
/-! ### what the flow's parts need -/
theorem strV {a b : Str} : decide (V.str a = V.str b) = decide (a = b) := by
  by_cases h : a = b
  · rw [h]; simp
  · rw [decide_eq_false h, decide_eq_false fun z => h (V.str.inj z)]
theorem if_with {c : TT} {t u : TS} {D : Ends} {σ : L2.St} {H : Hp} {S : Hp → Prop} (h0 : ∀ G, S G → u D σ G) (h : (∀ G, S G → u D σ G) → tIfS c t u D σ H) : tIfS c t u D σ H := h h0
def isLoop (x : Str) : Bool := inV (.str x) loopsV
theorem big {n : Nat} (h : n ≤ 4000000) : n < sizeLine := Nat.lt_of_le_of_lt h (by decide)
theorem made_row {H G : Hp} {C p dx : Addr} (s : Same H G) (np : G p = none) (nd : G dx = none) (ne : dx ≠ p) {o : HO} : Same H (upd (upd G dx (.own p)) p o) := same_new (same_new s nd) (by rw [upd_ne ne.symm]; exact np)
theorem iteB {b : Bool} {A B : Prop} (h1 : b = true → A) (h2 : b = false → B) : if b = true then A else B := by
  cases b with
  | true => exact h1 rfl
  | false => exact h2 rfl
end
end H2
namespace H2
open PySem PySem.Spec PyProof.Rows L2 Hx Nd Dun
section
variable {P : Program} {w : World} {K : PySem.W.Frag} {mg : Str → Option Value} {base : Heap} {D : Addr}
/-! ### the blocks of a text, as depths -/
def balF : Nat → List Str → Option Nat
  | d, [] => some d
  | d, x :: r => if (decide (x = "if") || isLoop x) = true then balF (d + 1) r
      else if x = "else" then (if d = 0 then none else balF d r)
      else if x = "end" then (if d = 0 then none else balF (d - 1) r)
      else balF d r
/-! ### the dicts of blocks -/
abbrev kI (n : Nat) : Key := Sum.inl (n : Int)
theorem valV_mem {kvs : List (Key × V)} {k : Key} {v : V} : valV kvs k = some v → (k, v) ∈ kvs := by
  induction kvs with
  | nil => intro h; rw [valV_nil] at h; cases h
  | cons p r ih =>
    intro h
    by_cases e : p.1 = k
    · rw [valV_pos e] at h
      cases h
      rw [← e]
      exact List.mem_cons_self
    · rw [valV_neg e] at h
      exact List.mem_cons_of_mem _ (ih h)
theorem mem_put {kvs : List (Key × V)} {k : Key} {v : V} {kv : Key × V} (h : kv ∈ putK kvs k v) : kv ∈ kvs ∨ kv = (k, v) := by
  unfold putK at h
  split at h
  · obtain ⟨z, hz, rfl⟩ := List.mem_map.mp h
    split
    · rename_i c
      exact .inr (by rw [c])
    · exact .inl hz
  · rcases List.mem_append.mp h with h | h
    · exact .inl h
    · exact .inr (List.mem_singleton.mp h)
theorem put_len {kvs : List (Key × V)} {k : Key} {v : V} : (putK kvs k v).length ≤ kvs.length + 1 := by
  unfold putK
  split
  · rw [List.length_map]; omega
  · rw [List.length_append]; exact Nat.le_refl _
structure BI (i : Nat) (hk ek : List (Key × V)) (os : List Nat) : Prop where
  hh : ∀ kv ∈ hk, ∃ jn hn : Nat, kv = (kI jn, .int (hn : Int)) ∧ jn < i ∧ hn < i ∧ (hn ∈ os ∨ ∃ en : Nat, valV ek (kI hn) = some (.int (en : Int)) ∧ jn ≤ en ∧ en < i)
  ee : ∀ kv ∈ ek, ∃ hn en : Nat, kv = (kI hn, .int (en : Int)) ∧ hn < i ∧ en < i
  oo : ∀ h ∈ os, h < i
  hl : hk.length ≤ i
  el : ek.length ≤ i
  ol : os.length ≤ i
theorem BI.start : BI 0 [] [] [] := ⟨fun _ h => (List.not_mem_nil h).elim, fun _ h => (List.not_mem_nil h).elim, fun _ h => (List.not_mem_nil h).elim, Nat.le_refl _, Nat.le_refl _, Nat.le_refl _⟩
section
variable {i : Nat} {hk ek : List (Key × V)} {os : List Nat} {h : Nat}
theorem BI.skip (b : BI i hk ek os) : BI (i + 1) hk ek os := by
  refine ⟨fun kv hkv => ?_, fun kv hkv => ?_, fun h hh => ?_, Nat.le_succ_of_le b.hl, Nat.le_succ_of_le b.el, Nat.le_succ_of_le b.ol⟩
  · obtain ⟨jn, hn, e, h1, h2, h3⟩ := b.hh kv hkv
    exact ⟨jn, hn, e, by omega, by omega, h3.elim .inl fun ⟨en, a, c, d⟩ => .inr ⟨en, a, c, by omega⟩⟩
  · obtain ⟨hn, en, e, h1, h2⟩ := b.ee kv hkv
    exact ⟨hn, en, e, by omega, by omega⟩
  · have := b.oo h hh
    omega
theorem BI.push (b : BI i hk ek os) : BI (i + 1) hk ek (os ++ [i]) := by
  have c := b.skip
  refine ⟨fun kv hkv => ?_, c.ee, fun h hh => ?_, c.hl, c.el, by rw [List.length_append]; exact Nat.succ_le_succ b.ol⟩
  · obtain ⟨jn, hn, e, h1, h2, h3⟩ := c.hh kv hkv
    exact ⟨jn, hn, e, h1, h2, h3.elim (fun z => .inl (List.mem_append_left _ z)) .inr⟩
  · rcases List.mem_append.mp hh with hh | hh
    · exact c.oo h hh
    · rw [List.mem_singleton.mp hh]; omega
theorem BI.other (b : BI i hk ek (os ++ [h])) : BI (i + 1) (putK hk (kI i) (.int (h : Int))) ek (os ++ [h]) := by
  have c := b.skip
  have hi := b.oo h (List.mem_append_right _ List.mem_cons_self)
  refine ⟨fun kv hkv => ?_, c.ee, c.oo, Nat.le_trans put_len (Nat.succ_le_succ b.hl), c.el, c.ol⟩
  rcases mem_put hkv with hkv | hkv
  · exact c.hh kv hkv
  · exact ⟨i, h, hkv, by omega, by omega, .inl (List.mem_append_right _ List.mem_cons_self)⟩
theorem BI.close (b : BI i hk ek (os ++ [h])) : BI (i + 1) (putK hk (kI i) (.int (h : Int))) (putK ek (kI h) (.int (i : Int))) os := by
  have c := b.skip
  have hi := b.oo h (List.mem_append_right _ List.mem_cons_self)
  have hol := b.ol
  rw [List.length_append] at hol
  have hv : valV (putK ek (kI h) (.int (i : Int))) (kI h) = some (.int (i : Int)) := by rw [valV_put, if_pos rfl]
  refine ⟨fun kv hkv => ?_, fun kv hkv => ?_, fun z hz => c.oo z (List.mem_append_left _ hz), Nat.le_trans put_len (Nat.succ_le_succ b.hl), Nat.le_trans put_len (Nat.succ_le_succ b.el), by omega⟩
  · rcases mem_put hkv with hkv | hkv
    · obtain ⟨jn, hn, e, h1, h2, h3⟩ := b.hh kv hkv
      refine ⟨jn, hn, e, by omega, by omega, ?_⟩
      by_cases hz : hn = h
      · rw [hz]
        exact .inr ⟨i, hv, by omega, by omega⟩
      · rcases h3 with h3 | ⟨en, a, c, d⟩
        · rcases List.mem_append.mp h3 with h3 | h3
          · exact .inl h3
          · exact absurd (List.mem_singleton.mp h3) hz
        · refine .inr ⟨en, ?_, c, by omega⟩
          rw [valV_put, if_neg ?_]
          · exact a
          · intro z
            have := Sum.inl.inj z
            omega
    · exact ⟨i, h, hkv, by omega, by omega, .inr ⟨i, hv, Nat.le_refl _, by omega⟩⟩
  · rcases mem_put hkv with hkv | hkv
    · exact c.ee kv hkv
    · exact ⟨h, i, hkv, by omega, by omega⟩
end
/-- what the dicts tell of n rows -/
structure FlowOk (n : Nat) (hk ek : List (Key × V)) : Prop where
  hh : ∀ kv ∈ hk, ∃ jn hn en : Nat, kv = (kI jn, .int (hn : Int)) ∧ jn < n ∧ hn < n ∧ valV ek (kI hn) = some (.int (en : Int)) ∧ jn ≤ en ∧ en < n
  ee : ∀ kv ∈ ek, ∃ hn en : Nat, kv = (kI hn, .int (en : Int)) ∧ hn < n ∧ en < n
theorem BI.done {i : Nat} {hk ek : List (Key × V)} (b : BI i hk ek []) : FlowOk i hk ek := by
  refine ⟨fun kv hkv => ?_, b.ee⟩
  obtain ⟨jn, hn, e, h1, h2, h3⟩ := b.hh kv hkv
  rcases h3 with h3 | ⟨en, a, c, d⟩
  · cases h3
  · exact ⟨jn, hn, en, e, h1, h2, a, c, d⟩
end
end H2
namespace H2
open PySem PySem.Spec PyProof.Rows L2 Hx Nd Dun
section
variable {P : Program} {w : World} {K : PySem.W.Frag} {mg : Str → Option Value} {base : Heap} {D : Addr}
/-! ### match_blocks -/
/-- a row with this word -/
def RowW (K : PySem.W.Frag) (C : Addr) (H : Hp) (r : Addr) (x : Str) : Prop := ∃ (dx : Addr) (fs : List (Str × V)), H r = some (.ins C dx fs) ∧ fs.lookup ("word" : Str) = some (V.str x)
def RowsW (K : PySem.W.Frag) (C : Addr) (H : Hp) (rs : List Addr) (wr : List Str) : Prop := rs.length = wr.length ∧ ∀ (i : Nat) (r : Addr) (x : Str), rs[i]? = some r → wr[i]? = some x → RowW K C H r x
theorem RowW.keep {C r : Addr} {x : Str} {H H' : Hp} (h : RowW K C H r x) (e : Same H H') : RowW K C H' r x := by
  obtain ⟨dx, fs, h1, h2⟩ := h
  exact ⟨dx, fs, e _ _ h1, h2⟩
theorem RowsW.keep {C : Addr} {rs : List Addr} {wr : List Str} {H H' : Hp} (h : RowsW K C H rs wr) (e : Same H H') : RowsW K C H' rs wr := ⟨h.1, fun i r x a b => (h.2 i r x a b).keep e⟩
def intsN (os : List Nat) : List V := os.map fun (n : Nat) => V.int (n : Int)
def spMB (K : PySem.W.Frag) (C : Addr) : Sp := fun vs H Q _ => ∃ (t : Addr) (rs : List Addr) (wr : List Str), vs = [.ref t] ∧ SqT K H t (rs.map V.ref) ∧ RowsW K C H rs wr ∧ wr.length ≤ 900 ∧ balF 0 wr = some 0 ∧
  ∀ H' t' he en hk ek, Same H H' → SqT K H' t' [.ref he, .ref en] → H' he = some (.dK hk) → H' en = some (.dK ek) → he ≠ en → H he = none → H en = none → FlowOk rs.length hk ek → Q (.ref t') H'
theorem ok_mb {f CR fI tt aL : Addr} (T : FT K mg "match_blocks" s_match_blocks ["rows"] f) (R : RowT K mg CR fI tt) (cL : TupT K mg "LOOPS" aL loopsV) (enu : mg "enumerate" = none) :
    ∃ fd, Fun K "match_blocks" "match_blocks" s_match_blocks f fd ∧ Binds K fd ["rows"] [] ∧ FnOk P w K mg base CX0 1 f fd ["rows"] (spMB K CR) := by
  obtain ⟨fd, F, b⟩ := T.fn
  refine ⟨fd, F, b, F.ok c_match_blocks (fun vs H Q E h => ?_) (fun cdv A outer s H vs Q E hr h => ?_)⟩
  · obtain ⟨t, rs, wr, rfl, _⟩ := h
    rfl
  obtain ⟨t, rs, wr, rfl, ht, hrs, hlen, hbal, q⟩ := h
  have hu := hu_of hr
  refine ⟨_, pss_cons (ps_set (i := 1) c_match_blocks.nd rfl (Or.inl rfl) pe_dnewK) <| pss_cons (ps_set (i := 2) c_match_blocks.nd rfl (Or.inl rfl) pe_dnewK) <| pss_cons (ps_set (i := 3) c_match_blocks.nd rfl (Or.inl rfl) (pe_lst pa_nil)) <|
    pss_cons (ps_for PassesOwn.never rfl (Nd.pi_enumT (by rfl) enu (pa_cons (pv 0) pa_nil)) (pg_tup rfl (pgs_cons (pg_name (i := 4) c_match_blocks.nd rfl (Or.inl rfl)) (pgs_cons (pg_name (i := 5) c_match_blocks.nd rfl (Or.inl rfl)) pgs_nil)))
      (pss_one (ps_if (PW.pt (pw_or (pt_cmpR op_eq (pe_fld (pv 5) rfl) pe_str (nomark _)) (pw_or1 (pt_cmpR op_in_seq (pe_fld (pv 5) rfl) (pe_glob (v := .ref aL) rfl cL.g rfl) rfl))))
        (pss_one (ps_expr (pe_bm PySem.F.plainAttrs_list PySem.F.slot_list_append PySem.F.type_list_append mt_append (pv 3) (pa_cons (pv 4) pa_nil))))
        (pss_one (ps_if (pt_cmpR op_eq (pe_fld (pv 5) rfl) pe_str (nomark _)) (pss_one (ps_dput hu (pv 1) (pv 4) (pe_ix ix_list (pv 3) (pe_un un_neg pe_int) (fun _ _ => rfl)) rfl))
          (pss_one (ps_if (pt_cmpR op_eq (pe_fld (pv 5) rfl) pe_str (nomark _)) (pss_cons (ps_dput hu (pv 1) (pv 4) (pe_bm0 PySem.F.plainAttrs_list PySem.F.slot_list_pop PySem.F.type_list_pop mt_pop (pv 3)) rfl) (pss_one (ps_dput hu (pv 2) (pe_dget hu (pv 1) (pv 4) (fun _ _ => rfl)) (pv 4) rfl))) pss_nil))))))) <|
    pss_one (ps_ret (pe_tup (pa_cons (pv 1) (pa_cons (pv 2) pa_nil)))), ?_⟩
  refine fun he nhe => fun en nen => ⟨Nat.zero_le _, fun op nop => ?_⟩
  obtain ⟨nen1, nee⟩ := free_upd nen
  obtain ⟨nop1, nope⟩ := free_upd nop
  obtain ⟨nop2, noph⟩ := free_upd nop1
  have s3 : Same H (upd (upd (upd H he (.dK [])) en (.dK [])) op (.lst [])) := same_new (same_new (new_same nhe) nen) nop
  refine ⟨_, rfl, t, _, rfl, sqt_same s3 ht, Nd.for_enumT (K := K) (a := t) (xs := rs.map V.ref) (fun i σ G => ∃ (hk ek : List (Key × V)) (os : List Nat) (v4 v5 : Option V), σ = [some (.ref t), some (.ref he), some (.ref en), some (.ref op), v4, v5] ∧ Same H G ∧ G he = some (.dK hk) ∧ G en = some (.dK ek) ∧ G op = some (.lst (intsN os)) ∧ BI i hk ek os ∧ balF os.length (wr.drop i) = some 0)
    ⟨[], [], [], none, none, rfl, s3, by rw [upd_ne noph.symm, upd_ne nee.symm, upd_same], by rw [upd_ne nope.symm, upd_same], upd_same, .start, hbal⟩ ?_ ?_ ?_⟩
  · rintro i σ G _ ⟨hk, ek, os, v4, v5, rfl, sG, _⟩
    exact sqt_same sG ht
  · rintro i v σ G T hi ⟨hk, ek, os, v4, v5, rfl, sG, ehe, een, eop, bi, hb⟩ nT
    rw [List.getElem?_map] at hi
    cases hri : rs[i]? with
    | none => rw [hri] at hi; cases hi
    | some r =>
      rw [hri] at hi
      cases hi
      have hil : i < rs.length := (List.getElem?_eq_some_iff.mp hri).1
      have hiw : i < wr.length := by rw [← hrs.1]; exact hil
      obtain ⟨x, hx⟩ : ∃ x, wr[i]? = some x := ⟨_, List.getElem?_eq_getElem hiw⟩
      have hd : wr.drop i = x :: wr.drop (i + 1) := by
        rw [List.drop_eq_getElem_cons hiw, (List.getElem?_eq_some_iff.mp hx).2]
      rw [hd, balF] at hb
      have sT := new_same (o := .tup [.int (i : Nat), .ref r]) nT
      have sGT : Same H (upd G T (.tup [.int (i : Nat), .ref r])) := same_new sG nT
      obtain ⟨dx, fs, hr1, hr2⟩ := (hrs.2 i r x hri hx).keep sGT
      have ehe1 := sT _ _ ehe
      have een1 := sT _ _ een
      have eop1 := sT _ _ eop
      have eT : (upd G T (.tup [.int (i : Nat), .ref r])) T = some (.tup [.int (i : Nat), .ref r]) := upd_same
      generalize upd G T (.tup [.int (i : Nat), .ref r]) = G1 at sGT hr1 ehe1 een1 eop1 eT ⊢
      refine ⟨T, _, rfl, SqT.of eT, rfl, _, _, rfl, _, _, rfl, rfl, ?_⟩
      have nhe1 : he ≠ en := nee.symm
      have nhop : op ≠ he := noph
      have big9 : ∀ {n : Nat}, n ≤ 900 → n < sizeLine := fun h => Nat.lt_of_le_of_lt h (by decide)
      -- the word of the row
      refine ⟨_, rfl, r, CR, dx, fs, _, rfl, hr1, R.cl, R.nw, hr2, rfl, _, rfl, ?_⟩
      rw [strV]
      have push : (decide (x = "if") || isLoop x) = true → BI (i + 1) hk ek (os ++ [i]) ∧ balF (os ++ [i]).length (wr.drop (i + 1)) = some 0 := fun c => by
        rw [if_pos c] at hb
        exact ⟨bi.push, by rw [List.length_append]; exact hb⟩
      have hol : (intsN os).length < sizeLine := by
        unfold intsN
        rw [List.length_map]
        exact big9 (by have := bi.ol; have := hrs.1; omega)
      have appnd : (decide (x = "if") || isLoop x) = true → ∀ G2, Same H G2 → G2 he = some (.dK hk) → G2 en = some (.dK ek) → G2 op = some (.lst (intsN os)) → Same H (upd G2 op (.lst (intsN os ++ [.int (i : Nat)]))) ∧ (upd G2 op (.lst (intsN os ++ [.int (i : Nat)]))) he = some (.dK hk) ∧ (upd G2 op (.lst (intsN os ++ [.int (i : Nat)]))) en = some (.dK ek) ∧ (upd G2 op (.lst (intsN os ++ [.int (i : Nat)]))) op = some (.lst (intsN (os ++ [i]))) := fun _ G2 s2 a1 a2 a3 =>
        ⟨same_out s2 nop2, by rw [upd_ne noph.symm]; exact a1, by rw [upd_ne nope.symm]; exact a2, by rw [upd_same]; unfold intsN; rw [List.map_append]; rfl⟩
      refine iteB (fun h1 => ?_) (fun h1 => ?_)
      · have c : (decide (x = "if") || isLoop x) = true := by rw [h1]; rfl
        obtain ⟨p1, p2⟩ := push c
        obtain ⟨a1, a2, a3, a4⟩ := appnd c G1 sGT ehe1 een1 eop1
        refine ⟨_, rfl, .inl ⟨rfl, _, SqL.of eop1⟩, _, rfl, op, _, _, rfl, rfl, eop1, hol, ?_⟩
        exact ⟨hk, ek, os ++ [i], _, _, rfl, a1, a2, a3, a4, p1, p2⟩
      refine ⟨_, rfl, r, CR, dx, fs, _, rfl, hr1, R.cl, R.nw, hr2, aL, _, rfl, .inr (cL.s _), rfl, rfl, _, rfl, ?_⟩
      refine iteB (fun h2 => ?_) (fun h2 => ?_)
      · have h2' : isLoop x = true := h2
        have c : (decide (x = "if") || isLoop x) = true := by rw [h2', Bool.or_true]
        obtain ⟨p1, p2⟩ := push c
        obtain ⟨a1, a2, a3, a4⟩ := appnd c G1 sGT ehe1 een1 eop1
        refine ⟨_, rfl, .inl ⟨rfl, _, SqL.of eop1⟩, _, rfl, op, _, _, rfl, rfl, eop1, hol, ?_⟩
        exact ⟨hk, ek, os ++ [i], _, _, rfl, a1, a2, a3, a4, p1, p2⟩
      have h2' : isLoop x = false := h2
      have c0 : ¬ (decide (x = "if") || isLoop x) = true := by rw [h1, h2']; decide
      rw [if_neg c0] at hb
      refine ⟨_, rfl, r, CR, dx, fs, _, rfl, hr1, R.cl, R.nw, hr2, rfl, _, rfl, ?_⟩
      rw [strV]
      have hkl : hk.length < sizeLine := big9 (by have := bi.hl; have := hrs.1; omega)
      have ekl : ek.length < sizeLine := big9 (by have := bi.el; have := hrs.1; omega)
      refine iteB (fun h3 => ?_) (fun h3 => ?_)
      · have hx3 : x = "else" := of_decide_eq_true h3
        rw [if_pos hx3] at hb
        by_cases hz : os.length = 0
        · rw [if_pos hz] at hb; cases hb
        rw [if_neg hz] at hb
        obtain ⟨os', h, rfl⟩ : ∃ os' h, os = os' ++ [h] := by
          rcases List.eq_nil_or_concat os with e | ⟨r, z, e⟩
          · rw [e] at hz; exact absurd rfl hz
          · exact ⟨r, z, by rw [e, List.concat_eq_append]⟩
        have hlast : atI (intsN (os' ++ [h])) (-1) = some (.int (h : Int)) := by
          unfold intsN
          rw [List.map_append]
          exact atI_last _ _
        refine ⟨_, rfl, _, rfl, op, _, _, _, rfl, rfl, SqL.of eop1, hlast, _, rfl, _, rfl, he, _, rfl, DPut.k (k := kI i) ehe1 hkl, ?_⟩
        refine ⟨putK hk (kI i) (.int (h : Int)), ek, os' ++ [h], _, _, rfl, same_out sGT nhe, upd_same, by rw [upd_ne nhe1.symm]; exact een1, by rw [upd_ne nhop]; exact eop1, bi.other, hb⟩
      have hx3 : ¬ x = "else" := of_decide_eq_false h3
      rw [if_neg hx3] at hb
      refine ⟨_, rfl, r, CR, dx, fs, _, rfl, hr1, R.cl, R.nw, hr2, rfl, _, rfl, ?_⟩
      rw [strV]
      refine iteB (fun h4 => ?_) (fun h4 => ?_)
      · have hx4 : x = "end" := of_decide_eq_true h4
        rw [if_pos hx4] at hb
        by_cases hz : os.length = 0
        · rw [if_pos hz] at hb; cases hb
        rw [if_neg hz] at hb
        obtain ⟨os', h, rfl⟩ : ∃ os' h, os = os' ++ [h] := by
          rcases List.eq_nil_or_concat os with e | ⟨r, z, e⟩
          · rw [e] at hz; exact absurd rfl hz
          · exact ⟨r, z, by rw [e, List.concat_eq_append]⟩
        have hlen2 : (intsN (os' ++ [h])).length = os'.length + 1 := by unfold intsN; rw [List.length_map, List.length_append]; rfl
        have hget : (intsN (os' ++ [h]))[(intsN (os' ++ [h])).length - 1]? = some (.int (h : Int)) := by
          rw [hlen2, Nat.add_sub_cancel]
          unfold intsN
          rw [List.map_append, List.getElem?_append_right (by rw [List.length_map]; exact Nat.le_refl _), List.length_map, Nat.sub_self]
          rfl
        have hdrop : (intsN (os' ++ [h])).dropLast = intsN os' := by
          unfold intsN
          rw [List.map_append]
          exact List.dropLast_concat
        refine ⟨_, rfl, .inl ⟨rfl, _, SqL.of eop1⟩, op, _, _, rfl, rfl, eop1, hget, ?_⟩
        rw [hdrop]
        have ehe2 : (upd G1 op (.lst (intsN os'))) he = some (.dK hk) := by rw [upd_ne noph.symm]; exact ehe1
        refine ⟨_, rfl, _, rfl, he, _, rfl, DPut.k (k := kI i) ehe2 hkl, ?_⟩
        have hput : valV (putK hk (kI i) (.int (h : Int))) (kI i) = some (.int (h : Int)) := by rw [valV_put, if_pos rfl]
        have een3 : (upd (upd G1 op (.lst (intsN os'))) he (.dK (putK hk (kI i) (.int (h : Int))))) en = some (.dK ek) := by rw [upd_ne nhe1.symm, upd_ne nope.symm]; exact een1
        refine ⟨_, rfl, _, rfl, _, rfl, _, rfl, he, _, rfl, (show DGet _ _ (kV (kI i)) (some (.int (h : Int))) from by rw [← hput]; exact DGet.k upd_same), en, _, rfl, DPut.k (k := kI h) een3 ekl, ?_⟩
        refine ⟨putK hk (kI i) (.int (h : Int)), putK ek (kI h) (.int (i : Int)), os', _, _, rfl, same_out (same_out (same_out sGT nop2) nhe) nen1, by rw [upd_ne nhe1]; exact upd_same, upd_same, by rw [upd_ne nope, upd_ne noph]; exact upd_same, bi.close, ?_⟩
        rw [List.length_append] at hb
        exact hb
      · have hx4 : ¬ x = "end" := of_decide_eq_false h4
        rw [if_neg hx4] at hb
        exact ⟨hk, ek, os, _, _, rfl, sGT, ehe1, een1, eop1, bi.skip, hb⟩
  · rintro σ G ⟨hk, ek, os, v4, v5, rfl, sG, ehe, een, eop, bi, hb⟩
    rw [List.length_map] at hb bi
    rw [hrs.1, List.drop_length, balF] at hb
    have hos : os = [] := List.length_eq_zero_iff.mp (Option.some.inj hb)
    subst hos
    refine ⟨_, rfl, _, rfl, (by show 2 ≤ sizeLine; decide), fun T nT => q _ T he en hk ek (same_new sG nT) (SqT.of upd_same) ((new_same nT) _ _ ehe) ((new_same nT) _ _ een) nee.symm nhe nen1 bi.done⟩
end
end H2
namespace H2
open PySem PySem.Spec PyProof.Rows L2 Hx Nd Dun
section
variable {P : Program} {w : World} {K : PySem.W.Frag} {mg : Str → Option Value} {base : Heap} {D : Addr}
/-! ### Flow -/
structure FlowT (K : PySem.W.Frag) (mg : Str → Option Value) (C : Addr) (m : Nat → Addr) : Prop where
  g : mg "Flow" = some (.ref C)
  mak : Mk K C (m 0)
  cl : Cls K C
  nr : NoAttr K C "rows"
  nz : NoAttr K C "size"
  nh : NoAttr K C "heads"
  ne : NoAttr K C "ends"
  na : NoAttr K C "after"
  no : NoAttr K C "other"
  nl : NoAttr K C "loop_of"
  f0 : ∃ fd, Fun K "__init__" "Flow.__init__" s_Flow_init (m 0) fd ∧ Binds K fd ["self", "rows"] []
  f1 : MT K C "landing" "Flow.landing" s_Flow_landing ["self", "at"] (m 1)
  f2 : MT K C "way_past" "Flow.way_past" s_Flow_way_past ["self", "at"] (m 2)
  f3 : MT K C "find_loops" "Flow.find_loops" s_Flow_find_loops ["self"] (m 3)
structure FlowH (K : PySem.W.Frag) (C CR : Addr) (H : Hp) (p tr he en : Addr) (rs : List Addr) (wr : List Str) (hk ek : List (Key × V)) : Prop where
  o : ∃ (dx : Addr) (fs : List (Str × V)), H p = some (.ins C dx fs) ∧ fs.lookup ("rows" : Str) = some (V.ref tr) ∧ fs.lookup ("size" : Str) = some (V.int (rs.length : Nat)) ∧ fs.lookup ("heads" : Str) = some (V.ref he) ∧ fs.lookup ("ends" : Str) = some (V.ref en) ∧
    fs.lookup ("landing" : Str) = none ∧ fs.lookup ("way_past" : Str) = none ∧ fs.lookup ("find_loops" : Str) = none
  t : SqT K H tr (rs.map V.ref)
  r : RowsW K CR H rs wr
  h : Rd H he (.dK hk)
  e : Rd H en (.dK ek)
  ok : FlowOk rs.length hk ek
section
variable {C CR p tr he en : Addr} {rs : List Addr} {wr : List Str} {hk ek : List (Key × V)} {H H' : Hp}
theorem rd_same {a : Addr} {u : HO} (e : Same H H') (r : Rd H a u) : Rd H' a u := by
  rcases r with r | ⟨o, r⟩
  · exact .inl (e _ _ r)
  · exact .inr ⟨o, e _ _ r⟩
theorem FlowH.keep (h : FlowH K C CR H p tr he en rs wr hk ek) (e : Same H H') : FlowH K C CR H' p tr he en rs wr hk ek := by
  obtain ⟨⟨dx, fs, o1, o2⟩, t, r, h1, h2, ok⟩ := h
  exact ⟨⟨dx, fs, e _ _ o1, o2⟩, sqt_same e t, r.keep e, rd_same e h1, rd_same e h2, ok⟩
/-- while a dict is locked -/
theorem FlowH.frz (h : FlowH K C CR H p tr he en rs wr hk ek) {d : Addr} {kvs : List (Key × V)} (hd : H d = some (.dK kvs)) (od : Obj) : FlowH K C CR (upd H d (.frz od (.dK kvs))) p tr he en rs wr hk ek := by
  obtain ⟨⟨dx, fs, o1, o2⟩, t, r, h1, h2, ok⟩ := h
  have rd : ∀ {a : Addr} {ys : List (Key × V)}, Rd H a (.dK ys) → Rd (upd H d (.frz od (.dK kvs))) a (.dK ys) := fun {a ys} r => by
    by_cases e : a = d
    · subst e
      rcases r with r | ⟨o, r⟩
      · rw [hd] at r; cases r; exact .inr ⟨od, upd_same⟩
      · rw [hd] at r; cases r
    · rcases r with r | ⟨o, r⟩
      · exact .inl (by rw [upd_ne e]; exact r)
      · exact .inr ⟨o, by rw [upd_ne e]; exact r⟩
  have tt : Nd.Tups H (upd H d (.frz od (.dK kvs))) := Nd.Tups.upd fun xs r => by
    rcases r with r | ⟨z, r⟩
    · rw [hd] at r; cases r
    · rw [hd] at r; cases r
  refine ⟨⟨dx, fs, by rw [upd_ne (ne_of o1 hd (by intro z; cases z))]; exact o1, o2⟩, sqt_tups tt t, ⟨r.1, fun i a x e1 e2 => ?_⟩, rd h1, rd h2, ok⟩
  obtain ⟨dx', fs', a1, a2⟩ := r.2 i a x e1 e2
  exact ⟨dx', fs', by rw [upd_ne (ne_of a1 hd (by intro z; cases z))]; exact a1, a2⟩
end
theorem rget {H : Hp} {a : Addr} {kvs : List (Key × V)} {k : Key} (r : Rd H a (.dK kvs)) : DGet H a (kV k) (valV kvs k) := .inl ⟨kvs, k, r, rfl, rfl⟩
def spLand (K : PySem.W.Frag) (C CR : Addr) : Sp := fun vs H Q _ => ∃ (p tr he en : Addr) (rs : List Addr) (wr : List Str) (hk ek : List (Key × V)) (a : Int), vs = [.ref p, .int a] ∧ FlowH K C CR H p tr he en rs wr hk ek ∧ 0 ≤ a ∧ ∀ v : Int, Q (.int v) H
def muL (n : Nat) (σ : L2.St) : Nat := match σ[1]? with
  | some (some (V.int k)) => ((n : Int) - k).toNat
  | _ => 0
theorem ok_landing {C CR fI tt aL : Addr} {m : Nat → Addr} (T : FlowT K mg C m) (R : RowT K mg CR fI tt) (cL : TupT K mg "LOOPS" aL loopsV) :
    ∃ fd, Fun K "landing" "Flow.landing" s_Flow_landing (m 1) fd ∧ Binds K fd ["self", "at"] [] ∧ FnOk P w K mg base CX0 1 (m 1) fd ["self", "at"] (spLand K C CR) := by
  obtain ⟨fd, F, b⟩ := T.f1.fn
  refine ⟨fd, F, b, F.ok c_Flow_landing (fun vs H Q E h => ?_) (fun cdv A outer s H vs Q E hr h => ?_)⟩
  · obtain ⟨p, tr, he, en, rs, wr, hk, ek, a, rfl, _⟩ := h
    rfl
  obtain ⟨p, tr, he, en, rs, wr, hk, ek, a, rfl, hf, ha, q⟩ := h
  have hu := hu_of hr
  refine ⟨_, pss_cons (ps_while PassesOwn.never (PW.pt (pw_and (pt_cmpR op_lt (pv 1) (pe_fld (pv 0) rfl) (nomark _)) (pw_and1 (pt_cmp (pc_din hu (pv 1) (pe_fld (pv 0) rfl))))))
      (pss_cons (ps_set (i := 2) c_Flow_landing.nd rfl (Or.inl rfl) (pe_dget hu (pe_fld (pv 0) rfl) (pv 1) (fun _ _ => rfl))) <|
      pss_cons (ps_if (PW.pt (pw_and (pt_cmpR op_eq (pe_fld (pe_ix ix_tup (pe_fld (pv 0) rfl) (pv 1) (fun _ _ => rfl)) rfl) pe_str (nomark _)) (pw_and1 (pt_cmpR op_in_seq (pe_fld (pe_ix ix_tup (pe_fld (pv 0) rfl) (pv 2) (fun _ _ => rfl)) rfl) (pe_glob (v := .ref aL) rfl cL.g rfl) rfl)))) (pss_one (ps_ret (pv 2))) pss_nil) <|
      pss_one (ps_set (i := 1) c_Flow_landing.nd rfl (Or.inl rfl) (pe_op op_add (pe_dget hu (pe_fld (pv 0) rfl) (pv 2) (fun _ _ => rfl)) pe_int)))) <|
    pss_one (ps_ret (pv 1)), ?_⟩
  obtain ⟨⟨dx, fs, o1, l1, l2, l3, l4, _⟩, ht, hrw, hh, hen, ok⟩ := hf
  have rowAt : ∀ {j : Nat}, j < rs.length → ∃ r x, atI (rs.map V.ref) (j : Int) = some (.ref r) ∧ RowW K CR H r x := fun {j} hj => by
    have hw : j < wr.length := by rw [← hrw.1]; exact hj
    exact ⟨rs[j], wr[j], at_of (j := j) rfl (by rw [List.getElem?_map, List.getElem?_eq_getElem hj]; rfl), hrw.2 j _ _ (List.getElem?_eq_getElem hj) (List.getElem?_eq_getElem hw)⟩
  refine while_by (fun σ G => G = H ∧ ∃ (a : Int) (v2 : Option V), σ = [some (.ref p), some (.int a), v2] ∧ 0 ≤ a) (fun σ _ => muL rs.length σ) ⟨rfl, a, none, rfl, ha⟩ ?_ ?_
  · rintro σ G ⟨rfl, a, v2, rfl, ha⟩
    refine ⟨_, rfl, _, rfl, p, C, dx, fs, _, rfl, o1, T.cl, T.nz, l2, _, _, rfl, rfl, _, rfl, iteB (fun h1 => ?_) (fun h1 => ?_)⟩
    · have han : a < (rs.length : Int) := of_decide_eq_true h1
      obtain ⟨k, rfl⟩ : ∃ k : Nat, a = (k : Int) := ⟨a.toNat, by omega⟩
      refine ⟨_, rfl, _, rfl, p, C, dx, fs, _, rfl, o1, T.cl, T.nh, l3, he, _, rfl, rget (k := kI k) hh, _, rfl, ?_⟩
      cases hv : valV hk (kI k) with
      | none => exact iteF ⟨_, rfl, q _⟩
      | some v =>
        refine iteT ?_
        obtain ⟨jn, hn, e1, heq, hjn, hhn, hev, hje, hen1⟩ := ok.hh _ (valV_mem hv)
        have ejk : jn = k := by
          have := congrArg Prod.fst heq
          have := Sum.inl.inj this
          omega
        have ev : v = .int (hn : Int) := congrArg Prod.snd heq
        subst ev ejk
        refine ⟨_, rfl, p, C, dx, fs, _, rfl, o1, T.cl, T.nh, l3, _, rfl, he, _, rfl, (show DGet _ _ (kV (kI jn)) (some (.int (hn : Int))) from by rw [← hv]; exact rget hh), ?_⟩
        obtain ⟨r1, x1, at1, dx1, fs1, b1, c1⟩ := rowAt hjn
        obtain ⟨r2, x2, at2, dx2, fs2, b2, c2⟩ := rowAt hhn
        unfold gName tSeq
        dsimp only
        refine if_with (S := fun G' => G' = G) (fun G' hG => ?_) (fun alt => ?_)
        · subst hG
          refine ⟨_, rfl, p, C, dx, fs, _, rfl, o1, T.cl, T.ne, l4, _, rfl, en, _, rfl, (show DGet _ _ (kV (kI hn)) (some (.int (e1 : Int))) from by rw [← hev]; exact rget hen), _, _, rfl, rfl, ⟨rfl, (e1 : Int) + 1, _, rfl, by omega⟩, ?_⟩
          show ((rs.length : Int) - ((e1 : Int) + 1)).toNat < ((rs.length : Int) - (jn : Int)).toNat
          omega
        · refine ⟨_, rfl, p, C, dx, fs, _, rfl, o1, T.cl, T.nr, l1, _, rfl, tr, _, _, _, rfl, rfl, ht, at1, r1, CR, dx1, fs1, _, rfl, b1, R.cl, R.nw, c1, rfl, _, rfl, iteB (fun h3 => ?_) (fun h3 => iteF (alt _ rfl))⟩
          refine ⟨_, rfl, p, C, dx, fs, _, rfl, o1, T.cl, T.nr, l1, _, rfl, tr, _, _, _, rfl, rfl, ht, at2, r2, CR, dx2, fs2, _, rfl, b2, R.cl, R.nw, c2, aL, _, rfl, .inr (cL.s _), rfl, rfl, _, rfl, iteB (fun h4 => ?_) (fun h4 => alt _ rfl)⟩
          exact ⟨_, rfl, q _⟩
    · exact iteF ⟨_, rfl, q _⟩
  · rintro σ G Q1 Q2 h ⟨x1, e1, x2, e2, a1, C1, dx1, fs1, v1, e3, e4, c1, n1, lk, i, j, r1, r2, b, e5, hq⟩
    refine ⟨x1, e1, x2, e2, a1, C1, dx1, fs1, v1, e3, e4, c1, n1, lk, i, j, r1, r2, b, e5, ?_⟩
    cases b with
    | false =>
      have hq' := hq
      exact h _ _ hq'
    | true =>
      obtain ⟨y1, f1, y2, f2, a2, C2, dx2, fs2, v2, f3, f4, c2, n2, lk2, d, ov, f5, g5, b2, f6, hq2⟩ := hq
      exact ⟨y1, f1, y2, f2, a2, C2, dx2, fs2, v2, f3, f4, c2, n2, lk2, d, ov, f5, g5, b2, f6, h _ _ hq2⟩
end
end H2
namespace H2
open PySem PySem.Spec PyProof.Rows L2 Hx Nd Dun
section
variable {P : Program} {w : World} {K : PySem.W.Frag} {mg : Str → Option Value} {base : Heap} {D : Addr}
/-! ### way_past, find_loops -/
def spWP (K : PySem.W.Frag) (C CR : Addr) : Sp := fun vs H Q _ => ∃ (p tr he en : Addr) (rs : List Addr) (wr : List Str) (hk ek : List (Key × V)) (a : Nat), vs = [.ref p, .int (a : Int)] ∧ FlowH K C CR H p tr he en rs wr hk ek ∧ H he = some (.dK hk) ∧ a < rs.length ∧ ∀ H' (v : Int), Same H H' → Q (.int v) H'
/-- what came while a dict was locked -/
theorem same_unlock {H G : Hp} {d : Addr} {od : Obj} {u : HO} (hd : H d = some u) (s : Same (upd H d (.frz od u)) G) : Same H (upd G d u) := fun b o z => by
  by_cases e : b = d
  · subst e
    rw [hd] at z
    cases z
    exact upd_same
  · rw [upd_ne e]
    exact s _ _ (by rw [upd_ne e]; exact z)
theorem ok_wp {C CR fI tt : Addr} {m : Nat → Addr} (T : FlowT K mg C m) (R : RowT K mg CR fI tt) {ld : FuncData} (FL : Fun K "landing" "Flow.landing" s_Flow_landing (m 1) ld) (bL : Binds K ld ["self", "at"] []) (GL : FnOk P w K mg base CX0 1 (m 1) ld ["self", "at"] (spLand K C CR)) :
    ∃ fd, Fun K "way_past" "Flow.way_past" s_Flow_way_past (m 2) fd ∧ Binds K fd ["self", "at"] [] ∧ FnOk P w K mg base CX0 2 (m 2) fd ["self", "at"] (spWP K C CR) := by
  obtain ⟨fd, F, b⟩ := T.f2.fn
  refine ⟨fd, F, b, F.ok c_Flow_way_past (fun vs H Q E h => ?_) (fun cdv A outer s H vs Q E hr h => ?_)⟩
  · obtain ⟨p, tr, he, en, rs, wr, hk, ek, a, rfl, _⟩ := h
    rfl
  obtain ⟨p, tr, he, en, rs, wr, hk, ek, a, rfl, hf, hhe, ha, q⟩ := h
  have hu := hu_of hr
  have hr1 : Room 1 _ := hr.mono (by decide)
  refine ⟨_, pss_cons (ps_if (pt_cmp (pc_dnotin hu (pv 1) (pe_fld (pv 0) rfl))) (pss_one (ps_ret (pe_fld (pv 0) rfl))) pss_nil) <|
    pss_cons (ps_lock (ps_for PassesOwn.never rfl (pi_items (pe_fld (pv 0) rfl)) (pg_tup rfl (pgs_cons (pg_name (i := 2) c_Flow_way_past.nd rfl (Or.inl rfl)) (pgs_cons (pg_name (i := 3) c_Flow_way_past.nd rfl (Or.inl rfl)) pgs_nil)))
      (pss_one (ps_if (PW.pt (pw_and (pt_cmpR op_eq (pv 3) (pv 1) (nomark _)) (pw_and1 (pt_cmpR op_eq (pe_fld (pe_ix ix_tup (pe_fld (pv 0) rfl) (pv 2) (fun _ _ => rfl)) rfl) pe_str (nomark _))))) (pss_one (ps_ret (pe_meth (pv 0) T.cl T.f1.m GL hr1 bL .nil pass0 (pa_cons (pe_op op_add (pv 2) pe_int) pa_nil)))) pss_nil)))) <|
    pss_one (ps_ret (pe_meth (pv 0) T.cl T.f1.m GL hr1 bL .nil pass0 (pa_cons (pe_op op_add (pe_dget hu (pe_fld (pv 0) rfl) (pv 1) (fun _ _ => rfl)) pe_int) pa_nil))), ?_⟩
  obtain ⟨⟨dx, fs, o1, l1, l2, l3, l4, l5, l6, l7⟩, ht, hrw, hh, hen, ok⟩ := id hf
  refine ⟨_, rfl, _, rfl, p, C, dx, fs, _, rfl, o1, T.cl, T.ne, l4, en, _, rfl, rget (k := kI a) hen, _, rfl, ?_⟩
  cases hv : valV ek (kI a) with
  | none =>
    refine iteT ⟨_, rfl, p, C, dx, fs, _, rfl, o1, T.cl, T.nz, l2, q H _ (Same.refl H)⟩
  | some v =>
    refine iteF ?_
    obtain ⟨hn, e1, heq, hhn, he1⟩ := ok.ee _ (valV_mem hv)
    have ev : v = .int (e1 : Int) := congrArg Prod.snd heq
    subst ev
    refine ⟨he, _, hhe, trivial, fun od => ?_⟩
    have hfz := hf.frz hhe od
    refine ⟨_, rfl, p, C, dx, fs, _, rfl, (by rw [upd_ne (ne_of o1 hhe (by intro z; cases z))]; exact o1), T.cl, T.nh, l3, he, od, hk, rfl, upd_same, for_it walk_items (fun i σ G => Same (upd H he (.frz od (.dK hk))) G ∧ ∃ v2 v3 : Option V, σ = [some (.ref p), some (.int (a : Int)), v2, v3]) ⟨Same.refl _, none, none, rfl⟩ ?_ ?_ ?_⟩
    · rintro i σ G _ ⟨sG, _⟩
      exact sG _ _ upd_same
    · rintro i x σ G G' hi ⟨sG, v2, v3, rfl⟩ ⟨Tn, k, v, rfl, nT, rfl, hk1, hk2⟩
      obtain ⟨kv, hkv⟩ : ∃ kv, hk[i]? = some kv := ⟨_, List.getElem?_eq_getElem hi⟩
      dsimp only at hk1 hk2
      rw [hkv] at hk1 hk2
      obtain ⟨jn, hn2, en2, heq2, hj, hh2, hv2, _⟩ := ok.hh _ (List.mem_of_getElem? hkv)
      rw [heq2] at hk1 hk2
      cases hk1
      cases hk2
      have sT := same_new (o := .tup [kV (kI jn), .int (hn2 : Int)]) sG nT
      have hfT := hfz.keep sT
      have eT : (upd G Tn (.tup [kV (kI jn), .int (hn2 : Int)])) Tn = some (.tup [.int (jn : Int), .int (hn2 : Int)]) := upd_same
      generalize upd G Tn (.tup [kV (kI jn), .int (hn2 : Int)]) = G2 at sT hfT eT ⊢
      obtain ⟨⟨dx2, fs2, p1, p2, p3, p4, p5, p6, p7, p8⟩, ht2, hrw2, _, _, _⟩ := id hfT
      refine ⟨Tn, _, rfl, SqT.of eT, rfl, _, _, rfl, _, _, rfl, rfl, ?_⟩
      refine if_with (S := fun G' => G' = G2) (fun G' hG => ?_) (fun alt => ?_)
      · subst hG
        exact ⟨sT, _, _, rfl⟩
      · have hw2 : jn < wr.length := by rw [← hrw2.1]; exact hj
        obtain ⟨dx1, fs1, b1, c1⟩ := hrw2.2 jn _ _ (List.getElem?_eq_getElem hj) (List.getElem?_eq_getElem hw2)
        refine ⟨_, rfl, _, rfl, rfl, _, rfl, iteB (fun h3 => ?_) (fun h3 => iteF (alt _ rfl))⟩
        refine ⟨_, rfl, p, C, dx2, fs2, _, rfl, p1, T.cl, T.nr, p2, _, rfl, tr, _, _, _, rfl, rfl, ht2, at_of (j := jn) rfl (by rw [List.getElem?_map, List.getElem?_eq_getElem hj]; rfl), rs[jn], CR, dx1, fs1, _, rfl, b1, R.cl, R.nw, c1, rfl, _, rfl, iteB (fun h4 => ?_) (fun h4 => alt _ rfl)⟩
        refine ⟨_, rfl, p, dx2, fs2, rfl, p1, p6, _, rfl, _, _, rfl, rfl, p, tr, he, en, rs, wr, hk, ek, (jn : Int) + 1, rfl, hfT, by omega, fun v => ⟨sT _ _ upd_same, q _ _ (same_unlock hhe sT)⟩⟩
    · rintro σ G ⟨sG, v2, v3, rfl⟩
      refine ⟨sG _ _ upd_same, ?_⟩
      have sU := same_unlock hhe sG
      have hfU := hf.keep sU
      generalize upd G he (.dK hk) = G2 at sU hfU ⊢
      obtain ⟨⟨dx2, fs2, p1, p2, p3, p4, p5, p6, p7, p8⟩, _, _, _, hen2, _⟩ := id hfU
      refine ⟨_, rfl, p, dx2, fs2, rfl, p1, p6, _, rfl, p, C, dx2, fs2, _, rfl, p1, T.cl, T.ne, p5, _, rfl, en, _, rfl, (show DGet _ _ (kV (kI a)) (some (.int (e1 : Int))) from by rw [← hv]; exact rget hen2), _, _, rfl, rfl, p, tr, he, en, rs, wr, hk, ek, (e1 : Int) + 1, rfl, hfU, by omega, fun v => q _ _ sU⟩
def spFL (K : PySem.W.Frag) (C CR : Addr) : Sp := fun vs H Q _ => ∃ (p tr he en : Addr) (rs : List Addr) (wr : List Str) (hk ek : List (Key × V)), vs = [.ref p] ∧ FlowH K C CR H p tr he en rs wr hk ek ∧ H en = some (.dK ek) ∧ rs.length ≤ 900 ∧ ∀ H' r xs, Same H H' → H' r = some (.lst xs) → H r = none → xs.length = rs.length → Q (.ref r) H'
theorem ok_fl {C CR fI tt aL : Addr} {m : Nat → Addr} (T : FlowT K mg C m) (R : RowT K mg CR fI tt) (cL : TupT K mg "LOOPS" aL loopsV) (rng : mg "range" = none) :
    ∃ fd, Fun K "find_loops" "Flow.find_loops" s_Flow_find_loops (m 3) fd ∧ Binds K fd ["self"] [] ∧ FnOk P w K mg base CX0 1 (m 3) fd ["self"] (spFL K C CR) := by
  obtain ⟨fd, F, b⟩ := T.f3.fn
  refine ⟨fd, F, b, F.ok c_Flow_find_loops (fun vs H Q E h => ?_) (fun cdv A outer s H vs Q E hr h => ?_)⟩
  · obtain ⟨p, tr, he, en, rs, wr, hk, ek, rfl, _⟩ := h
    rfl
  obtain ⟨p, tr, he, en, rs, wr, hk, ek, rfl, hf, hen0, hlen, q⟩ := h
  refine ⟨_, pss_cons (ps_set (i := 1) c_Flow_find_loops.nd rfl (Or.inl rfl) (pe_op op_rep (pe_lst (pa_cons (pe_un un_neg pe_int) pa_nil)) (pe_fld (pv 0) rfl))) <|
    pss_cons (ps_lock (ps_for PassesOwn.never rfl (pi_items (pe_fld (pv 0) rfl)) (pg_tup rfl (pgs_cons (pg_name (i := 2) c_Flow_find_loops.nd rfl (Or.inl rfl)) (pgs_cons (pg_name (i := 3) c_Flow_find_loops.nd rfl (Or.inl rfl)) pgs_nil)))
      (pss_one (ps_if (pt_cmpR op_in_seq (pe_fld (pe_ix ix_tup (pe_fld (pv 0) rfl) (pv 2) (fun _ _ => rfl)) rfl) (pe_glob (v := .ref aL) rfl cL.g rfl) rfl)
        (pss_one (ps_for PassesOwn.never rfl (pi_range2 rfl rng (pa_cons (pv 2) (pa_cons (pe_op op_add (pv 3) pe_int) pa_nil))) (pg_name (i := 4) c_Flow_find_loops.nd rfl (Or.inl rfl)) (pss_one (ps_asg (pv 2) (pg_sub (pv 1) (pv 4) set_list))))) pss_nil)))) <|
    pss_one (ps_ret (pv 1)), ?_⟩
  obtain ⟨⟨dx, fs, o1, l1, l2, l3, l4, l5, l6, l7⟩, ht, hrw, hh, hen, ok⟩ := id hf
  refine ⟨_, rfl, (by show 1 ≤ sizeLine; decide), fun l0 nl0 => ⟨_, rfl, p, C, dx, fs, _, rfl, (new_same nl0) _ _ o1, T.cl, T.nz, l2, l0, _, _, rfl, rfl, upd_same, by omega, by omega, by rw [Int.toNat_natCast]; exact Nat.le_of_lt (big (by show 1 * _ ≤ _; omega)), fun fo nfo => ?_⟩⟩
  have s0 := new_same (o := .lst [.int (-1)]) nl0
  have s1 := same_new (o := .lst (List.replicate ((rs.length : Nat) : Int).toNat [.int (-1)]).flatten) s0 nfo
  have nfoH := free_same s0 nfo
  have efo : ∃ xs, (upd (upd H l0 (.lst [.int (-1)])) fo (.lst (List.replicate ((rs.length : Nat) : Int).toNat [.int (-1)]).flatten)) fo = some (.lst xs) ∧ xs.length = rs.length := ⟨_, upd_same, by simp⟩
  have hf1 := hf.keep s1
  have hen1 := s1 _ _ hen0
  have o1' := s1 _ _ o1
  have hno : fo ≠ en := fun z => by rw [z, hen0] at nfoH; cases nfoH
  obtain ⟨xs0, ex0, hx0⟩ := efo
  generalize upd (upd H l0 (.lst [.int (-1)])) fo (.lst (List.replicate ((rs.length : Nat) : Int).toNat [.int (-1)]).flatten) = G1 at s1 hf1 hen1 o1' ex0 ⊢
  refine ⟨en, _, hen1, trivial, fun od => ?_⟩
  have hfz := hf.frz hen0 od
  have sB : Same (upd H en (.frz od (.dK ek))) (upd G1 en (.frz od (.dK ek))) := fun b o z => by
    by_cases e : b = en
    · subst e
      rw [upd_same] at z ⊢
      exact z
    · rw [upd_ne e] at z ⊢
      exact s1 _ _ z
  have nfoB : (upd H en (.frz od (.dK ek))) fo = none := by rw [upd_ne hno]; exact nfoH
  refine ⟨_, rfl, p, C, dx, fs, _, rfl, (by rw [upd_ne (ne_of o1' hen1 (by intro z; cases z))]; exact o1'), T.cl, T.ne, l4, en, od, ek, rfl, upd_same, for_it walk_items (fun i σ G => Same (upd H en (.frz od (.dK ek))) G ∧ (∃ xs, G fo = some (.lst xs) ∧ xs.length = rs.length) ∧ ∃ v2 v3 v4 : Option V, σ = [some (.ref p), some (.ref fo), v2, v3, v4]) ⟨sB, ⟨xs0, by rw [upd_ne hno]; exact ex0, hx0⟩, none, none, none, rfl⟩ ?_ ?_ ?_⟩
  · rintro i σ G _ ⟨sG, _⟩
    exact sG _ _ upd_same
  · rintro i x σ G G' hi ⟨sG, ⟨xs, ex, hx⟩, v2, v3, v4, rfl⟩ ⟨Tn, k, v, rfl, nT, rfl, hk1, hk2⟩
    obtain ⟨kv, hkv⟩ : ∃ kv, ek[i]? = some kv := ⟨_, List.getElem?_eq_getElem hi⟩
    dsimp only at hk1 hk2
    rw [hkv] at hk1 hk2
    obtain ⟨hn, e1, heq, hhn, he1⟩ := ok.ee _ (List.mem_of_getElem? hkv)
    rw [heq] at hk1 hk2
    cases hk1
    cases hk2
    have sT := same_new (o := .tup [kV (kI hn), .int (e1 : Int)]) sG nT
    have hfT := hfz.keep sT
    have eT : (upd G Tn (.tup [kV (kI hn), .int (e1 : Int)])) Tn = some (.tup [.int (hn : Int), .int (e1 : Int)]) := upd_same
    have exT := (new_same (o := .tup [kV (kI hn), .int (e1 : Int)]) nT) _ _ ex
    generalize upd G Tn (.tup [kV (kI hn), .int (e1 : Int)]) = G2 at sT hfT eT exT ⊢
    obtain ⟨⟨dx2, fs2, p1, p2, p3, p4, p5, p6, p7, p8⟩, ht2, hrw2, _, _, _⟩ := id hfT
    refine ⟨Tn, _, rfl, SqT.of eT, rfl, _, _, rfl, _, _, rfl, rfl, ?_⟩
    have hw2 : hn < wr.length := by rw [← hrw2.1]; exact hhn
    obtain ⟨dx1, fs1, b1, c1⟩ := hrw2.2 hn _ _ (List.getElem?_eq_getElem hhn) (List.getElem?_eq_getElem hw2)
    refine ⟨_, rfl, p, C, dx2, fs2, _, rfl, p1, T.cl, T.nr, p2, _, rfl, tr, _, _, _, rfl, rfl, ht2, at_of (j := hn) rfl (by rw [List.getElem?_map, List.getElem?_eq_getElem hhn]; rfl), rs[hn], CR, dx1, fs1, _, rfl, b1, R.cl, R.nw, c1, aL, _, rfl, .inr (cL.s _), rfl, rfl, _, rfl, iteB (fun h3 => ?_) (fun h3 => ?_)⟩
    · refine ⟨_, rfl, _, rfl, _, _, rfl, rfl, (hn : Int), (e1 : Int) + 1, rfl, ⟨by omega, by omega, by omega, by omega⟩, for_range (lo := (hn : Int)) (n := ((e1 : Int) + 1 - (hn : Int)).toNat) (fun j σ G3 => Same (upd H en (.frz od (.dK ek))) G3 ∧ (∃ xs, G3 fo = some (.lst xs) ∧ xs.length = rs.length) ∧ ∃ v4 : Option V, σ = [some (.ref p), some (.ref fo), some (.int (hn : Int)), some (.int (e1 : Int)), v4]) ⟨sT, ⟨xs, exT, hx⟩, v4, rfl⟩ ?_ ?_⟩
      · rintro j σ G3 hj ⟨s3, ⟨ys, ey, hy⟩, v4, rfl⟩
        refine ⟨_, rfl, _, rfl, _, rfl, fo, ys, (hn : Int) + (j : Int), hn + j, rfl, rfl, ey, ?_, same_out s3 nfoB, ⟨_, upd_same, by rw [List.length_set]; exact hy⟩, _, rfl⟩
        unfold ixN
        rw [if_pos (by omega), if_pos (by omega)]
        congr 1
      · rintro σ G3 ⟨s3, ys, v4, rfl⟩
        exact ⟨s3, ys, _, _, _, rfl⟩
    · exact ⟨sT, ⟨xs, exT, hx⟩, _, _, _, rfl⟩
  · rintro σ G ⟨sG, ⟨xs, ex, hx⟩, v2, v3, v4, rfl⟩
    exact ⟨sG _ _ upd_same, _, rfl, q _ fo xs (same_unlock hen0 sG) (by rw [upd_ne hno]; exact ex) nfoH hx⟩
end
end H2
namespace H2
open PySem PySem.Spec PyProof.Rows L2 Hx Nd Dun
section
variable {P : Program} {w : World} {K : PySem.W.Frag} {mg : Str → Option Value} {base : Heap} {D : Addr}
/-! ### Flow.__init__ -/
def spFlow (K : PySem.W.Frag) (C CR : Addr) : Sp := fun vs H Q _ => ∃ (p l dx : Addr) (rs : List Addr) (wr : List Str), vs = [.ref p, .ref l] ∧ H p = some (.ins C dx []) ∧ H l = some (.lst (rs.map V.ref)) ∧ RowsW K CR H rs wr ∧ wr.length ≤ 900 ∧ balF 0 wr = some 0 ∧
  ∀ H', But p H H' → (∃ dx' fs, H' p = some (.ins C dx' fs)) → Q .non H'
def flowF (tr : Addr) (n : Nat) (he en : Addr) (r : List (Str × V)) : List (Str × V) := ("rows", .ref tr) :: ("size", .int (n : Int)) :: ("heads", .ref he) :: ("ends", .ref en) :: r
theorem sqt_ins {H : Hp} {p t : Addr} {C dx : Addr} {fs : List (Str × V)} {o : HO} {xs : List V} (hp : H p = some (.ins C dx fs)) (h : SqT K H t xs) : SqT K (upd H p o) t xs := sqt_tups (Nd.Tups.upd fun xs r => by
  rcases r with r | ⟨z, r⟩
  · rw [hp] at r; cases r
  · rw [hp] at r; cases r) h
/-- the object gets one field more -/
theorem FlowH.set {C CR p tr he en : Addr} {rs : List Addr} {wr : List Str} {hk ek : List (Key × V)} {G : Hp} {dx : Addr} {fs fs' : List (Str × V)} (h : FlowH K C CR G p tr he en rs wr hk ek) (hp : G p = some (.ins C dx fs)) (hnp : ∀ r ∈ rs, r ≠ p)
    (l1 : fs'.lookup ("rows" : Str) = some (V.ref tr)) (l2 : fs'.lookup ("size" : Str) = some (V.int (rs.length : Nat))) (l3 : fs'.lookup ("heads" : Str) = some (V.ref he)) (l4 : fs'.lookup ("ends" : Str) = some (V.ref en))
    (l5 : fs'.lookup ("landing" : Str) = none) (l6 : fs'.lookup ("way_past" : Str) = none) (l7 : fs'.lookup ("find_loops" : Str) = none) : FlowH K C CR (upd G p (.ins C dx fs')) p tr he en rs wr hk ek := by
  have rd : ∀ {a : Addr} {ys : List (Key × V)}, Rd G a (.dK ys) → Rd (upd G p (.ins C dx fs')) a (.dK ys) := fun {a ys} r => by
    rcases r with r | ⟨o, r⟩
    · exact .inl (by rw [upd_ne (ne_of r hp (by intro z; cases z))]; exact r)
    · exact .inr ⟨o, by rw [upd_ne (ne_of r hp (by intro z; cases z))]; exact r⟩
  refine ⟨⟨dx, fs', upd_same, l1, l2, l3, l4, l5, l6, l7⟩, sqt_ins hp h.t, ⟨h.r.1, fun i a x e1 e2 => ?_⟩, rd h.h, rd h.e, h.ok⟩
  obtain ⟨dx', fs2, a1, a2⟩ := h.r.2 i a x e1 e2
  exact ⟨dx', fs2, by rw [upd_ne (hnp a (List.mem_of_getElem? e1))]; exact a1, a2⟩
theorem ok_Flow {C CR fI tt aL gM : Addr} {m : Nat → Addr} (T : FlowT K mg C m) (R : RowT K mg CR fI tt) (cL : TupT K mg "LOOPS" aL loopsV) (rng : mg "range" = none) (len : mg "len" = none) (tup : mg "tuple" = none)
    {md : FuncData} (FM : Fun K "match_blocks" "match_blocks" s_match_blocks gM md) (bM : Binds K md ["rows"] []) (mM : mg "match_blocks" = some (.ref gM)) (GM : FnOk P w K mg base CX0 1 gM md ["rows"] (spMB K CR)) :
    ∃ fd, Fun K "__init__" "Flow.__init__" s_Flow_init (m 0) fd ∧ Binds K fd ["self", "rows"] [] ∧ FnOk P w K mg base CX0 3 (m 0) fd ["self", "rows"] (spFlow K C CR) := by
  obtain ⟨ld, FL, bL, GL⟩ := ok_landing (P := P) (w := w) (base := base) T R cL
  obtain ⟨wd, FW, bW, GW⟩ := ok_wp (P := P) (w := w) (base := base) T R FL bL GL
  obtain ⟨od, FO, bO, GO⟩ := ok_fl (P := P) (w := w) (base := base) T R cL rng
  obtain ⟨fd, F, b⟩ := T.f0
  refine ⟨fd, F, b, F.ok c_Flow_init (fun vs H Q E h => ?_) (fun cdv A outer s H vs Q E hr h => ?_)⟩
  · obtain ⟨p, l, dx, rs, wr, rfl, _⟩ := h
    rfl
  obtain ⟨p, l, dx, rs, wr, rfl, hp, hl, hrw, hlen, hbal, q⟩ := h
  refine ⟨_, pss_cons (ps_fld (pv 0) (pe_callTy call_tuple_of (by rfl) tup (by decide +kernel) (pa_cons (pv 1) pa_nil)) rfl) <|
    pss_cons (ps_fld (pv 0) (pe_callB (call_len_seq) (by rfl) len PySem.boot_len (pa_cons (pe_fld (pv 0) rfl) pa_nil)) rfl) <|
    pss_cons (ps_asg (pe_call GM (hr.mono (by decide)) rfl mM FM.kp bM .nil pass0 (pa_cons (pe_fld (pv 0) rfl) pa_nil)) (pg_tup rfl (pgs_cons (Nd.pg_fld (pv 0)) (pgs_cons (Nd.pg_fld (pv 0)) pgs_nil)))) <|
    pss_cons (ps_fld (pv 0) (pe_callTy call_tuple_of (by rfl) tup (by decide +kernel) (pa_cons (pe_lc (own := [("at", 2)]) (g := gName 2) (tt := tYes) rfl c_Flow_init.nd (pi_range1 rfl rng (pa_cons (pe_fld (pv 0) rfl) pa_nil)) (blkOk_by (own := [("at", 2)]) (N := n_Flow_init) (sc := defScope s_Flow_init) (by decide +kernel))
        (fun _ _ _ _ _ => pg_name (i := 2) c_Flow_init.nd rfl (Or.inl rfl)) (fun _ _ _ _ _ => pts_nil) (fun _ _ _ _ _ => pe_meth (pv 0) T.cl T.f1.m GL (hr.mono (by decide)) bL .nil pass0 (pa_cons (pe_op op_add (pv 2) pe_int) pa_nil))) pa_nil)) rfl) <|
    pss_cons (ps_fld (pv 0) (pe_callTy call_tuple_of (by rfl) tup (by decide +kernel) (pa_cons (pe_lc (own := [("at", 2)]) (g := gName 2) (tt := tYes) rfl c_Flow_init.nd (pi_range1 rfl rng (pa_cons (pe_fld (pv 0) rfl) pa_nil)) (blkOk_by (own := [("at", 2)]) (N := n_Flow_init) (sc := defScope s_Flow_init) (by decide +kernel))
        (fun _ _ _ _ _ => pg_name (i := 2) c_Flow_init.nd rfl (Or.inl rfl)) (fun _ _ _ _ _ => pts_nil) (fun _ _ _ _ _ => pe_meth (pv 0) T.cl T.f2.m GW (hr.mono (by decide)) bW .nil pass0 (pa_cons (pv 2) pa_nil))) pa_nil)) rfl) <|
    pss_one (ps_fld (pv 0) (pe_callTy call_tuple_of (by rfl) tup (by decide +kernel) (pa_cons (pe_meth0 (pv 0) T.cl T.f3.m GO (hr.mono (by decide)) bO .nil pass0) pa_nil)) rfl), ?_⟩
  have hnp : ∀ r ∈ rs, r ≠ p := fun r hr z => by
    subst z
    obtain ⟨i, hi⟩ := List.getElem?_of_mem hr
    have hw : i < wr.length := by rw [← hrw.1]; exact (List.getElem?_eq_some_iff.mp hi).1
    obtain ⟨dx', fs', a1, a2⟩ := hrw.2 i r _ hi (List.getElem?_eq_getElem hw)
    rw [hp] at a1
    cases a1
    cases a2
  have npl : l ≠ p := ne_of hl hp (by intro z; cases z)
  refine ⟨_, rfl, l, _, rfl, .inl ⟨SqL.of hl, fun tr ntr => ⟨_, rfl, p, C, dx, [], rfl, (new_same ntr) _ _ hp, T.cl, T.nr, (by show 0 < 1000; decide), ?_⟩⟩⟩
  have ntrp : tr ≠ p := (ne_of_none hp ntr).symm
  have htr : SqT K (upd (upd H tr (.tup (rs.map V.ref))) p (.ins C dx (putF "rows" (.ref tr) []))) tr (rs.map V.ref) := SqT.of (by rw [upd_ne ntrp, upd_same])
  refine ⟨_, rfl, p, C, dx, _, _, rfl, upd_same, T.cl, T.nr, rfl, tr, _, rfl, .inr htr, _, rfl, p, C, dx, _, rfl, upd_same, T.cl, T.nz, (by show 1 < 1000; decide), ?_⟩
  rw [upd_upd, List.length_map]
  have b3 : But p H (upd (upd H tr (.tup (rs.map V.ref))) p (.ins C dx (putF "size" (.int (rs.length : Nat)) (putF "rows" (.ref tr) [])))) := (Same.but (new_same ntr)).trans But.upd
  have htr3 : SqT K (upd (upd H tr (.tup (rs.map V.ref))) p (.ins C dx (putF "size" (.int (rs.length : Nat)) (putF "rows" (.ref tr) [])))) tr (rs.map V.ref) := SqT.of (by rw [upd_ne ntrp, upd_same])
  have hrw3 : RowsW K CR (upd (upd H tr (.tup (rs.map V.ref))) p (.ins C dx (putF "size" (.int (rs.length : Nat)) (putF "rows" (.ref tr) [])))) rs wr := ⟨hrw.1, fun i a x e1 e2 => by
    obtain ⟨dx', fs', a1, a2⟩ := hrw.2 i a x e1 e2
    exact ⟨dx', fs', b3 _ _ (hnp a (List.mem_of_getElem? e1)) a1, a2⟩⟩
  have hp3 : (upd (upd H tr (.tup (rs.map V.ref))) p (.ins C dx (putF "size" (.int (rs.length : Nat)) (putF "rows" (.ref tr) [])))) p = some (.ins C dx [("rows", .ref tr), ("size", .int (rs.length : Nat))]) := upd_same
  generalize upd (upd H tr (.tup (rs.map V.ref))) p (.ins C dx (putF "size" (.int (rs.length : Nat)) (putF "rows" (.ref tr) []))) = H3 at b3 htr3 hrw3 hp3 ⊢
  refine ⟨_, rfl, p, C, dx, _, _, rfl, hp3, T.cl, T.nr, rfl, tr, rs, wr, rfl, htr3, hrw3, hlen, hbal, fun H4 t' he en hk ek s4 ht' ehe een hne nhe nen hok => ?_⟩
  have hp4 := s4 _ _ hp3
  have nhep : he ≠ p := (ne_of_none hp3 nhe).symm
  have nenp : en ≠ p := (ne_of_none hp3 nen).symm
  refine ⟨t', _, rfl, ht', rfl, _, _, rfl, _, rfl, p, C, dx, _, rfl, hp4, T.cl, T.nh, (by show 2 < 1000; decide), _, _, rfl, _, rfl, p, C, dx, _, rfl, upd_same, T.cl, T.ne, (by show 3 < 1000; decide), rfl, ?_⟩
  rw [upd_upd]
  have f5 : FlowH K C CR (upd H4 p (.ins C dx (putF "ends" (.ref en) (putF "heads" (.ref he) [("rows", .ref tr), ("size", .int (rs.length : Nat))])))) p tr he en rs wr hk ek :=
    ⟨⟨dx, _, upd_same, rfl, rfl, rfl, rfl, rfl, rfl, rfl⟩, sqt_ins hp4 (sqt_same s4 htr3), ⟨hrw3.1, fun i a x e1 e2 => by
      obtain ⟨dx', fs', a1, a2⟩ := (hrw3.keep s4).2 i a x e1 e2
      exact ⟨dx', fs', by rw [upd_ne (hnp a (List.mem_of_getElem? e1))]; exact a1, a2⟩⟩, .inl (by rw [upd_ne nhep]; exact ehe), .inl (by rw [upd_ne nenp]; exact een), hok⟩
  have b5 : But p H (upd H4 p (.ins C dx (putF "ends" (.ref en) (putF "heads" (.ref he) [("rows", .ref tr), ("size", .int (rs.length : Nat))])))) := (b3.trans (Same.but s4)).trans But.upd
  have he5 : (upd H4 p (.ins C dx (putF "ends" (.ref en) (putF "heads" (.ref he) [("rows", .ref tr), ("size", .int (rs.length : Nat))])))) he = some (.dK hk) := by rw [upd_ne nhep]; exact ehe
  have en5 : (upd H4 p (.ins C dx (putF "ends" (.ref en) (putF "heads" (.ref he) [("rows", .ref tr), ("size", .int (rs.length : Nat))])))) en = some (.dK ek) := by rw [upd_ne nenp]; exact een
  have hp5 : (upd H4 p (.ins C dx (putF "ends" (.ref en) (putF "heads" (.ref he) [("rows", .ref tr), ("size", .int (rs.length : Nat))])))) p = some (.ins C dx (flowF tr rs.length he en [])) := upd_same
  generalize upd H4 p (.ins C dx (putF "ends" (.ref en) (putF "heads" (.ref he) [("rows", .ref tr), ("size", .int (rs.length : Nat))]))) = H5 at f5 b5 he5 en5 hp5 ⊢
  have hrl : rs.length ≤ 900 := by rw [hrw.1]; exact hlen
  -- after
  refine ⟨_, rfl, p, C, dx, _, _, rfl, hp5, T.cl, T.nz, rfl, _, rfl, by omega, by omega, fun D nD => ?_⟩
  rw [Int.toNat_natCast]
  refine lc_range (lo := 0) (n := rs.length) (fun i G => Same H5 G ∧ ∃ acc, G D = some (.lst acc) ∧ acc.length = i) ⟨new_same nD, [], upd_same, rfl⟩ ?_ ?_
  · rintro i G hi ⟨sG, acc, eD, hacc⟩
    refine ⟨rfl, ?_⟩
    unfold tYes
    dsimp only
    rw [if_pos rfl]
    refine ⟨_, rfl, p, dx, _, rfl, sG _ _ hp5, rfl, _, rfl, _, _, rfl, rfl, p, tr, he, en, rs, wr, hk, ek, _, rfl, f5.keep sG, by omega, fun v => ⟨acc, eD, big (by omega), same_out sG nD, _, upd_same, by rw [List.length_append, hacc]; rfl⟩⟩
  rintro G6 ⟨s6, acc6, eD6, _⟩
  refine ⟨D, _, rfl, .inl ⟨SqL.of eD6, fun ta nta => ?_⟩⟩
  have s6a := same_new (o := .tup acc6) s6 nta
  have hp6 := s6a _ _ hp5
  refine ⟨_, rfl, p, C, dx, _, rfl, hp6, T.cl, T.na, (by show 4 < 1000; decide), ?_⟩
  have f7 : FlowH K C CR (upd (upd G6 ta (.tup acc6)) p (.ins C dx (putF "after" (.ref ta) (flowF tr rs.length he en [])))) p tr he en rs wr hk ek := (f5.keep s6a).set hp6 hnp rfl rfl rfl rfl rfl rfl rfl
  have b7 : But p H (upd (upd G6 ta (.tup acc6)) p (.ins C dx (putF "after" (.ref ta) (flowF tr rs.length he en [])))) := (b5.trans (Same.but s6a)).trans But.upd
  have he7 : (upd (upd G6 ta (.tup acc6)) p (.ins C dx (putF "after" (.ref ta) (flowF tr rs.length he en [])))) he = some (.dK hk) := by rw [upd_ne nhep]; exact s6a _ _ he5
  have en7 : (upd (upd G6 ta (.tup acc6)) p (.ins C dx (putF "after" (.ref ta) (flowF tr rs.length he en [])))) en = some (.dK ek) := by rw [upd_ne nenp]; exact s6a _ _ en5
  have hp7 : (upd (upd G6 ta (.tup acc6)) p (.ins C dx (putF "after" (.ref ta) (flowF tr rs.length he en [])))) p = some (.ins C dx (flowF tr rs.length he en [("after", .ref ta)])) := upd_same
  generalize upd (upd G6 ta (.tup acc6)) p (.ins C dx (putF "after" (.ref ta) (flowF tr rs.length he en []))) = H7 at f7 b7 he7 en7 hp7 ⊢
  -- other
  refine ⟨_, rfl, p, C, dx, _, _, rfl, hp7, T.cl, T.nz, rfl, _, rfl, by omega, by omega, fun D2 nD2 => ?_⟩
  rw [Int.toNat_natCast]
  refine lc_range (lo := 0) (n := rs.length) (fun i G => Same H7 G ∧ ∃ acc, G D2 = some (.lst acc) ∧ acc.length = i) ⟨new_same nD2, [], upd_same, rfl⟩ ?_ ?_
  · rintro i G hi ⟨sG, acc, eD, hacc⟩
    refine ⟨rfl, ?_⟩
    unfold tYes
    dsimp only
    rw [if_pos rfl]
    refine ⟨_, rfl, p, dx, _, rfl, sG _ _ hp7, rfl, _, rfl, p, tr, he, en, rs, wr, hk, ek, i, by rw [Int.zero_add]; rfl, f7.keep sG, sG _ _ he7, hi, fun G2 v s2 => ⟨acc, s2 _ _ eD, big (by omega), same_out (fun c o z => s2 _ _ (sG _ _ z)) nD2, _, upd_same, by rw [List.length_append, hacc]; rfl⟩⟩
  rintro G8 ⟨s8, acc8, eD8, _⟩
  refine ⟨D2, _, rfl, .inl ⟨SqL.of eD8, fun tb ntb => ?_⟩⟩
  have s8a := same_new (o := .tup acc8) s8 ntb
  have hp8 := s8a _ _ hp7
  refine ⟨_, rfl, p, C, dx, _, rfl, hp8, T.cl, T.no, (by show 5 < 1000; decide), ?_⟩
  have f9 : FlowH K C CR (upd (upd G8 tb (.tup acc8)) p (.ins C dx (putF "other" (.ref tb) (flowF tr rs.length he en [("after", .ref ta)])))) p tr he en rs wr hk ek := (f7.keep s8a).set hp8 hnp rfl rfl rfl rfl rfl rfl rfl
  have b9 : But p H (upd (upd G8 tb (.tup acc8)) p (.ins C dx (putF "other" (.ref tb) (flowF tr rs.length he en [("after", .ref ta)])))) := (b7.trans (Same.but s8a)).trans But.upd
  have en9 : (upd (upd G8 tb (.tup acc8)) p (.ins C dx (putF "other" (.ref tb) (flowF tr rs.length he en [("after", .ref ta)])))) en = some (.dK ek) := by rw [upd_ne nenp]; exact s8a _ _ en7
  have hp9 : (upd (upd G8 tb (.tup acc8)) p (.ins C dx (putF "other" (.ref tb) (flowF tr rs.length he en [("after", .ref ta)])))) p = some (.ins C dx (flowF tr rs.length he en [("after", .ref ta), ("other", .ref tb)])) := upd_same
  generalize upd (upd G8 tb (.tup acc8)) p (.ins C dx (putF "other" (.ref tb) (flowF tr rs.length he en [("after", .ref ta)]))) = H9 at f9 b9 en9 hp9 ⊢
  refine ⟨_, rfl, p, dx, _, rfl, hp9, rfl, p, tr, he, en, rs, wr, hk, ek, rfl, f9, en9, hrl, fun G10 r xs s10 er nr hx => ?_⟩
  refine ⟨r, _, rfl, .inl ⟨SqL.of er, fun tc ntc => ?_⟩⟩
  have s11 := same_new (o := .tup xs) s10 ntc
  exact ⟨_, rfl, p, C, dx, _, rfl, s11 _ _ hp9, T.cl, T.nl, (by show 6 < 1000; decide), q _ ((b9.trans (Same.but s11)).trans But.upd) ⟨dx, _, upd_same⟩⟩
end
end H2
namespace H2
open PySem PySem.Spec PyProof.Rows L2 Hx Nd Dun
section
variable {P : Program} {w : World} {K : PySem.W.Frag} {mg : Str → Option Value} {base : Heap} {D : Addr}
/-! ### items as trees -/
/-- the list of tuples at these addresses -/
def ItA (H : Hp) (as : List Addr) (its : List (Int × Int)) : Prop := as.length = its.length ∧ ∀ (i : Nat) (a : Addr) (p : Int × Int), as[i]? = some a → its[i]? = some p → H a = some (.tup [.int p.1, .int p.2])
theorem ItA.keep {H H' : Hp} {as : List Addr} {its : List (Int × Int)} (h : ItA H as its) (e : Same H H') : ItA H' as its := ⟨h.1, fun i a p h1 h2 => e _ _ (h.2 i a p h1 h2)⟩
theorem ItA.but {H H' : Hp} {q : Addr} {as : List Addr} {its : List (Int × Int)} (h : ItA H as its) (e : But q H H') (hq : ∀ xs, H q ≠ some (.tup xs)) : ItA H' as its := ⟨h.1, fun i a p h1 h2 => e _ _ (fun z => hq _ (by rw [← z]; exact h.2 i a p h1 h2)) (h.2 i a p h1 h2)⟩
def itV (as : List Addr) : List V := as.map V.ref
/-- the key at a place -/
def kyA (its : List (Int × Int)) (i : Nat) : Int := (its.getD i (0, 0)).1
def mkA (its : List (Int × Int)) (i : Nat) : Int := (its.getD i (0, 0)).2
theorem ItA.at {H : Hp} {as : List Addr} {its : List (Int × Int)} (h : ItA H as its) {i : Nat} (hi : i < its.length) : ∃ a, atI (itV as) (i : Int) = some (.ref a) ∧ as[i]? = some a ∧ H a = some (.tup [.int (kyA its i), .int (mkA its i)]) := by
  have h1 : i < as.length := by rw [h.1]; exact hi
  refine ⟨as[i], at_of (j := i) rfl (by unfold itV; rw [List.getElem?_map, List.getElem?_eq_getElem h1]; rfl), List.getElem?_eq_getElem h1, ?_⟩
  have h2 := h.2 i _ (its[i]) (List.getElem?_eq_getElem h1) (List.getElem?_eq_getElem hi)
  unfold kyA mkA
  rw [List.getD_eq_getElem?_getD, List.getElem?_eq_getElem hi]
  exact h2
def paN (w i : Nat) : Nat := (i - 1) / w
theorem paN_lt {w i : Nat} (hi : 0 < i) : paN w i < i := by
  unfold paN
  exact Nat.lt_of_le_of_lt (Nat.div_le_self _ _) (by omega)
theorem pa_fdiv {w i : Nat} (hi : 0 < i) : Int.fdiv ((i : Int) - 1) (w : Int) = ((paN w i : Nat) : Int) := by
  unfold paN
  have : ((i : Int) - 1) = ((i - 1 : Nat) : Int) := by omega
  rw [this, Int.fdiv_eq_ediv_of_nonneg _ (by omega)]
  rfl
/-- the widths -/
def WdN (w : Nat) : Prop := w = 2 ∨ w = 3 ∨ w = 4
abbrev psPW : List Str := ["place", "width"]
def spParent : Sp := fun vs H Q _ => ∃ (i w : Nat), vs = [.int (i : Int), .int (w : Int)] ∧ WdN w ∧ Q (if i = 0 then .non else .int (paN w i : Nat)) H
theorem ok_parent {f : Addr} (T0 : FT K mg "parent" s_parent psPW f) : ∃ fd, Fun K "parent" "parent" s_parent f fd ∧ Binds K fd psPW [] ∧ FnOk P w K mg base CX0 1 f fd psPW spParent := by
  obtain ⟨fd, F, b⟩ := T0.fn
  refine ⟨fd, F, b, F.ok c_parent (fun vs H Q E h => ?_) (fun cdv A outer s H vs Q E hr h => ?_)⟩
  · obtain ⟨i, w, rfl, _⟩ := h
    rfl
  obtain ⟨i, w, rfl, hw, q⟩ := h
  refine ⟨_, pss_cons (ps_if (pt_cmpR op_eq (pv 0) pe_int (nomark _)) (pss_one (ps_ret pe_non)) pss_nil) <|
    pss_one (ps_ret (pe_op op_fdivN (pe_op op_sub (pv 0) pe_int) (pv 1))), ?_⟩
  refine ⟨_, rfl, rfl, _, rfl, iteB (fun h0 => ?_) (fun h0 => ?_)⟩
  · have h1 : i = 0 := by
      have := of_decide_eq_true h0
      injection this with h2
      omega
    rw [if_pos h1] at q
    exact q
  · have h1 : ¬ i = 0 := fun z => by
      rw [z] at h0
      exact absurd h0 (by decide)
    rw [if_neg h1] at q
    refine ⟨_, rfl, _, _, rfl, rfl, _, rfl, _, _, rfl, rfl, ⟨by rcases hw with rfl | rfl | rfl <;> decide, by rcases hw with rfl | rfl | rfl <;> decide⟩, ?_⟩
    dsimp only
    rw [pa_fdiv (by omega)]
    exact q
/-- less than at the parent -/
def ftB (its : List (Int × Int)) (w i : Nat) : Bool := decide (kyA its i < kyA its (paN w i))
abbrev psIW : List Str := ["items", "width"]
def NoFt (its : List (Int × Int)) (w n : Nat) : Prop := ∀ i, 0 < i → i < n → ftB its w i = false
def spFF (K : PySem.W.Frag) : Sp := fun vs H Q _ => ∃ (l : Addr) (as : List Addr) (its : List (Int × Int)) (w : Nat), vs = [.ref l, .int (w : Int)] ∧ SqL K H l (itV as) ∧ ItA H as its ∧ WdN w ∧ its.length ≤ 900 ∧ ∀ v, ((v = .non ∧ NoFt its w its.length) ∨ ∃ i : Nat, v = .int (i : Int) ∧ 0 < i ∧ i < its.length ∧ ftB its w i = true) → Q v H
theorem itV_len {as : List Addr} {its : List (Int × Int)} {H : Hp} (h : ItA H as its) : (itV as).length = its.length := by unfold itV; rw [List.length_map]; exact h.1
theorem ok_ff {f g : Addr} (T0 : FT K mg "first_fault" s_first_fault psIW f) (rng : mg "range" = none) (len : mg "len" = none) {gd : FuncData} (FP : Fun K "parent" "parent" s_parent g gd) (bP : Binds K gd psPW []) (mP : mg "parent" = some (.ref g)) (GP : FnOk P w K mg base CX0 1 g gd psPW spParent) :
    ∃ fd, Fun K "first_fault" "first_fault" s_first_fault f fd ∧ Binds K fd psIW [] ∧ FnOk P w K mg base CX0 2 f fd psIW (spFF K) := by
  obtain ⟨fd, F, b⟩ := T0.fn
  refine ⟨fd, F, b, F.ok c_first_fault (fun vs H Q E h => ?_) (fun cdv A outer s H vs Q E hr h => ?_)⟩
  · obtain ⟨l, as, its, w, rfl, _⟩ := h
    rfl
  obtain ⟨l, as, its, w, rfl, hl, ha, hw, hn, q⟩ := h
  refine ⟨_, pss_cons (ps_for PassesOwn.never rfl (pi_range2 rfl rng (pa_cons pe_int (pa_cons (pe_callB call_len_seq (by rfl) len PySem.boot_len (pa_cons (pv 0) pa_nil)) pa_nil))) (pg_name (i := 2) c_first_fault.nd rfl (Or.inl rfl))
      (pss_one (ps_if (pt_cmpR op_lt (pe_ix ix_tup (pe_ix ix_list (pv 0) (pv 2) (fun _ _ => rfl)) pe_int (fun _ _ => rfl)) (pe_ix ix_tup (pe_ix ix_list (pv 0) (pe_call GP hr rfl mP FP.kp bP .nil pass0 (pa_cons (pv 2) (pa_cons (pv 1) pa_nil))) (fun _ _ => rfl)) pe_int (fun _ _ => rfl)) (nomark _)) (pss_one (ps_ret (pv 2))) pss_nil))) <|
    pss_one (ps_ret pe_non), ?_⟩
  refine ⟨_, rfl, l, _, rfl, .inl hl, 1, ((itV as).length : Nat), rfl, ⟨by decide, by decide, by rw [itV_len ha]; omega, by rw [itV_len ha]; omega⟩, ?_⟩
  rw [itV_len ha]
  refine for_range (lo := 1) (n := (((its.length : Nat) : Int) - 1).toNat) (fun i σ G => G = H ∧ NoFt its w (1 + i) ∧ ∃ v2, σ = [some (.ref l), some (.int (w : Int)), v2]) ⟨rfl, fun i h0 h1 => by omega, none, rfl⟩ ?_ ?_
  · rintro i σ G hi ⟨rfl, hf, v2, rfl⟩
    have h1 : (1 : Int) + (i : Int) = ((1 + i : Nat) : Int) := by omega
    rw [h1]
    obtain ⟨a, e1, _, e2⟩ := ha.at (i := 1 + i) (by omega)
    obtain ⟨c, e3, _, e4⟩ := ha.at (i := paN w (1 + i)) (Nat.lt_trans (paN_lt (by omega)) (by omega))
    refine ⟨_, rfl, _, rfl, l, _, _, _, rfl, rfl, hl, e1, a, _, _, _, rfl, rfl, SqT.of e2, rfl, ?_⟩
    refine ⟨_, rfl, _, rfl, _, rfl, 1 + i, w, rfl, hw, ?_⟩
    rw [if_neg (by omega)]
    refine ⟨l, _, _, _, rfl, rfl, hl, e3, c, _, _, _, rfl, rfl, SqT.of e4, rfl, ?_⟩
    refine ⟨_, _, rfl, rfl, _, rfl, iteB (fun h2 => ?_) (fun h2 => ?_)⟩
    · exact ⟨_, rfl, q _ (.inr ⟨1 + i, rfl, by omega, by omega, h2⟩)⟩
    · refine ⟨rfl, fun j h0 hj => ?_, _, rfl⟩
      by_cases e : j = 1 + i
      · subst e
        exact h2
      · exact hf j h0 (by omega)
  · rintro σ G ⟨rfl, hf, v2, rfl⟩
    exact q _ (.inl ⟨rfl, fun i h0 hi => hf i h0 (by omega)⟩)
def heapB (its : List (Int × Int)) (w : Nat) : Bool := (List.range its.length).all fun i => decide (i = 0) || !ftB its w i
theorem heapB_iff {its : List (Int × Int)} {w : Nat} : heapB its w = true ↔ NoFt its w its.length := by
  unfold heapB NoFt
  rw [List.all_eq_true]
  constructor
  · intro h i h0 hi
    have := h i (List.mem_range.mpr hi)
    rw [Bool.or_eq_true, Bool.not_eq_true'] at this
    rcases this with h1 | h1
    · have := of_decide_eq_true h1
      omega
    · exact h1
  · intro h i hi
    rw [Bool.or_eq_true, Bool.not_eq_true']
    by_cases e : i = 0
    · exact .inl (decide_eq_true e)
    · exact .inr (h i (by omega) (List.mem_range.mp hi))
def spHeap (K : PySem.W.Frag) : Sp := fun vs H Q _ => ∃ (l : Addr) (as : List Addr) (its : List (Int × Int)) (w : Nat), vs = [.ref l, .int (w : Int)] ∧ SqL K H l (itV as) ∧ ItA H as its ∧ WdN w ∧ its.length ≤ 900 ∧ Q (.bl (heapB its w)) H
theorem ok_heap {f g : Addr} (T0 : FT K mg "is_heap" s_is_heap psIW f) {gd : FuncData} (FP : Fun K "first_fault" "first_fault" s_first_fault g gd) (bP : Binds K gd psIW []) (mP : mg "first_fault" = some (.ref g)) (GP : FnOk P w K mg base CX0 2 g gd psIW (spFF K)) :
    ∃ fd, Fun K "is_heap" "is_heap" s_is_heap f fd ∧ Binds K fd psIW [] ∧ FnOk P w K mg base CX0 3 f fd psIW (spHeap K) := by
  obtain ⟨fd, F, b⟩ := T0.fn
  refine ⟨fd, F, b, F.ok c_is_heap (fun vs H Q E h => ?_) (fun cdv A outer s H vs Q E hr h => ?_)⟩
  · obtain ⟨l, as, its, w, rfl, _⟩ := h
    rfl
  obtain ⟨l, as, its, w, rfl, hl, ha, hw, hn, q⟩ := h
  refine ⟨_, pss_one (ps_ret (pe_cmp (pc_isN (pe_call GP hr rfl mP FP.kp bP .nil pass0 (pa_cons (pv 0) (pa_cons (pv 1) pa_nil)))) rfl)), ?_⟩
  refine ⟨_, rfl, _, rfl, l, as, its, w, rfl, hl, ha, hw, hn, fun v hv => ?_⟩
  rcases hv with ⟨rfl, h⟩ | ⟨i, rfl, h0, h1, h2⟩
  · rw [heapB_iff.mpr h] at q
    exact q
  · have : heapB its w = false := by
      cases e : heapB its w with
      | false => rfl
      | true =>
        have := heapB_iff.mp e i h0 h1
        rw [h2] at this
        cases this
    rw [this] at q
    exact q
end
end H2
namespace H2
open PySem PySem.Spec PyProof.Rows L2 Hx Nd Dun
section
variable {P : Program} {w : World} {K : PySem.W.Frag} {mg : Str → Option Value} {base : Heap} {D : Addr}
/-! ### items and cases -/
def IntV (K : PySem.W.Frag) (H : Hp) (v : V) (b : Bool) : Prop := ∃ (t : Value) (b1 b2 : Bool), TyX K H v t ∧ PySem.W.kitOne K t (.type "int") = some b1 ∧ PySem.W.kitOne K t (.type "bool") = some b2 ∧ b = (b1 && !b2)
theorem intV_int {H : Hp} (n : Int) : IntV K H (.int n) true := ⟨.type "int", true, false, .base (.int n), kit_ty (by decide +kernel), kit_ty (by decide +kernel), rfl⟩
def spInt (K : PySem.W.Frag) : Sp := fun vs H Q _ => ∃ (v : V) (b : Bool), vs = [v] ∧ IntV K H v b ∧ Q (.bl b) H
theorem ok_int {f : Addr} (T0 : FT K mg "is_integer" s_is_integer ["value"] f) (isi : mg "isinstance" = none) (it : mg "int" = none) (bo : mg "bool" = none) : ∃ fd, Fun K "is_integer" "is_integer" s_is_integer f fd ∧ Binds K fd ["value"] [] ∧ FnOk P w K mg base CX0 1 f fd ["value"] (spInt K) := by
  obtain ⟨fd, F, b⟩ := T0.fn
  refine ⟨fd, F, b, F.ok c_is_integer (fun vs H Q E h => ?_) (fun cdv A outer s H vs Q E hr h => ?_)⟩
  · obtain ⟨v, b, rfl, _⟩ := h
    rfl
  obtain ⟨v, b, rfl, ⟨t, b1, b2, ty, k1, k2, rfl⟩, q⟩ := h
  refine ⟨_, pss_one (ps_ret (pe_and (pe_callB call_isi (by rfl) isi (by decide +kernel) (pa_cons (pv 0) (pa_cons (pe_bltn (x := "int") (v := .ty "int") rfl it (by decide +kernel) rfl) pa_nil)))
    (pe_one (pe_not (pe_callB call_isi (by rfl) isi (by decide +kernel) (pa_cons (pv 0) (pa_cons (pe_bltn (x := "bool") (v := .ty "bool") rfl bo (by decide +kernel) rfl) pa_nil))))))), ?_⟩
  refine ⟨_, rfl, v, .ty "int", t, .type "int", b1, rfl, .ty _, ty, k1, b1, rfl, ?_⟩
  cases b1 with
  | false => exact q
  | true => exact ⟨_, rfl, v, .ty "bool", t, .type "bool", b2, rfl, .ty _, ty, k2, _, rfl, q⟩
def ItemV (K : PySem.W.Frag) (H : Hp) (v : V) (b : Bool) : Prop := ∃ (t : Value) (b1 : Bool), TyX K H v t ∧ PySem.W.kitOne K t (.type "tuple") = some b1 ∧ (b1 = false → b = false) ∧
  (b1 = true → ∃ a xs, v = .ref a ∧ SqT K H a xs ∧ (xs.length ≠ 2 → b = false) ∧ ∀ x y, xs = [x, y] → ∃ c d, IntV K H x c ∧ IntV K H y d ∧ b = (c && d))
theorem itemV_tup {H : Hp} {a : Addr} {k m : Int} (h : H a = some (.tup [.int k, .int m])) : ItemV K H (.ref a) true :=
  ⟨.type "tuple", true, .base (.tup h), kit_ty (by decide +kernel), fun z => Bool.noConfusion z, fun _ => ⟨a, _, rfl, SqT.of h, fun z => absurd rfl z, fun x y e => by
    cases e
    exact ⟨true, true, intV_int k, intV_int m, rfl⟩⟩⟩
def spItem (K : PySem.W.Frag) : Sp := fun vs H Q _ => ∃ (v : V) (b : Bool), vs = [v] ∧ ItemV K H v b ∧ Q (.bl b) H
theorem ok_item {f g : Addr} (T0 : FT K mg "is_item" s_is_item ["value"] f) (isi : mg "isinstance" = none) (tup : mg "tuple" = none) (len : mg "len" = none) {gd : FuncData} (FI : Fun K "is_integer" "is_integer" s_is_integer g gd) (bI : Binds K gd ["value"] []) (mI : mg "is_integer" = some (.ref g)) (GI : FnOk P w K mg base CX0 1 g gd ["value"] (spInt K)) :
    ∃ fd, Fun K "is_item" "is_item" s_is_item f fd ∧ Binds K fd ["value"] [] ∧ FnOk P w K mg base CX0 2 f fd ["value"] (spItem K) := by
  obtain ⟨fd, F, b⟩ := T0.fn
  refine ⟨fd, F, b, F.ok c_is_item (fun vs H Q E h => ?_) (fun cdv A outer s H vs Q E hr h => ?_)⟩
  · obtain ⟨v, b, rfl, _⟩ := h
    rfl
  obtain ⟨v, b, rfl, ⟨t, b1, ty, k1, h0, h1⟩, q⟩ := h
  refine ⟨_, pss_one (ps_ret (pe_and (pe_callB call_isi (by rfl) isi (by decide +kernel) (pa_cons (pv 0) (pa_cons (pe_bltn (x := "tuple") (v := .ty "tuple") rfl tup (by decide +kernel) rfl) pa_nil)))
    (pe_and (pe_cmpR op_eq (pe_callB call_len_seq (by rfl) len PySem.boot_len (pa_cons (pv 0) pa_nil)) pe_int (nomark _))
    (pe_and (pe_call GI hr rfl mI FI.kp bI .nil pass0 (pa_cons (pe_ix ix_tup (pv 0) pe_int (fun _ _ => rfl)) pa_nil))
    (pe_one (pe_call GI hr rfl mI FI.kp bI .nil pass0 (pa_cons (pe_ix ix_tup (pv 0) pe_int (fun _ _ => rfl)) pa_nil))))))), ?_⟩
  refine ⟨_, rfl, v, .ty "tuple", t, .type "tuple", b1, rfl, .ty _, ty, k1, b1, rfl, ?_⟩
  cases b1 with
  | false =>
    rw [h0 rfl] at q
    exact q
  | true =>
    obtain ⟨a, xs, rfl, hs, n2, y2⟩ := h1 rfl
    refine ⟨_, rfl, a, _, rfl, .inr hs, rfl, _, rfl, ?_⟩
    by_cases e : xs.length = 2
    · obtain ⟨x, y, rfl⟩ : ∃ x y, xs = [x, y] := by
        match xs, e with
        | [x, y], _ => exact ⟨x, y, rfl⟩
      obtain ⟨c, d, hc, hd, rfl⟩ := y2 x y rfl
      refine iteT ?_
      refine ⟨_, rfl, a, _, _, _, rfl, rfl, hs, rfl, x, c, rfl, hc, c, rfl, ?_⟩
      cases c with
      | false => exact q
      | true => exact ⟨_, rfl, a, _, _, _, rfl, rfl, hs, rfl, y, d, rfl, hd, q⟩
    · rw [n2 e] at q
      have : decide (V.int (xs.length : Nat) = V.int 2) = false := decide_eq_false (fun z => e (by injection z with z; omega))
      rw [this]
      exact q
/-- no mark stands twice -/
def MkNd (its : List (Int × Int)) : Prop := ∀ i j, i < its.length → j < its.length → mkA its i = mkA its j → i = j
def spFB (K : PySem.W.Frag) : Sp := fun vs H Q _ => ∃ (l : Addr) (as : List Addr) (its : List (Int × Int)), vs = [.ref l] ∧ SqL K H l (itV as) ∧ ItA H as its ∧ MkNd its ∧ its.length ≤ 900 ∧ ∀ H', Same H H' → Q .non H'
theorem itV_at {as : List Addr} {x : V} {i : Nat} (h : (itV as)[i]? = some x) : ∃ a, as[i]? = some a ∧ x = .ref a := by
  unfold itV at h
  rw [List.getElem?_map] at h
  cases hz : as[i]? with
  | none => rw [hz] at h; cases h
  | some a => rw [hz] at h; exact ⟨a, rfl, (Option.some.inj h).symm⟩
theorem ItA.get {H : Hp} {as : List Addr} {its : List (Int × Int)} (h : ItA H as its) {i : Nat} {a : Addr} (hi : as[i]? = some a) : i < its.length ∧ H a = some (.tup [.int (kyA its i), .int (mkA its i)]) := by
  have h1 : i < its.length := by rw [← h.1]; exact (List.getElem?_eq_some_iff.mp hi).1
  obtain ⟨b, _, h2, h3⟩ := h.at h1
  rw [hi] at h2
  cases h2
  exact ⟨h1, h3⟩
theorem ok_fb {f g : Addr} (T0 : FT K mg "first_bad_item" s_first_bad_item ["values"] f) (enu : mg "enumerate" = none) {gd : FuncData} (FI : Fun K "is_item" "is_item" s_is_item g gd) (bI : Binds K gd ["value"] []) (mI : mg "is_item" = some (.ref g)) (GI : FnOk P w K mg base CX0 2 g gd ["value"] (spItem K)) :
    ∃ fd, Fun K "first_bad_item" "first_bad_item" s_first_bad_item f fd ∧ Binds K fd ["values"] [] ∧ FnOk P w K mg base CX0 3 f fd ["values"] (spFB K) := by
  obtain ⟨fd, F, b⟩ := T0.fn
  refine ⟨fd, F, b, F.ok c_first_bad_item (fun vs H Q E h => ?_) (fun cdv A outer s H vs Q E hr h => ?_)⟩
  · obtain ⟨l, as, its, rfl, _⟩ := h
    rfl
  obtain ⟨l, as, its, rfl, hl, ha, hm, hn, q⟩ := h
  refine ⟨_, pss_cons (ps_set (i := 1) c_first_bad_item.nd rfl (Or.inl rfl) pe_dnewK) <|
    pss_cons (ps_for PassesOwn.never rfl (pi_enum (by rfl) enu (pa_cons (pv 0) pa_nil)) (pg_tup rfl (pgs_cons (pg_name (i := 2) c_first_bad_item.nd rfl (Or.inl rfl)) (pgs_cons (pg_name (i := 3) c_first_bad_item.nd rfl (Or.inl rfl)) pgs_nil)))
      (pss_cons (ps_if (PW.pt (pw_or (pt_not (pt_val (pe_call GI hr rfl mI FI.kp bI .nil pass0 (pa_cons (pv 3) pa_nil)))) (pw_or1 (pt_cmp (pc_din (hu_of hr) (pe_ix ix_tup (pv 3) pe_int (fun _ _ => rfl)) (pv 1)))))) (pss_one (ps_ret (pv 2))) pss_nil) <|
      pss_one (ps_dput (hu_of hr) (pv 1) (pe_ix ix_tup (pv 3) pe_int (fun _ _ => rfl)) pe_bl rfl))) <|
    pss_one (ps_ret pe_non), ?_⟩
  intro d nd
  refine ⟨_, rfl, l, _, rfl, sqt_list_same hl (new_same nd), for_it (walk_enum (xs := itV as)) (fun i σ G => Same H G ∧ (∃ kvs, G d = some (.dK kvs) ∧ kvs.length ≤ i ∧ ∀ m : Int, valV kvs (Sum.inl m) ≠ none → ∃ j, j < i ∧ mkA its j = m) ∧ ∃ v2 v3, σ = [some (.ref l), some (.ref d), v2, v3])
    ⟨new_same nd, ⟨[], upd_same, Nat.le_refl _, fun m h => absurd rfl h⟩, none, none, rfl⟩ ?_ ?_ ?_⟩
  · rintro i σ G _ ⟨sG, _⟩
    exact sqt_list_same hl sG
  · rintro i x σ G G' hi ⟨sG, ⟨kvs, ed, hk, hv⟩, v2, v3, rfl⟩ ⟨Tn, k, v, rfl, nT, rfl, hk1, hk2⟩
    obtain ⟨a, e1, rfl⟩ := itV_at hk2
    obtain ⟨hil, e2⟩ := ha.get e1
    cases hk1
    have sT := same_new (o := .tup [.int (i : Nat), .ref a]) sG nT
    have e3 := sT _ _ e2
    have ed' : (upd G Tn (.tup [.int (i : Nat), .ref a])) d = some (.dK kvs) := (new_same nT) _ _ ed
    refine ⟨Tn, _, rfl, SqT.of upd_same, rfl, _, _, rfl, _, _, rfl, rfl, ?_⟩
    refine ⟨_, rfl, .ref a, true, rfl, itemV_tup e3, _, rfl, iteF ?_⟩
    have hnone : valV kvs (Sum.inl (mkA its i)) = none := by
      cases hz : valV kvs (Sum.inl (mkA its i)) with
      | none => rfl
      | some z =>
        obtain ⟨j, hj, e⟩ := hv _ (by rw [hz]; exact Option.some_ne_none _)
        have := hm j i (by omega) hil e
        omega
    refine ⟨_, rfl, a, _, _, _, rfl, rfl, SqT.of e3, rfl, _, rfl, d, _, rfl, DGet.k (k := Sum.inl (mkA its i)) ed', _, rfl, ?_⟩
    rw [hnone]
    refine iteF ?_
    refine ⟨_, rfl, _, rfl, a, _, _, _, rfl, rfl, SqT.of e3, rfl, d, _, rfl, DPut.k (k := Sum.inl (mkA its i)) ed' (big (by omega)), ?_⟩
    refine ⟨fun c o z => ?_, ⟨_, upd_same, Nat.le_trans put_len (by omega), fun m h => ?_⟩, _, _, rfl⟩
    · rw [upd_ne (ne_of_none z nd)]
      exact sT _ _ z
    · rw [valV_put] at h
      by_cases e : (Sum.inl m : Key) = Sum.inl (mkA its i)
      · injection e with e
        exact ⟨i, by omega, e.symm⟩
      · rw [if_neg e] at h
        obtain ⟨j, hj, e⟩ := hv m h
        exact ⟨j, by omega, e⟩
  · rintro σ G ⟨sG, _⟩
    exact q _ sG
end
end H2
namespace H2
open PySem PySem.Spec PyProof.Rows L2 Hx Nd Dun
section
variable {P : Program} {w : World} {K : PySem.W.Frag} {mg : Str → Option Value} {base : Heap} {D : Addr}
/-! ### lists made of lists -/
theorem flat_ints (xs : List Int) : (xs.map V.int).all flatV = true := by
  induction xs with
  | nil => rfl
  | cons x r ih => rw [List.map_cons, List.all_cons, ih]; rfl
theorem inV_int {x : Int} {xs : List Int} : inV (.int x) (xs.map V.int) = decide (x ∈ xs) := by
  induction xs with
  | nil => rw [decide_eq_false (List.not_mem_nil)]; rfl
  | cons y r ih =>
    have e : inV (.int x) ((y :: r).map V.int) = (eqV (.int y) (.int x) || inV (.int x) (r.map V.int)) := rfl
    rw [e, ih]
    have e2 : eqV (.int y) (.int x) = decide (y = x) := rfl
    rw [e2, ← Bool.decide_or, decide_eq_decide, List.mem_cons]
    exact ⟨fun h => h.elim (fun z => .inl z.symm) .inr, fun h => h.elim (fun z => .inl z.symm) .inr⟩
theorem eqv_nil_i (ys : List Int) : PyData.eqv (.list (ys.map PyData.int)) (.list []) = ys.isEmpty := by
  cases ys with
  | nil => rfl
  | cons y r => simp [PyData.eqv, PyData.eqvAll]
/-- [f(x) for x in xs if P(x)], xs ints -/
theorem lc_filt {K : PySem.W.Frag} {a : Addr} {xs : List Int} (P : Int → Bool) (φ : Int → V) {tt : TT} {te : TE} {j : Nat} {σ : L2.St} {G1 : Hp} {D : Addr} {Qd : Hp → Prop} (hsq : G1 a = some (.lst (xs.map V.int))) (nD : G1 D = none) (hlen : xs.length ≤ 100000)
    (hw : ∀ v, wipe ((wipe σ [j]).set j (some v)) [j] = wipe σ [j])
    (ht : ∀ (x : Int) (G : Hp) (Z : Bool → Hp → Prop), x ∈ xs → Same G1 G → (∀ H', Same G H' → Z (P x) H') → tt ((wipe σ [j]).set j (some (.int x))) G Z)
    (he : ∀ (x : Int) (G : Hp) (Z : VK), x ∈ xs → Same G1 G → P x = true → (∀ H', Same G H' → Z (φ x) H') → te ((wipe σ [j]).set j (some (.int x))) G Z)
    (hd : ∀ G, Same G1 G → G D = some (.lst ((xs.filter P).map φ)) → Qd G) :
    ∃ W : Nat → Nat → Hp → Prop, (∃ m, W 0 m (upd G1 D (.lst []))) ∧ ∀ i m H, W i m H →
      ((Itl K a).stop i H ∧ Qd H) ∨ ((Itl K a).go i H ∧ ∃ Nx : Hp → Prop, (∀ H', Nx H' → ∃ m', m' < m ∧ W (i + 1) m' H') ∧ ∀ x H', (Itl K a).yld i H x H' → gName j x (wipe σ [j]) H' fun σ2 H2 => wipe σ2 [j] = wipe σ [j] ∧ tt σ2 H2 fun b H3 =>
        if b = true then te σ2 H3 fun y H4 => ∃ acc, H4 D = some (.lst acc) ∧ acc.length < sizeLine ∧ Nx (upd H4 D (.lst (acc ++ [y]))) else Nx H3) := by
  refine lc_list (K := K) (a := a) (xs := xs.map V.int) (fun i G => Same G1 G ∧ G D = some (.lst (((xs.take i).filter P).map φ))) ⟨new_same nD, upd_same⟩ ?_ ?_ ?_
  · rintro i G _ ⟨s, _⟩
    exact SqL.of (s _ _ hsq)
  · rintro i v G hi ⟨s, e⟩
    rw [List.getElem?_map] at hi
    cases hx : xs[i]? with
    | none => rw [hx] at hi; cases hi
    | some x =>
      rw [hx] at hi
      cases hi
      have hm := List.mem_of_getElem? hx
      have et : (xs.take (i + 1)).filter P = (xs.take i).filter P ++ (if P x = true then [x] else []) := by
        rw [List.take_add_one, hx, List.filter_append, Option.toList_some, List.filter_cons, List.filter_nil]
      refine ⟨hw _, ht x G _ hm s fun H2 s2 => ?_⟩
      cases hP : P x with
      | true =>
        rw [if_pos rfl]
        refine he x H2 _ hm (fun c o z => s2 _ _ (s _ _ z)) hP fun H3 s3 => ?_
        refine ⟨_, s3 _ _ (s2 _ _ e), ?_, same_out (fun c o z => s3 _ _ (s2 _ _ (s _ _ z))) nD, ?_⟩
        · rw [List.length_map]
          exact Nat.lt_of_le_of_lt (Nat.le_trans (List.length_filter_le _ _) (by rw [List.length_take]; exact Nat.min_le_right _ _)) (Nat.lt_of_le_of_lt hlen (by decide))
        · rw [upd_same, et, if_pos hP, List.map_append]
          rfl
      | false =>
        rw [if_neg Bool.false_ne_true]
        refine ⟨fun c o z => s2 _ _ (s _ _ z), ?_⟩
        rw [et, hP, if_neg Bool.false_ne_true, List.append_nil]
        exact s2 _ _ e
  · rintro G ⟨s, e⟩
    rw [List.length_map, List.take_length] at e
    exact hd G s e
/-- the numbers lo, lo + 1, .. (n of them) -/
def rangeI (lo : Int) (n : Nat) : List Int := (List.range n).map fun (i : Nat) => lo + (i : Int)
theorem mem_rangeI {lo y : Int} {n : Nat} : y ∈ rangeI lo n ↔ lo ≤ y ∧ y < lo + n := by
  unfold rangeI
  rw [List.mem_map]
  constructor
  · rintro ⟨i, hi, rfl⟩
    have := List.mem_range.mp hi
    omega
  · rintro ⟨h1, h2⟩
    exact ⟨(y - lo).toNat, List.mem_range.mpr (by omega), by omega⟩
theorem rangeI_succ (lo : Int) (n : Nat) : rangeI lo (n + 1) = rangeI lo n ++ [lo + (n : Int)] := by
  unfold rangeI
  rw [List.range_succ, List.map_append]
  rfl
/-- [x for x in range(..) if P(x)] -/
theorem lcr_filt {lo : Int} {n : Nat} (P : Int → Bool) {tt : TT} {te : TE} {j : Nat} {σ : L2.St} {G1 : Hp} {D : Addr} {Qd : Hp → Prop} (nD : G1 D = none) (hlen : n ≤ 100000)
    (hw : ∀ v, wipe ((wipe σ [j]).set j (some v)) [j] = wipe σ [j])
    (ht : ∀ (x : Int) (G : Hp) (Z : Bool → Hp → Prop), lo ≤ x → x < lo + n → Same G1 G → (∀ H', Same G H' → Z (P x) H') → tt ((wipe σ [j]).set j (some (.int x))) G Z)
    (he : ∀ (x : Int) (G : Hp) (Z : VK), Z (.int x) G → te ((wipe σ [j]).set j (some (.int x))) G Z)
    (hd : ∀ G, Same G1 G → G D = some (.lst (((rangeI lo n).filter P).map V.int)) → Qd G) :
    ∃ W : Nat → Nat → Hp → Prop, (∃ m, W 0 m (upd G1 D (.lst []))) ∧ ∀ i m H, W i m H →
      ((Itr lo n).stop i H ∧ Qd H) ∨ ((Itr lo n).go i H ∧ ∃ Nx : Hp → Prop, (∀ H', Nx H' → ∃ m', m' < m ∧ W (i + 1) m' H') ∧ ∀ x H', (Itr lo n).yld i H x H' → gName j x (wipe σ [j]) H' fun σ2 H2 => wipe σ2 [j] = wipe σ [j] ∧ tt σ2 H2 fun b H3 =>
        if b = true then te σ2 H3 fun y H4 => ∃ acc, H4 D = some (.lst acc) ∧ acc.length < sizeLine ∧ Nx (upd H4 D (.lst (acc ++ [y]))) else Nx H3) := by
  refine lc_range (lo := lo) (n := n) (fun i G => Same G1 G ∧ G D = some (.lst (((rangeI lo i).filter P).map V.int))) ⟨new_same nD, upd_same⟩ ?_ ?_
  · rintro i G hi ⟨s, e⟩
    have et : (rangeI lo (i + 1)).filter P = (rangeI lo i).filter P ++ (if P (lo + (i : Int)) = true then [lo + (i : Int)] else []) := by
      rw [rangeI_succ, List.filter_append, List.filter_cons, List.filter_nil]
    refine ⟨hw _, ht _ G _ (by omega) (by omega) s fun H2 s2 => ?_⟩
    cases hP : P (lo + (i : Int)) with
    | true =>
      rw [if_pos rfl]
      refine he _ H2 _ ⟨_, s2 _ _ e, ?_, same_out (fun c o z => s2 _ _ (s _ _ z)) nD, ?_⟩
      · rw [List.length_map]
        refine Nat.lt_of_le_of_lt (List.length_filter_le _ _) ?_
        unfold rangeI
        rw [List.length_map, List.length_range]
        exact Nat.lt_of_le_of_lt (Nat.le_trans (Nat.le_of_lt hi) hlen) (by decide)
      · rw [upd_same, et, if_pos hP, List.map_append]
        rfl
    | false =>
      rw [if_neg Bool.false_ne_true]
      refine ⟨fun c o z => s2 _ _ (s _ _ z), ?_⟩
      rw [et, hP, if_neg Bool.false_ne_true, List.append_nil]
      exact s2 _ _ e
  · rintro G ⟨s, e⟩
    exact hd G s e
/-- [f(x) for x in xs]: the values one by one -/
theorem lc_map {K : PySem.W.Frag} {a : Addr} {xs ys : List V} {g : TG} {te : TE} {vs : List Nat} {σ : L2.St} {G1 : Hp} {D : Addr} {Qd : Hp → Prop} (hsq : SqL K G1 a xs) (nD : G1 D = none) (hl : xs.length = ys.length) (hlen : ys.length ≤ 100000)
    (hs : ∀ (i : Nat) (x y : V) (G : Hp) (Z : V → Hp → Prop), xs[i]? = some x → ys[i]? = some y → Same G1 G → (∀ H', Same G H' → Z y H') → g x (wipe σ vs) G fun σ2 H2 => wipe σ2 vs = wipe σ vs ∧ te σ2 H2 Z)
    (hd : ∀ G, Same G1 G → G D = some (.lst ys) → Qd G) :
    ∃ W : Nat → Nat → Hp → Prop, (∃ m, W 0 m (upd G1 D (.lst []))) ∧ ∀ i m H, W i m H →
      ((Itl K a).stop i H ∧ Qd H) ∨ ((Itl K a).go i H ∧ ∃ Nx : Hp → Prop, (∀ H', Nx H' → ∃ m', m' < m ∧ W (i + 1) m' H') ∧ ∀ x H', (Itl K a).yld i H x H' → g x (wipe σ vs) H' fun σ2 H2 => wipe σ2 vs = wipe σ vs ∧ tYes σ2 H2 fun b H3 =>
        if b = true then te σ2 H3 fun y H4 => ∃ acc, H4 D = some (.lst acc) ∧ acc.length < sizeLine ∧ Nx (upd H4 D (.lst (acc ++ [y]))) else Nx H3) := by
  refine lc_list (K := K) (a := a) (xs := xs) (fun i G => Same G1 G ∧ G D = some (.lst (ys.take i))) ⟨new_same nD, upd_same⟩ ?_ ?_ ?_
  · rintro i G _ ⟨s, _⟩
    exact sqt_list_same hsq s
  · rintro i x G hi ⟨s, e⟩
    have h1 : i < ys.length := by rw [← hl]; exact (List.getElem?_eq_some_iff.mp hi).1
    have h2 := List.getElem?_eq_getElem h1
    unfold tYes
    dsimp only
    simp only [if_true]
    refine hs i x _ G _ hi h2 s fun H' s' => ⟨_, s' _ _ e, ?_, same_out (fun c o z => s' _ _ (s _ _ z)) nD, ?_⟩
    · rw [List.length_take]
      exact Nat.lt_of_le_of_lt (Nat.le_trans (Nat.min_le_right _ _) hlen) (by decide)
    · rw [upd_same, List.take_add_one, h2]
      rfl
  · rintro G ⟨s, e⟩
    rw [hl, List.take_length] at e
    exact hd G s e
theorem inV_strs {x : Str} {os : List Str} : inV (.str x) (os.map V.str) = decide (x ∈ os) := by
  induction os with
  | nil => rw [decide_eq_false (List.not_mem_nil)]; rfl
  | cons y r ih =>
    have e : inV (.str x) ((y :: r).map V.str) = (eqV (.str y) (.str x) || inV (.str x) (r.map V.str)) := rfl
    rw [e, ih]
    have e2 : eqV (.str y) (.str x) = decide (y = x) := rfl
    rw [e2, ← Bool.decide_or, decide_eq_decide, List.mem_cons]
    exact ⟨fun h => h.elim (fun z => .inl z.symm) .inr, fun h => h.elim (fun z => .inl z.symm) .inr⟩
end
end H2
namespace H2
open PySem PySem.Spec PyProof.Rows L2 Hx Nd Dun
section
variable {P : Program} {w : World} {K : PySem.W.Frag} {mg : Str → Option Value} {base : Heap} {D : Addr}
/-! ### start_fits, given_fits -/
def startW : List Str := ["out", "either", "above", "below", "tree"]
def givenW : List Str := ["put", "top"]
def toldW : List Str := ["take", "top", "out"]
def heapsW : List Str := ["put", "take", "top", "out"]
theorem flat_strs (os : List Str) : (os.map V.str).all flatV = true := by
  induction os with
  | nil => rfl
  | cons x r ih => rw [List.map_cons, List.all_cons, ih]; rfl
def StartV (K : PySem.W.Frag) (H : Hp) (kd : Str) (n : Nat) (v : V) (b : Bool) : Prop := (kd ∈ startW ∧ ∃ c, IntV K H v c ∧ (c = false → b = false) ∧ (c = true → ∃ s : Int, v = .int s ∧ b = decide (0 ≤ s ∧ s < n))) ∨ (kd ∉ startW ∧ b = decide (v = .non))
abbrev psSF : List Str := ["kind", "count", "start"]
def spSF (K : PySem.W.Frag) : Sp := fun vs H Q _ => ∃ (kd : Str) (n : Nat) (v : V) (b : Bool), vs = [.str kd, .int (n : Int), v] ∧ StartV K H kd n v b ∧ Q (.bl b) H
theorem ok_sf {f g aS : Addr} (T0 : FT K mg "start_fits" s_start_fits psSF f) (cS : TupT K mg "WITH_START" aS (startW.map V.str)) {gd : FuncData} (FI : Fun K "is_integer" "is_integer" s_is_integer g gd) (bI : Binds K gd ["value"] []) (mI : mg "is_integer" = some (.ref g)) (GI : FnOk P w K mg base CX0 1 g gd ["value"] (spInt K)) :
    ∃ fd, Fun K "start_fits" "start_fits" s_start_fits f fd ∧ Binds K fd psSF [] ∧ FnOk P w K mg base CX0 2 f fd psSF (spSF K) := by
  obtain ⟨fd, F, b⟩ := T0.fn
  refine ⟨fd, F, b, F.ok c_start_fits (fun vs H Q E h => ?_) (fun cdv A outer s H vs Q E hr h => ?_)⟩
  · obtain ⟨kd, n, v, b, rfl, _⟩ := h
    rfl
  obtain ⟨kd, n, v, b, rfl, hs, q⟩ := h
  refine ⟨_, pss_cons (ps_if (pt_cmpR op_in_seq (pv 0) (pe_glob (v := .ref aS) rfl cS.g rfl) rfl)
      (pss_one (ps_ret (pe_and (pe_call GI hr rfl mI FI.kp bI .nil pass0 (pa_cons (pv 2) pa_nil)) (pe_one (pe_chain op_le op_lt pe_int (pv 2) (pv 1)))))) pss_nil) <|
    pss_one (ps_ret (pe_cmp (pc_isN (pv 2)) rfl)), ?_⟩
  refine ⟨_, rfl, aS, _, rfl, .inr (cS.s _), rfl, flat_strs _, _, rfl, iteB (fun h1 => ?_) (fun h1 => ?_)⟩
  · have h1 := of_decide_eq_true (inV_strs.symm.trans h1)
    rcases hs with ⟨_, c, hi, hf, ht⟩ | ⟨h2, _⟩
    · refine ⟨_, rfl, v, c, rfl, hi, c, rfl, ?_⟩
      cases c with
      | false =>
        rw [hf rfl] at q
        exact q
      | true =>
        obtain ⟨st, rfl, rfl⟩ := ht rfl
        refine ⟨_, rfl, _, _, rfl, rfl, _, rfl, iteB (fun h2 => ?_) (fun h2 => ?_)⟩
        · refine ⟨_, rfl, _, _, rfl, rfl, ?_⟩
          have : decide (0 ≤ st ∧ st < (n : Int)) = decide (st < (n : Int)) := by
            rw [decide_eq_decide]
            exact ⟨fun z => z.2, fun z => ⟨of_decide_eq_true h2, z⟩⟩
          rw [this] at q
          exact q
        · have : decide (0 ≤ st ∧ st < (n : Int)) = false := decide_eq_false fun z => of_decide_eq_false h2 z.1
          rw [this] at q
          exact q
    · exact absurd h1 h2
  · have h1 := of_decide_eq_false (inV_strs.symm.trans h1)
    rcases hs with ⟨h2, _⟩ | ⟨_, rfl⟩
    · exact absurd h2 h1
    · exact ⟨_, rfl, q⟩
def GivV (K : PySem.W.Frag) (H : Hp) (kd : Str) (its : List (Int × Int)) (v : V) (b : Bool) : Prop := (kd ∈ givenW ∧ ((ItemV K H v false ∧ b = false) ∨ ∃ a k m, v = .ref a ∧ H a = some (.tup [.int k, .int m]) ∧ b = !decide (m ∈ its.map (·.2)))) ∨ (kd ∉ givenW ∧ b = decide (v = .non))
abbrev psGF : List Str := ["kind", "items", "given"]
def spGF (K : PySem.W.Frag) : Sp := fun vs H Q _ => ∃ (kd : Str) (l : Addr) (as : List Addr) (its : List (Int × Int)) (v : V) (b : Bool), vs = [.str kd, .ref l, v] ∧ SqL K H l (itV as) ∧ ItA H as its ∧ its.length ≤ 900 ∧ GivV K H kd its v b ∧ ∀ H', Same H H' → Q (.bl b) H'
theorem ok_gf {f g aS : Addr} (T0 : FT K mg "given_fits" s_given_fits psGF f) (cS : TupT K mg "WITH_GIVEN" aS (givenW.map V.str)) {gd : FuncData} (FI : Fun K "is_item" "is_item" s_is_item g gd) (bI : Binds K gd ["value"] []) (mI : mg "is_item" = some (.ref g)) (GI : FnOk P w K mg base CX0 2 g gd ["value"] (spItem K)) :
    ∃ fd, Fun K "given_fits" "given_fits" s_given_fits f fd ∧ Binds K fd psGF [] ∧ FnOk P w K mg base CX0 3 f fd psGF (spGF K) := by
  obtain ⟨fd, F, b⟩ := T0.fn
  refine ⟨fd, F, b, F.ok c_given_fits (fun vs H Q E h => ?_) (fun cdv A outer s H vs Q E hr h => ?_)⟩
  · obtain ⟨kd, l, as, its, v, b, rfl, _⟩ := h
    rfl
  obtain ⟨kd, l, as, its, v, b, rfl, hl, ha, hn, hg, q⟩ := h
  refine ⟨_, pss_cons (ps_if (pt_cmpR op_in_seq (pv 0) (pe_glob (v := .ref aS) rfl cS.g rfl) rfl)
      (pss_one (ps_ret (pe_and (pe_call GI hr rfl mI FI.kp bI .nil pass0 (pa_cons (pv 2) pa_nil)) (pe_one (pe_cmpR op_notIn_seq (pe_ix ix_tup (pv 2) pe_int (fun _ _ => rfl))
        (pe_lc (own := [("_", 3), ("mark", 4)]) (g := gTup K 2 (gCons (gName 3) (gCons (gName 4) gNil))) (tt := tYes) rfl c_given_fits.nd (pi_list (pv 1)) (blkOk_by (own := [("_", 3), ("mark", 4)]) (N := n_given_fits) (sc := defScope s_given_fits) (by decide +kernel))
          (fun _ _ _ _ _ => pg_tup rfl (pgs_cons (pg_name (i := 3) c_given_fits.nd rfl (Or.inl rfl)) (pgs_cons (pg_name (i := 4) c_given_fits.nd rfl (Or.inl rfl)) pgs_nil))) (fun _ _ _ _ _ => pts_nil) (fun _ _ _ _ _ => pv 4)) rfl))))) pss_nil) <|
    pss_one (ps_ret (pe_cmp (pc_isN (pv 2)) rfl)), ?_⟩
  refine ⟨_, rfl, aS, _, rfl, .inr (cS.s _), rfl, flat_strs _, _, rfl, iteB (fun h1 => ?_) (fun h1 => ?_)⟩
  · have h1 := of_decide_eq_true (inV_strs.symm.trans h1)
    rcases hg with ⟨_, ⟨hi, rfl⟩ | ⟨a, k, m, rfl, ea, rfl⟩⟩ | ⟨h2, _⟩
    · exact ⟨_, rfl, v, false, rfl, hi, _, rfl, q _ (Same.refl _)⟩
    · refine ⟨_, rfl, .ref a, true, rfl, itemV_tup ea, _, rfl, ?_⟩
      refine ⟨_, rfl, a, _, _, _, rfl, rfl, SqT.of ea, rfl, ?_⟩
      refine ⟨_, rfl, l, rfl, ⟨_, hl⟩, fun D nD => lc_map (ys := (its.map (·.2)).map V.int) hl nD (by rw [itV_len ha, List.length_map, List.length_map]) (by rw [List.length_map, List.length_map]; omega) ?_ ?_⟩
      · intro i x y G Z hx hy sG hz
        obtain ⟨b, e1, rfl⟩ := itV_at hx
        obtain ⟨hil, e2⟩ := ha.get e1
        refine ⟨b, _, rfl, SqT.of (sG _ _ e2), rfl, _, _, rfl, _, _, rfl, rfl, ?_⟩
        refine ⟨rfl, _, rfl, ?_⟩
        have : y = .int (mkA its i) := by
          rw [List.getElem?_map, List.getElem?_map, List.getElem?_eq_getElem hil] at hy
          cases hy
          unfold mkA
          rw [List.getD_eq_getElem?_getD, List.getElem?_eq_getElem hil]
          rfl
        rw [← this]
        exact hz G (Same.refl _)
      · intro G sG eG
        refine ⟨D, _, rfl, .inl (SqL.of eG), rfl, flat_ints _, ?_⟩
        rw [inV_int]
        exact q _ sG
    · exact absurd h1 h2
  · have h1 := of_decide_eq_false (inV_strs.symm.trans h1)
    rcases hg with ⟨h2, _⟩ | ⟨_, rfl⟩
    · exact absurd h2 h1
    · exact ⟨_, rfl, q _ (Same.refl _)⟩
end
end H2
namespace H2
open PySem PySem.Spec PyProof.Rows L2 Hx Nd Dun
section
variable {P : Program} {w : World} {K : PySem.W.Frag} {mg : Str → Option Value} {base : Heap} {D : Addr}
/-! ### the list of a kind -/
theorem all_rng {n : Nat} {P : Nat → Bool} : (List.range n).all P = true ↔ ∀ i, i < n → P i = true := by
  rw [List.all_eq_true]
  exact ⟨fun h i hi => h i (List.mem_range.mpr hi), fun h i hi => h i (List.mem_range.mp hi)⟩
theorem all_rngF {n i : Nat} {P : Nat → Bool} (hi : i < n) (hp : P i = false) : (List.range n).all P = false := by
  cases e : (List.range n).all P with
  | false => rfl
  | true =>
    have := all_rng.mp e i hi
    rw [hp] at this
    cases this
def undF (w s : Nat) : Nat → Nat → Bool
  | 0, i => decide (i = s)
  | n + 1, i => if i ≤ s then decide (i = s) else undF w s n (paN w i)
theorem undF_eq {w s : Nat} : ∀ n m i : Nat, i ≤ n → i ≤ m → undF w s n i = undF w s m i
  | 0, 0, i, _, _ => rfl
  | 0, m + 1, i, h, _ => by
    have : i = 0 := by omega
    subst this
    rw [undF, undF, if_pos (Nat.zero_le _)]
  | n + 1, 0, i, _, h => by
    have : i = 0 := by omega
    subst this
    rw [undF, undF, if_pos (Nat.zero_le _)]
  | n + 1, m + 1, i, h1, h2 => by
    rw [undF, undF]
    split
    · rfl
    · rename_i h
      have := paN_lt (w := w) (i := i) (by omega)
      exact undF_eq n m _ (by omega) (by omega)
/-- the place is in the tree of the start -/
def und (w s i : Nat) : Bool := undF w s i i
theorem und_le {w s i : Nat} (h : i ≤ s) : und w s i = decide (i = s) := by
  unfold und
  cases i with
  | zero => rfl
  | succ n => rw [undF, if_pos h]
theorem und_gt {w s i : Nat} (h : s < i) : und w s i = und w s (paN w i) := by
  unfold und
  cases i with
  | zero => omega
  | succ n =>
    rw [undF, if_neg (by omega)]
    have := paN_lt (w := w) (i := n + 1) (by omega)
    exact undF_eq _ _ _ (by omega) (Nat.le_refl _)
def trB (its : List (Int × Int)) (w s i : Nat) : Bool := decide (s < i) && (und w s (paN w i) && (decide (paN w i ≠ s) && ftB its w i))
def treeB (its : List (Int × Int)) (w s : Nat) : Bool := (List.range its.length).all fun i => !trB its w s i
abbrev psIWS : List Str := ["items", "width", "start"]
def spTr (K : PySem.W.Frag) : Sp := fun vs H Q _ => ∃ (l : Addr) (as : List Addr) (its : List (Int × Int)) (w s : Nat), vs = [.ref l, .int (w : Int), .int (s : Int)] ∧ SqL K H l (itV as) ∧ ItA H as its ∧ WdN w ∧ its.length ≤ 900 ∧ s < its.length ∧ ∀ H', Same H H' → Q (.bl (treeB its w s)) H'
theorem ok_tr {f g : Addr} (T0 : FT K mg "trees_are_heaps" s_trees_are_heaps psIWS f) (rng : mg "range" = none) (len : mg "len" = none) {gd : FuncData} (FP : Fun K "parent" "parent" s_parent g gd) (bP : Binds K gd psPW []) (mP : mg "parent" = some (.ref g)) (GP : FnOk P w K mg base CX0 1 g gd psPW spParent) :
    ∃ fd, Fun K "trees_are_heaps" "trees_are_heaps" s_trees_are_heaps f fd ∧ Binds K fd psIWS [] ∧ FnOk P w K mg base CX0 2 f fd psIWS (spTr K) := by
  obtain ⟨fd, F, b⟩ := T0.fn
  refine ⟨fd, F, b, F.ok c_trees_are_heaps (fun vs H Q E h => ?_) (fun cdv A outer s H vs Q E hr h => ?_)⟩
  · obtain ⟨l, as, its, w, s, rfl, _⟩ := h
    rfl
  obtain ⟨l, as, its, w, s, rfl, hl, ha, hw, hn, hsn, q⟩ := h
  refine ⟨_, pss_cons (ps_set (i := 3) c_trees_are_heaps.nd rfl (Or.inl rfl) (pe_disp (pps_cons (pv 2) pe_bl pps_nil) (by rfl) (by rfl) (fun z => by cases z) (by decide))) <|
    pss_cons (ps_for PassesOwn.never rfl (pi_range2 rfl rng (pa_cons (pe_op op_add (pv 2) pe_int) (pa_cons (pe_callB call_len_seq (by rfl) len PySem.boot_len (pa_cons (pv 0) pa_nil)) pa_nil))) (pg_name (i := 4) c_trees_are_heaps.nd rfl (Or.inl rfl))
      (pss_cons (ps_set (i := 5) c_trees_are_heaps.nd rfl (Or.inl rfl) (pe_call GP hr rfl mP FP.kp bP .nil pass0 (pa_cons (pv 4) (pa_cons (pv 1) pa_nil)))) <|
      pss_one (ps_if (pt_cmp (pc_din (hu_of hr) (pv 5) (pv 3)))
        (pss_cons (ps_dput (hu_of hr) (pv 3) (pv 4) pe_bl rfl) <|
        pss_one (ps_if (PW.pt (pw_and (pt_cmpR op_ne (pv 5) (pv 2) (nomark _)) (pw_and1 (pt_cmpR op_lt (pe_ix ix_tup (pe_ix ix_list (pv 0) (pv 4) (fun _ _ => rfl)) pe_int (fun _ _ => rfl)) (pe_ix ix_tup (pe_ix ix_list (pv 0) (pv 5) (fun _ _ => rfl)) pe_int (fun _ _ => rfl)) (nomark _)))))
          (pss_one (ps_ret pe_bl)) pss_nil)) pss_nil))) <|
    pss_one (ps_ret pe_bl), ?_⟩
  intro d nd
  refine ⟨_, rfl, upd_same, [(Sum.inl (s : Int), .bl true)], rfl, (by show 1 ≤ 15; decide), ?_⟩
  have s0 : Same H (upd (upd H d (.dK [])) d (.dK (mergeK [] [(Sum.inl (s : Int), V.bl true)]))) := fun c o z => by
    rw [upd_upd]
    exact (new_same nd) _ _ z
  have ed0 : (upd (upd H d (.dK [])) d (.dK (mergeK [] [(Sum.inl (s : Int), V.bl true)]))) d = some (.dK [(Sum.inl (s : Int), .bl true)]) := upd_same
  generalize upd (upd H d (.dK [])) d (.dK (mergeK [] [(Sum.inl (s : Int), V.bl true)])) = G0 at s0 ed0 ⊢
  refine ⟨_, rfl, _, _, rfl, rfl, _, rfl, l, _, rfl, .inl (sqt_list_same hl s0), (s : Int) + 1, ((itV as).length : Nat), rfl, ⟨by omega, by omega, by rw [itV_len ha]; omega, by rw [itV_len ha]; omega⟩, ?_⟩
  rw [itV_len ha]
  refine for_range (lo := (s : Int) + 1) (n := (((its.length : Nat) : Int) - ((s : Int) + 1)).toNat) (fun i σ G => Same H G ∧ (∃ kvs, G d = some (.dK kvs) ∧ kvs.length ≤ i + 1 ∧ ∀ m : Nat, (valV kvs (Sum.inl (m : Int))).isSome = (decide (m < s + 1 + i) && und w s m)) ∧ (∀ j, j < s + 1 + i → trB its w s j = false) ∧
      ∃ v4 v5, σ = [some (.ref l), some (.int (w : Int)), some (.int (s : Int)), some (.ref d), v4, v5]) ⟨s0, ⟨_, ed0, Nat.le_refl _, fun m => ?_⟩, fun j hj => ?_, none, none, rfl⟩ ?_ ?_
  · by_cases e : m = s
    · subst e
      rw [und_le (Nat.le_refl _), valV_pos rfl, decide_eq_true (show m < m + 1 + 0 by omega), decide_eq_true rfl]
      rfl
    · rw [valV_neg (fun z => e (by injection z with z; omega))]
      by_cases h : m < s + 1 + 0
      · rw [und_le (by omega), decide_eq_false e, Bool.and_false]
        rfl
      · rw [decide_eq_false h]
        rfl
  · unfold trB
    rw [decide_eq_false (by omega)]
    rfl
  · rintro i σ G hi ⟨sG, ⟨kvs, ed, hk, hv⟩, hf, v4, v5, rfl⟩
    have h1 : ((s : Int) + 1) + (i : Int) = ((s + 1 + i : Nat) : Int) := by omega
    rw [h1]
    have hpl := paN_lt (w := w) (i := s + 1 + i) (by omega)
    refine ⟨_, rfl, _, rfl, s + 1 + i, w, rfl, hw, ?_⟩
    rw [if_neg (by omega)]
    refine ⟨_, rfl, _, rfl, d, _, rfl, DGet.k (k := Sum.inl ((paN w (s + 1 + i) : Nat) : Int)) ed, _, rfl, ?_⟩
    rw [hv, decide_eq_true hpl, Bool.true_and]
    have hum : und w s (s + 1 + i) = und w s (paN w (s + 1 + i)) := und_gt (by omega)
    refine iteB (fun h2 => ?_) (fun h2 => ?_)
    · refine ⟨_, rfl, _, rfl, d, _, rfl, DPut.k (k := Sum.inl ((s + 1 + i : Nat) : Int)) ed (big (by omega)), ?_⟩
      have sG2 : Same H (upd G d (.dK (putK kvs (Sum.inl ((s + 1 + i : Nat) : Int)) (.bl true)))) := fun c o z => by
        rw [upd_ne (ne_of_none z nd)]
        exact sG _ _ z
      have hv2 : ∀ m : Nat, (valV (putK kvs (Sum.inl ((s + 1 + i : Nat) : Int)) (.bl true)) (Sum.inl (m : Int))).isSome = (decide (m < s + 1 + (i + 1)) && und w s m) := fun m => by
        rw [valV_put]
        by_cases e : m = s + 1 + i
        · subst e
          rw [if_pos rfl, hum, h2, decide_eq_true (by omega)]
          rfl
        · rw [if_neg (fun z => e (by injection z with z; omega)), hv m]
          have : decide (m < s + 1 + i) = decide (m < s + 1 + (i + 1)) := by
            rw [decide_eq_decide]
            omega
          rw [this]
      have ed2 : (upd G d (.dK (putK kvs (Sum.inl ((s + 1 + i : Nat) : Int)) (.bl true)))) d = some (.dK (putK kvs (Sum.inl ((s + 1 + i : Nat) : Int)) (.bl true))) := upd_same
      have hk2 : (putK kvs (Sum.inl ((s + 1 + i : Nat) : Int)) (.bl true)).length ≤ i + 1 + 1 := Nat.le_trans put_len (by omega)
      generalize upd G d (.dK (putK kvs (Sum.inl ((s + 1 + i : Nat) : Int)) (.bl true))) = G2 at sG2 ed2 ⊢
      generalize putK kvs (Sum.inl ((s + 1 + i : Nat) : Int)) (.bl true) = kvs2 at hv2 ed2 hk2
      have done : trB its w s (s + 1 + i) = false → Same H G2 ∧ (∃ kvs, G2 d = some (.dK kvs) ∧ kvs.length ≤ i + 1 + 1 ∧ ∀ m : Nat, (valV kvs (Sum.inl (m : Int))).isSome = (decide (m < s + 1 + (i + 1)) && und w s m)) ∧ (∀ j, j < s + 1 + (i + 1) → trB its w s j = false) := fun h3 =>
        ⟨sG2, ⟨_, ed2, hk2, hv2⟩, fun j hj => by
          by_cases e : j = s + 1 + i
          · rw [e]; exact h3
          · exact hf j (by omega)⟩
      refine ⟨_, rfl, _, rfl, rfl, _, rfl, iteB (fun h3 => ?_) (fun h3 => ?_)⟩
      · have hne : paN w (s + 1 + i) ≠ s := fun z => by
          rw [z] at h3
          simp at h3
        obtain ⟨a, e1, _, e2⟩ := ha.at (i := s + 1 + i) (by omega)
        obtain ⟨c, e3, _, e4⟩ := ha.at (i := paN w (s + 1 + i)) (by omega)
        have hl2 := sqt_list_same hl sG2
        refine ⟨_, rfl, _, rfl, l, _, _, _, rfl, rfl, hl2, e1, a, _, _, _, rfl, rfl, SqT.of (sG2 _ _ e2), rfl, ?_⟩
        refine ⟨_, rfl, _, rfl, l, _, _, _, rfl, rfl, hl2, e3, c, _, _, _, rfl, rfl, SqT.of (sG2 _ _ e4), rfl, ?_⟩
        have etr : trB its w s (s + 1 + i) = ftB its w (s + 1 + i) := by
          unfold trB
          rw [h2, decide_eq_true (by omega), decide_eq_true hne]
          rfl
        refine ⟨_, _, rfl, rfl, _, rfl, iteB (fun h4 => ?_) (fun h4 => ?_)⟩
        · have : treeB its w s = false := all_rngF (i := s + 1 + i) (by omega) (by rw [etr]; unfold ftB; rw [h4]; rfl)
          rw [this] at q
          exact q _ sG2
        · obtain ⟨a1, a2, a3⟩ := done (by rw [etr]; exact h4)
          exact ⟨a1, a2, a3, _, _, rfl⟩
      · have heq : paN w (s + 1 + i) = s := by
          have h4 : decide (V.int ((paN w (s + 1 + i) : Nat) : Int) = V.int (s : Int)) = true := by simpa using h3
          have := of_decide_eq_true h4
          injection this with z
          omega
        obtain ⟨a1, a2, a3⟩ := done (by unfold trB; simp [heq])
        exact ⟨a1, a2, a3, _, _, rfl⟩
    · refine ⟨sG, ⟨kvs, ed, by omega, fun m => ?_⟩, fun j hj => ?_, _, _, rfl⟩
      · by_cases e : m = s + 1 + i
        · subst e
          rw [hv, hum, h2, Bool.and_false, Bool.and_false]
        · rw [hv m]
          have : decide (m < s + 1 + i) = decide (m < s + 1 + (i + 1)) := by
            rw [decide_eq_decide]
            omega
          rw [this]
      · by_cases e : j = s + 1 + i
        · rw [e]
          unfold trB
          rw [h2]
          simp
        · exact hf j (by omega)
  · rintro σ G ⟨sG, _, hf, v4, v5, rfl⟩
    have : treeB its w s = true := all_rng.mpr fun i hi => by rw [hf i (by omega)]; rfl
    rw [this] at q
    exact q _ sG
end
end H2
namespace H2
open PySem PySem.Spec PyProof.Rows L2 Hx Nd Dun
section
variable {P : Program} {w : World} {K : PySem.W.Frag} {mg : Str → Option Value} {base : Heap} {D : Addr}
/-! ### is_heap_but_for, leans_right, list_fits -/
theorem ix_tupk {X : Cx} {K' : PySem.W.Frag} (hk : X.K = K') : IxR X (rIxT K') := hk ▸ ix_tup
/-- the place ahead of a place, the start left out -/
def loN (w s i : Nat) : Option Nat := if paN w i = s then (if s = 0 then none else some (paN w s)) else some (paN w i)
def btB (its : List (Int × Int)) (w s i : Nat) : Bool := decide (0 < i) && (decide (i ≠ s) && (match loN w s i with
  | none => false
  | some j => decide (kyA its i < kyA its j)))
def butB (its : List (Int × Int)) (w s : Nat) : Bool := (List.range its.length).all fun i => !btB its w s i
def loV (o : Option Nat) : V := match o with
  | none => .non
  | some j => .int (j : Nat)
def spBut (K : PySem.W.Frag) : Sp := fun vs H Q _ => ∃ (l : Addr) (as : List Addr) (its : List (Int × Int)) (w s : Nat), vs = [.ref l, .int (w : Int), .int (s : Int)] ∧ SqL K H l (itV as) ∧ ItA H as its ∧ WdN w ∧ its.length ≤ 900 ∧ s < its.length ∧ Q (.bl (butB its w s)) H
theorem loN_lt {w s i j n : Nat} (hi : 0 < i) (hin : i < n) (hs : s < n) (h : loN w s i = some j) : j < n := by
  unfold loN at h
  split at h
  · split at h
    · cases h
    · cases h
      have := paN_lt (w := w) (i := s) (by omega)
      omega
  · cases h
    have := paN_lt (w := w) (i := i) hi
    omega
theorem ok_but {f g : Addr} (T0 : FT K mg "is_heap_but_for" s_is_heap_but_for psIWS f) (rng : mg "range" = none) (len : mg "len" = none) {gd : FuncData} (FP : Fun K "parent" "parent" s_parent g gd) (bP : Binds K gd psPW []) (mP : mg "parent" = some (.ref g)) (GP : FnOk P w K mg base CX0 1 g gd psPW spParent) :
    ∃ fd, Fun K "is_heap_but_for" "is_heap_but_for" s_is_heap_but_for f fd ∧ Binds K fd psIWS [] ∧ FnOk P w K mg base CX0 2 f fd psIWS (spBut K) := by
  obtain ⟨fd, F, b⟩ := T0.fn
  refine ⟨fd, F, b, F.ok c_is_heap_but_for (fun vs H Q E h => ?_) (fun cdv A outer s H vs Q E hr h => ?_)⟩
  · obtain ⟨l, as, its, w, s, rfl, _⟩ := h
    rfl
  obtain ⟨l, as, its, w, s, rfl, hl, ha, hw, hn, hsn, q⟩ := h
  refine ⟨_, pss_cons (ps_set (i := 3) c_is_heap_but_for.nd rfl (Or.inl rfl) (pe_call GP hr rfl mP FP.kp bP .nil pass0 (pa_cons (pv 2) (pa_cons (pv 1) pa_nil)))) <|
    pss_cons (ps_for PassesOwn.never rfl (pi_range2 rfl rng (pa_cons pe_int (pa_cons (pe_callB call_len_seq (by rfl) len PySem.boot_len (pa_cons (pv 0) pa_nil)) pa_nil))) (pg_name (i := 4) c_is_heap_but_for.nd rfl (Or.inl rfl))
      (pss_cons (ps_set (i := 5) c_is_heap_but_for.nd rfl (Or.inl rfl) (pe_call GP hr rfl mP FP.kp bP .nil pass0 (pa_cons (pv 4) (pa_cons (pv 1) pa_nil)))) <|
      Evl.pss_cut (ps_if (pt_cmpR op_eq (pv 5) (pv 2) (nomark _)) (pss_one (ps_set (i := 5) c_is_heap_but_for.nd rfl (Or.inl rfl) (pv 3))) pss_nil) <|
      pss_one (ps_if (PW.pt (pw_and (pt_cmpR op_ne (pv 4) (pv 2) (nomark _)) (pw_and (pt_cmp (pc_notN (pv 5))) (pw_and1 (pt_cmpR op_lt (pe_ix ix_tup (pe_ix ix_list (pv 0) (pv 4) (fun _ _ => rfl)) pe_int (fun _ _ => rfl)) (pe_ix ix_tup (pe_ix ix_list (pv 0) (pv 5) (fun _ _ => rfl)) pe_int (fun _ _ => rfl)) (nomark _))))))
          (pss_one (ps_ret pe_bl)) pss_nil))) <|
    pss_one (ps_ret pe_bl), ?_⟩
  refine ⟨_, rfl, _, rfl, s, w, rfl, hw, ?_⟩
  obtain ⟨ab, hab⟩ : ∃ ab, ab = (if s = 0 then V.non else .int (paN w s : Nat)) := ⟨_, rfl⟩
  rw [← hab]
  refine ⟨_, rfl, l, _, rfl, .inl hl, 1, ((itV as).length : Nat), rfl, ⟨by decide, by decide, by rw [itV_len ha]; omega, by rw [itV_len ha]; omega⟩, ?_⟩
  rw [itV_len ha]
  refine for_range (lo := 1) (n := (((its.length : Nat) : Int) - 1).toNat) (fun i σ G => G = H ∧ (∀ j, j < 1 + i → btB its w s j = false) ∧ ∃ v4 v5, σ = [some (.ref l), some (.int (w : Int)), some (.int (s : Int)), some ab, v4, v5]) ⟨rfl, fun j hj => ?_, none, none, rfl⟩ ?_ ?_
  · unfold btB
    rw [decide_eq_false (by omega)]
    rfl
  · rintro i σ G hi ⟨rfl, hf, v4, v5, rfl⟩
    have h1 : (1 : Int) + (i : Int) = ((1 + i : Nat) : Int) := by omega
    rw [h1]
    refine ⟨_, rfl, _, rfl, 1 + i, w, rfl, hw, ?_⟩
    rw [if_neg (by omega)]
    refine ⟨fun σ G2 => G2 = G ∧ σ = [some (.ref l), some (.int (w : Int)), some (.int (s : Int)), some ab, some (.int ((1 + i : Nat) : Int)), some (loV (loN w s (1 + i)))], ?_, ?_⟩
    · refine ⟨_, rfl, _, rfl, rfl, _, rfl, iteB (fun h2 => ?_) (fun h2 => ?_)⟩
      · have e : paN w (1 + i) = s := by
          have := of_decide_eq_true h2
          injection this with z
          omega
        refine ⟨_, rfl, rfl, ?_⟩
        have : loV (loN w s (1 + i)) = ab := by
          unfold loN
          rw [if_pos e, hab]
          split <;> rfl
        rw [this]
        rfl
      · have e : paN w (1 + i) ≠ s := fun z => by
          rw [z] at h2
          exact absurd (decide_eq_true rfl) (by rw [h2]; exact Bool.false_ne_true)
        refine ⟨rfl, ?_⟩
        unfold loN
        rw [if_neg e]
        rfl
    rintro σ G2 ⟨rfl, rfl⟩
    have next : btB its w s (1 + i) = false → ∀ j, j < 1 + (i + 1) → btB its w s j = false := fun h3 j hj => by
      by_cases e : j = 1 + i
      · rw [e]; exact h3
      · exact hf j (by omega)
    refine ⟨_, rfl, _, rfl, rfl, _, rfl, iteB (fun h2 => ?_) (fun h2 => ?_)⟩
    · have hne : 1 + i ≠ s := fun z => by
        rw [← z] at h2
        simp at h2
      cases hlo : loN w s (1 + i) with
      | none =>
        refine ⟨_, rfl, _, rfl, iteBF (by decide) ?_⟩
        exact ⟨rfl, next (by unfold btB; rw [hlo]; simp), _, _, rfl⟩
      | some j =>
        have hj := loN_lt (by omega) (by omega) hsn hlo
        refine ⟨_, rfl, _, rfl, iteBT (by simp [loV]) ?_⟩
        obtain ⟨a, e1, _, e2⟩ := ha.at (i := 1 + i) (by omega)
        obtain ⟨c, e3, _, e4⟩ := ha.at (i := j) hj
        refine ⟨_, rfl, _, rfl, l, _, _, _, rfl, rfl, hl, e1, a, _, _, _, rfl, rfl, SqT.of e2, rfl, ?_⟩
        refine ⟨_, rfl, _, rfl, l, _, _, _, rfl, rfl, hl, e3, c, _, _, _, rfl, rfl, SqT.of e4, rfl, ?_⟩
        have ebt : btB its w s (1 + i) = decide (kyA its (1 + i) < kyA its j) := by
          unfold btB
          rw [hlo, decide_eq_true (by omega), decide_eq_true hne]
          rfl
        refine ⟨_, _, rfl, rfl, _, rfl, iteB (fun h4 => ?_) (fun h4 => ?_)⟩
        · have : butB its w s = false := all_rngF (i := 1 + i) (by omega) (by rw [ebt, h4]; rfl)
          rw [this] at q
          exact q
        · exact ⟨rfl, next (by rw [ebt]; exact h4), _, _, rfl⟩
    · have heq : 1 + i = s := by
        have h4 : decide (V.int ((1 + i : Nat) : Int) = V.int (s : Int)) = true := by simpa using h2
        have := of_decide_eq_true h4
        injection this with z
        omega
      exact ⟨rfl, next (by unfold btB; simp [heq]), _, _, rfl⟩
  · rintro σ G ⟨rfl, hf, v4, v5, rfl⟩
    have : butB its w s = true := all_rng.mpr fun i hi => by rw [hf i (by omega)]; rfl
    rw [this] at q
    exact q
def kidIn (w s i : Nat) : Bool := decide (w * s + 1 ≤ i) && decide (i ≤ w * s + w)
def kidsB (its : List (Int × Int)) (w s : Nat) : Bool := (List.range its.length).all fun i => !(kidIn w s i && decide (kyA its i < kyA its s))
def leanB (kd : Str) (its : List (Int × Int)) (w s : Nat) : Bool := if kd = "above" then kidsB its w s else (!decide (kd = "below")) || (decide (s = 0) || decide (kyA its (paN w s) ≤ kyA its s))
abbrev psKIWS : List Str := ["kind", "items", "width", "start"]
def spLean (K : PySem.W.Frag) : Sp := fun vs H Q _ => ∃ (kd : Str) (l : Addr) (as : List Addr) (its : List (Int × Int)) (w s : Nat), vs = [.str kd, .ref l, .int (w : Int), .int (s : Int)] ∧ SqL K H l (itV as) ∧ ItA H as its ∧ WdN w ∧ its.length ≤ 900 ∧ s < its.length ∧ ∀ H', Same H H' → Q (.bl (leanB kd its w s)) H'
theorem cut_mid (xs : List V) (f h : Nat) : cutV xs (some (f : Int)) (some (h : Int)) = (xs.drop (min f xs.length)).take (min h xs.length - min f xs.length) := by
  unfold cutV
  rw [HT.sIx_nat, HT.sIx_nat]
theorem ok_lean {f g : Addr} (T0 : FT K mg "leans_right" s_leans_right psKIWS f) (all : mg "all" = none) {gd : FuncData} (FP : Fun K "parent" "parent" s_parent g gd) (bP : Binds K gd psPW []) (mP : mg "parent" = some (.ref g)) (GP : FnOk P w K mg base CX0 1 g gd psPW spParent) :
    ∃ fd, Fun K "leans_right" "leans_right" s_leans_right f fd ∧ Binds K fd psKIWS [] ∧ FnOk P w K mg base CX0 2 f fd psKIWS (spLean K) := by
  obtain ⟨fd, F, b⟩ := T0.fn
  refine ⟨fd, F, b, F.ok c_leans_right (fun vs H Q E h => ?_) (fun cdv A outer s H vs Q E hr h => ?_)⟩
  · obtain ⟨kd, l, as, its, w, s, rfl, _⟩ := h
    rfl
  obtain ⟨kd, l, as, its, w, s, rfl, hl, ha, hw, hn, hsn, q⟩ := h
  refine ⟨_, pss_cons (ps_set (i := 4) c_leans_right.nd rfl (Or.inr rfl) (pe_ix ix_tup (pe_ix ix_list (pv 1) (pv 3) (fun _ _ => rfl)) pe_int (fun _ _ => rfl))) <|
    pss_cons (ps_if (pt_cmpR op_eq (pv 0) pe_str (nomark _))
      (pss_cons (ps_set (i := 5) c_leans_right.nd rfl (Or.inl rfl) (pe_op op_add (pe_op op_mul (pv 2) (pv 3)) pe_int)) <|
       pss_one (ps_ret (pe_callB (cr_all rfl) (by rfl) all (by decide +kernel) (pa_cons
        (pe_lc (own := [("item", 6)]) (g := gName 6) (tt := tYes) rfl c_leans_right.nd (pi_list (pe_slice sl_list (pv 1) (po_some (pv 5)) (po_some (pe_op op_add (pv 5) (pv 2))))) (blkOk_by (own := [("item", 6)]) (N := n_leans_right) (sc := defScope s_leans_right) (by decide +kernel))
          (fun _ _ _ _ _ => pg_name (i := 6) c_leans_right.nd rfl (Or.inl rfl)) (fun _ _ _ _ _ => pts_nil) (fun _ _ _ _ _ => pe_cmpR op_le (pv 4) (pe_ix (ix_tupk (K' := K) rfl) (pv 6) pe_int (fun _ _ => rfl)) (nomark _))) pa_nil)))) pss_nil) <|
    pss_one (ps_ret (pe_or (pe_cmpR op_ne (pv 0) pe_str (nomark _)) (pe_or (pe_cmpR op_eq (pv 3) pe_int (nomark _)) (pe_one (pe_cmpR op_le (pe_ix ix_tup (pe_ix ix_list (pv 1) (pe_call GP hr rfl mP FP.kp bP .nil pass0 (pa_cons (pv 3) (pa_cons (pv 2) pa_nil))) (fun _ _ => rfl)) pe_int (fun _ _ => rfl)) (pv 4) (nomark _)))))), ?_⟩
  obtain ⟨a, e1, _, e2⟩ := ha.at hsn
  refine ⟨_, rfl, _, rfl, l, _, _, _, rfl, rfl, hl, e1, a, _, _, _, rfl, rfl, SqT.of e2, rfl, ?_⟩
  refine ⟨_, rfl, rfl, _, rfl, iteB (fun h1 => ?_) (fun h1 => ?_)⟩
  · have hk : kd = "above" := by
      have := of_decide_eq_true h1
      injection this
    unfold leanB at q
    rw [if_pos hk] at q
    refine ⟨_, rfl, _, rfl, _, _, rfl, rfl, .inl ⟨by omega, by rcases hw with rfl | rfl | rfl <;> decide⟩, _, _, rfl, rfl, ?_⟩
    refine ⟨_, rfl, _, rfl, _, rfl, _, rfl, _, rfl, _, _, rfl, rfl, _, rfl, l, _, rfl, hl, fun c nc => ?_⟩
    have ef : ((w : Int) * (s : Int) + 1) = ((w * s + 1 : Nat) : Int) := by push_cast; rfl
    have eh : ((w : Int) * (s : Int) + 1 + (w : Int)) = ((w * s + 1 + w : Nat) : Int) := by push_cast; rfl
    rw [eh, ef, cut_mid]
    obtain ⟨lo, hlo⟩ : ∃ lo, lo = min (w * s + 1) (itV as).length := ⟨_, rfl⟩
    obtain ⟨hi, hhi⟩ : ∃ hi, hi = min (w * s + 1 + w) (itV as).length := ⟨_, rfl⟩
    rw [← hlo, ← hhi]
    rw [itV_len ha] at hlo hhi
    have sc := new_same (o := .lst (((itV as).drop lo).take (hi - lo))) nc
    have hcl : (((itV as).drop lo).take (hi - lo)).length = hi - lo := by
      rw [List.length_take, List.length_drop, itV_len ha]
      omega
    refine ⟨c, rfl, ⟨_, SqL.of upd_same⟩, fun D nD => lc_map (ys := ((List.range (hi - lo)).map fun j => decide (kyA its s ≤ kyA its (lo + j))).map V.bl) (SqL.of upd_same) nD (by rw [hcl, List.length_map, List.length_map, List.length_range]) (by rw [List.length_map, List.length_map, List.length_range]; omega) ?_ ?_⟩
    · intro j x y G Z hx hy sG hz
      have hj : j < hi - lo := by
        have := (List.getElem?_eq_some_iff.mp hx).1
        rwa [hcl] at this
      rw [List.getElem?_take, if_pos hj, List.getElem?_drop] at hx
      obtain ⟨b, e3, rfl⟩ := itV_at hx
      obtain ⟨hil, e4⟩ := ha.get e3
      have ey : y = .bl (decide (kyA its s ≤ kyA its (lo + j))) := by
        rw [List.getElem?_map, List.getElem?_map, List.getElem?_range hj] at hy
        exact (Option.some.inj hy).symm
      subst ey
      refine ⟨rfl, _, rfl, _, rfl, b, _, _, _, rfl, rfl, SqT.of (sG _ _ (sc _ _ e4)), rfl, _, _, rfl, rfl, hz G (Same.refl G)⟩
    · intro G sG eG
      refine ⟨D, _, rfl, SqL.of eG, ?_⟩
      have : (((List.range (hi - lo)).map fun j => decide (kyA its s ≤ kyA its (lo + j))).all id) = kidsB its w s := by
        rw [List.all_map]
        cases e : kidsB its w s with
        | true =>
          have := all_rng.mp e
          refine all_rng.mpr fun j hj => ?_
          have h5 := this (lo + j) (by omega)
          have : kidIn w s (lo + j) = true := by
            unfold kidIn
            rw [decide_eq_true (by omega), decide_eq_true (by omega)]
            rfl
          rw [this, Bool.true_and, Bool.not_eq_true'] at h5
          have := of_decide_eq_false h5
          show decide _ = true
          exact decide_eq_true (by omega)
        | false =>
          cases e2 : (List.range (hi - lo)).all (id ∘ fun j => decide (kyA its s ≤ kyA its (lo + j))) with
          | false => rfl
          | true =>
            have h3 := all_rng.mp e2
            have : kidsB its w s = true := all_rng.mpr fun i hi' => by
              cases ek : kidIn w s i with
              | false => rfl
              | true =>
                unfold kidIn at ek
                rw [Bool.and_eq_true] at ek
                have k1 := of_decide_eq_true ek.1
                have k2 := of_decide_eq_true ek.2
                have h4 : decide (kyA its s ≤ kyA its (lo + (i - lo))) = true := h3 (i - lo) (by omega)
                have h5 := of_decide_eq_true h4
                have e6 : lo + (i - lo) = i := by omega
                rw [e6] at h5
                rw [decide_eq_false (by omega)]
                rfl
            rw [e] at this
            cases this
      rw [this]
      exact q _ (fun c' o z => sG _ _ (sc _ _ z))
  · have hk : kd ≠ "above" := fun z => by
      rw [z] at h1
      exact absurd (decide_eq_true rfl) (by rw [h1]; exact Bool.false_ne_true)
    unfold leanB at q
    rw [if_neg hk] at q
    have hb : decide (V.str kd = V.str "below") = decide (kd = "below") := by
      rw [decide_eq_decide]
      exact ⟨fun z => V.str.inj z, fun z => by rw [z]⟩
    refine ⟨_, rfl, rfl, _, rfl, ?_⟩
    rw [hb]
    cases hd : decide (kd = "below") with
    | false =>
      rw [hd] at q
      exact q _ (Same.refl _)
    | true =>
      rw [hd] at q
      refine ⟨_, rfl, rfl, _, rfl, ?_⟩
      have hz : decide (V.int (s : Int) = V.int 0) = decide (s = 0) := by
        rw [decide_eq_decide]
        constructor
        · intro z
          injection z with z
          omega
        · intro z
          rw [z]
          rfl
      rw [hz]
      cases h0 : decide (s = 0) with
      | true =>
        rw [h0] at q
        exact q _ (Same.refl _)
      | false =>
        rw [h0] at q
        have hs0 := of_decide_eq_false h0
        refine ⟨_, rfl, _, rfl, _, rfl, s, w, rfl, hw, ?_⟩
        rw [if_neg hs0]
        have hpl := paN_lt (w := w) (i := s) (by omega)
        obtain ⟨c, e3, _, e4⟩ := ha.at (i := paN w s) (by omega)
        exact ⟨l, _, _, _, rfl, rfl, hl, e3, c, _, _, _, rfl, rfl, SqT.of e4, rfl, _, rfl, _, _, rfl, rfl, q _ (Same.refl _)⟩
end
end H2
namespace H2
open PySem PySem.Spec PyProof.Rows L2 Hx Nd Dun
section
variable {P : Program} {w : World} {K : PySem.W.Frag} {mg : Str → Option Value} {base : Heap} {D : Addr}
/-! ### list_fits, check_case -/
def FitV (kd : Str) (w : Nat) (its : List (Int × Int)) (sv : V) (b : Bool) : Prop := (kd ∈ heapsW ∧ b = ((decide (kd = "put") || decide (0 < its.length)) && heapB its w)) ∨
  (kd ∉ heapsW ∧ ∃ s : Nat, sv = .int (s : Int) ∧ s < its.length ∧ b = (if kd = "tree" then treeB its w s else (butB its w s && leanB kd its w s)))
abbrev psLF7 : List Str := ["kind", "width", "items", "start"]
def spFit (K : PySem.W.Frag) : Sp := fun vs H Q _ => ∃ (kd : Str) (w : Nat) (l : Addr) (as : List Addr) (its : List (Int × Int)) (sv : V) (b : Bool), vs = [.str kd, .int (w : Int), .ref l, sv] ∧ SqL K H l (itV as) ∧ ItA H as its ∧ WdN w ∧ its.length ≤ 900 ∧ FitV kd w its sv b ∧ ∀ H', Same H H' → Q (.bl b) H'
theorem str_dec {x y : Str} : decide (V.str x = V.str y) = decide (x = y) := by
  rw [decide_eq_decide]
  exact ⟨fun z => V.str.inj z, fun z => by rw [z]⟩
theorem ok_fit {f g1 g2 g3 g4 aH : Addr} (T0 : FT K mg "list_fits" s_list_fits psLF7 f) (len : mg "len" = none) (cH : TupT K mg "OF_HEAPS" aH (heapsW.map V.str)) {d1 d2 d3 d4 : FuncData}
    (F1 : Fun K "is_heap" "is_heap" s_is_heap g1 d1) (b1 : Binds K d1 psIW []) (m1 : mg "is_heap" = some (.ref g1)) (G1 : FnOk P w K mg base CX0 3 g1 d1 psIW (spHeap K))
    (F2 : Fun K "trees_are_heaps" "trees_are_heaps" s_trees_are_heaps g2 d2) (b2 : Binds K d2 psIWS []) (m2 : mg "trees_are_heaps" = some (.ref g2)) (G2 : FnOk P w K mg base CX0 2 g2 d2 psIWS (spTr K))
    (F3 : Fun K "is_heap_but_for" "is_heap_but_for" s_is_heap_but_for g3 d3) (b3 : Binds K d3 psIWS []) (m3 : mg "is_heap_but_for" = some (.ref g3)) (G3 : FnOk P w K mg base CX0 2 g3 d3 psIWS (spBut K))
    (F4 : Fun K "leans_right" "leans_right" s_leans_right g4 d4) (b4 : Binds K d4 psKIWS []) (m4 : mg "leans_right" = some (.ref g4)) (G4 : FnOk P w K mg base CX0 2 g4 d4 psKIWS (spLean K)) :
    ∃ fd, Fun K "list_fits" "list_fits" s_list_fits f fd ∧ Binds K fd psLF7 [] ∧ FnOk P w K mg base CX0 4 f fd psLF7 (spFit K) := by
  obtain ⟨fd, F, b⟩ := T0.fn
  refine ⟨fd, F, b, F.ok c_list_fits (fun vs H Q E h => ?_) (fun cdv A outer s H vs Q E hr h => ?_)⟩
  · obtain ⟨kd, w, l, as, its, sv, b, rfl, _⟩ := h
    rfl
  obtain ⟨kd, w, l, as, its, sv, b, rfl, hl, ha, hw, hn, hf, q⟩ := h
  refine ⟨_, pss_cons (ps_if (pt_cmpR op_in_seq (pv 0) (pe_glob (v := .ref aH) rfl cH.g rfl) rfl)
      (pss_one (ps_ret (pe_and (pe_or (pe_cmpR op_eq (pv 0) pe_str (nomark _)) (pe_one (pe_cmpR op_gt (pe_callB call_len_seq (by rfl) len PySem.boot_len (pa_cons (pv 2) pa_nil)) pe_int (nomark _))))
        (pe_one (pe_call G1 hr rfl m1 F1.kp b1 .nil pass0 (pa_cons (pv 2) (pa_cons (pv 1) pa_nil))))))) pss_nil) <|
    pss_cons (ps_if (pt_cmpR op_eq (pv 0) pe_str (nomark _)) (pss_one (ps_ret (pe_call G2 (hr.mono (by decide)) rfl m2 F2.kp b2 .nil pass0 (pa_cons (pv 2) (pa_cons (pv 1) (pa_cons (pv 3) pa_nil)))))) pss_nil) <|
    pss_one (ps_ret (pe_and (pe_call G3 (hr.mono (by decide)) rfl m3 F3.kp b3 .nil pass0 (pa_cons (pv 2) (pa_cons (pv 1) (pa_cons (pv 3) pa_nil))))
      (pe_one (pe_call G4 (hr.mono (by decide)) rfl m4 F4.kp b4 .nil pass0 (pa_cons (pv 0) (pa_cons (pv 2) (pa_cons (pv 1) (pa_cons (pv 3) pa_nil)))))))), ?_⟩
  refine ⟨_, rfl, aH, _, rfl, .inr (cH.s _), rfl, flat_strs _, _, rfl, iteB (fun h1 => ?_) (fun h1 => ?_)⟩
  · have h1 := of_decide_eq_true (inV_strs.symm.trans h1)
    rcases hf with ⟨_, rfl⟩ | ⟨h2, _⟩
    · refine ⟨_, rfl, rfl, _, rfl, ?_⟩
      rw [str_dec]
      have heap : ∀ {b : Bool}, b = heapB its w → spHeap K [.ref l, .int (w : Int)] H (fun v H' => v = .bl b ∧ Same H H') (fun _ _ _ => False) := fun e => ⟨l, as, its, w, rfl, hl, ha, hw, hn, by rw [e], Same.refl _⟩
      cases e : decide (kd = "put") with
      | true =>
        rw [e, Bool.true_or, Bool.true_and] at q
        exact ⟨_, rfl, _, rfl, _, rfl, l, as, its, w, rfl, hl, ha, hw, hn, q _ (Same.refl _)⟩
      | false =>
        rw [e, Bool.false_or] at q
        refine ⟨_, rfl, l, _, rfl, .inl hl, _, _, rfl, rfl, _, rfl, ?_⟩
        rw [itV_len ha]
        have e2 : decide (((its.length : Nat) : Int) > 0) = decide (0 < its.length) := by
          rw [decide_eq_decide]
          omega
        rw [e2]
        cases e3 : decide (0 < its.length) with
        | true =>
          rw [e3, Bool.true_and] at q
          exact ⟨_, rfl, _, rfl, l, as, its, w, rfl, hl, ha, hw, hn, q _ (Same.refl _)⟩
        | false =>
          rw [e3, Bool.false_and] at q
          exact q _ (Same.refl _)
    · exact absurd h1 h2
  · have h1 := of_decide_eq_false (inV_strs.symm.trans h1)
    rcases hf with ⟨h2, _⟩ | ⟨_, s, rfl, hs, rfl⟩
    · exact absurd h2 h1
    · refine ⟨_, rfl, rfl, _, rfl, iteB (fun h2 => ?_) (fun h2 => ?_)⟩
      · have h2 := of_decide_eq_true (str_dec.symm.trans h2)
        rw [if_pos h2] at q
        exact ⟨_, rfl, _, rfl, _, rfl, l, as, its, w, s, rfl, hl, ha, hw, hn, hs, q⟩
      · have h2 := of_decide_eq_false (str_dec.symm.trans h2)
        rw [if_neg h2] at q
        refine ⟨_, rfl, _, rfl, _, rfl, l, as, its, w, s, rfl, hl, ha, hw, hn, hs, _, rfl, ?_⟩
        cases e : butB its w s with
        | false =>
          rw [e, Bool.false_and] at q
          exact q _ (Same.refl _)
        | true =>
          rw [e, Bool.true_and] at q
          exact ⟨_, rfl, _, rfl, _, rfl, _, rfl, kd, l, as, its, w, s, rfl, hl, ha, hw, hn, hs, q⟩
end
end H2
namespace H2
open PySem PySem.Spec PyProof.Rows L2 Hx Nd Dun
section
variable {P : Program} {w : World} {K : PySem.W.Frag} {mg : Str → Option Value} {base : Heap} {D : Addr}
theorem tyof_keep {H H' : Hp} {x : V} {t : Value} (h : TyOf K H x t) (e : Same H H') : TyOf K H' x t := by
  cases h with
  | non => exact .non
  | bl b => exact .bl b
  | int i => exact .int i
  | str y => exact .str y
  | flt y => exact .flt y
  | lst z => exact .lst (e _ _ z)
  | frz z => exact .frz (e _ _ z)
  | tup z => exact .tup (e _ _ z)
  | dK z => exact .dK (e _ _ z)
  | dT z => exact .dT (e _ _ z)
  | ins z c1 c2 c3 c4 c5 => exact .ins (e _ _ z) c1 c2 c3 c4 c5
theorem tyx_keep {H H' : Hp} {x : V} {t : Value} (h : TyX K H x t) (e : Same H H') : TyX K H' x t := by
  cases h with
  | base z => exact .base (tyof_keep z e)
  | byt b => exact .byt b
  | set z => exact .set (e _ _ z)
  | kList a b => exact .kList a b
  | kTuple a b => exact .kTuple a b
  | kDict a b => exact .kDict a b
  | fTuple z => exact .fTuple (e _ _ z)
  | fDict z => exact .fDict (e _ _ z)
end
end H2
namespace H2
open PySem PySem.Spec PyProof.Rows L2 Hx Nd Dun
section
variable {P : Program} {w : World} {K : PySem.W.Frag} {mg : Str → Option Value} {base : Heap} {D : Addr}
/-! ### check_case -/
structure ErrC (K : PySem.W.Frag) (mg : Str → Option Value) (D : Addr) (C I : Nat → Addr) : Prop where
  base : BaseT K mg D
  t5 : ClT K mg "BadItem" "BadItem.__init__" iBadItem ["self", "index"] ["index"] (C 5) (I 5)
  t6 : ClT K mg "BadCase" "BadCase.__init__" iBadCase ["self", "what"] ["what"] (C 6) (I 6)
/-- what is read of a code -/
structure CodA (K : PySem.W.Frag) (C : Addr) : Prop where
  cl : Cls K C
  nk : NoAttr K C "kind"
  nw : NoAttr K C "width"
  nf : NoAttr K C "flow"
def CodH (C : Addr) (H : Hp) (c : Addr) (kd : Str) (w : Nat) (fl : Addr) : Prop := ∃ dx fs, H c = some (.ins C dx fs) ∧ fs.lookup ("kind" : Str) = some (V.str kd) ∧ fs.lookup ("width" : Str) = some (V.int (w : Nat)) ∧ fs.lookup ("flow" : Str) = some (V.ref fl)
theorem CodH.keep {C : Addr} {H H' : Hp} {c : Addr} {kd : Str} {w : Nat} {fl : Addr} (h : CodH C H c kd w fl) (e : Same H H') : CodH C H' c kd w fl := by
  obtain ⟨dx, fs, h1, h2⟩ := h
  exact ⟨dx, fs, e _ _ h1, h2⟩
theorem StartV.keep {H H' : Hp} {kd : Str} {n : Nat} {v : V} {b : Bool} (h : StartV K H kd n v b) (e : Same H H') : StartV K H' kd n v b := by
  rcases h with ⟨h1, c, ⟨t, b1, b2, ty, r⟩, h2⟩ | h
  · exact .inl ⟨h1, c, ⟨t, b1, b2, tyx_keep ty e, r⟩, h2⟩
  · exact .inr h
theorem IntV.keep {H H' : Hp} {v : V} {b : Bool} (h : IntV K H v b) (e : Same H H') : IntV K H' v b := by
  obtain ⟨t, b1, b2, ty, r⟩ := h
  exact ⟨t, b1, b2, tyx_keep ty e, r⟩
theorem ItemV.keep {H H' : Hp} {v : V} {b : Bool} (h : ItemV K H v b) (e : Same H H') : ItemV K H' v b := by
  obtain ⟨t, b1, ty, k1, h0, h1⟩ := h
  refine ⟨t, b1, tyx_keep ty e, k1, h0, fun z => ?_⟩
  obtain ⟨a, xs, e1, e2, e3, e4⟩ := h1 z
  refine ⟨a, xs, e1, sqt_same e e2, e3, fun x y z => ?_⟩
  obtain ⟨c, d, h3, h4, h5⟩ := e4 x y z
  exact ⟨c, d, h3.keep e, h4.keep e, h5⟩
theorem GivV.keep {H H' : Hp} {kd : Str} {its : List (Int × Int)} {v : V} {b : Bool} (h : GivV K H kd its v b) (e : Same H H') : GivV K H' kd its v b := by
  rcases h with ⟨h1, ⟨hi, hb⟩ | ⟨a, k, m, h2, h3, h4⟩⟩ | h
  · exact .inl ⟨h1, .inl ⟨hi.keep e, hb⟩⟩
  · exact .inl ⟨h1, .inr ⟨a, k, m, h2, e _ _ h3, h4⟩⟩
  · exact .inr h
abbrev psCI : List Str := ["items"]
def spCI (K : PySem.W.Frag) : Sp := fun vs H Q _ => ∃ (l : Addr) (as : List Addr) (its : List (Int × Int)), vs = [.ref l] ∧ SqL K H l (itV as) ∧ ItA H as its ∧ MkNd its ∧ its.length ≤ 900 ∧ ∀ H', Same H H' → Q .non H'
theorem ok_ci {f g1 DB : Addr} {EC EI : Nat → Addr} (T0 : FT K mg "check_items" s_check_items psCI f) (ET : ErrC K mg DB EC EI) {d1 : FuncData}
    (F1 : Fun K "first_bad_item" "first_bad_item" s_first_bad_item g1 d1) (b1 : Binds K d1 ["values"] []) (m1 : mg "first_bad_item" = some (.ref g1)) (G1 : FnOk P w K mg base CX0 3 g1 d1 ["values"] (spFB K)) :
    ∃ fd, Fun K "check_items" "check_items" s_check_items f fd ∧ Binds K fd psCI [] ∧ FnOk P w K mg base (L2.CX P w) 4 f fd psCI (spCI K) := by
  obtain ⟨fd, F, b⟩ := T0.fn
  refine ⟨fd, F, b, F.okX c_check_items (fun vs H Q E h => ?_) (fun cdv A outer s H vs Q E hr h => ?_)⟩
  · obtain ⟨l, as, its, rfl, _⟩ := h
    rfl
  obtain ⟨l, as, its, rfl, hl, ha, hm, hn, q⟩ := h
  have tk : Takes (cxOf (L2.CX P w) P w K mg base n_check_items "check_items" (defScope s_check_items) f cdv A outer s H E) (fun cls d _ G => E cls d G) := takes_of rfl rfl rfl rfl
  refine ⟨_, pss_cons (ps_set (i := 1) c_check_items.nd rfl (Or.inl rfl) (pe_call G1 (hr.mono (by decide)) rfl m1 F1.kp b1 .nil pass0 (pa_cons (pv 0) pa_nil))) <|
    pss_one (ps_if (pt_cmp (pc_notN (pv 1))) (pss_one (ps_rz rfl tk ET.t5 (fun fd F => okBadItem F ET.base) (hr.mono (by decide)) (pa_cons (pv 1) pa_nil))) pss_nil), ?_⟩
  refine ⟨_, rfl, l, as, its, rfl, hl, ha, hm, hn, fun H1 s1 => ?_⟩
  exact ⟨_, rfl, _, rfl, iteBF (by decide) (q _ s1)⟩
abbrev psCS : List Str := ["kind", "items", "start", "given"]
def spCS (K : PySem.W.Frag) (CB : Addr) : Sp := fun vs H Q E => ∃ (l : Addr) (as : List Addr) (its : List (Int × Int)) (sv gv : V) (kd : Str) (sb : Bool), vs = [.str kd, .ref l, sv, gv] ∧ SqL K H l (itV as) ∧ ItA H as its ∧ its.length ≤ 900 ∧ StartV K H kd its.length sv sb ∧
  (sb = false → ∀ H', Same H H' → err1 CB "what" (.str "start") H' E) ∧ (sb = true → ∃ gb, GivV K H kd its gv gb ∧ (gb = false → ∀ H', Same H H' → err1 CB "what" (.str "given") H' E) ∧ (gb = true → ∀ H', Same H H' → Q .non H'))
theorem ok_cs {f g2 g3 DB : Addr} {EC EI : Nat → Addr} (T0 : FT K mg "check_start_and_given" s_check_start_and_given psCS f) (ET : ErrC K mg DB EC EI) (len : mg "len" = none) {d2 d3 : FuncData}
    (F2 : Fun K "start_fits" "start_fits" s_start_fits g2 d2) (b2 : Binds K d2 psSF []) (m2 : mg "start_fits" = some (.ref g2)) (G2 : FnOk P w K mg base CX0 2 g2 d2 psSF (spSF K))
    (F3 : Fun K "given_fits" "given_fits" s_given_fits g3 d3) (b3 : Binds K d3 psGF []) (m3 : mg "given_fits" = some (.ref g3)) (G3 : FnOk P w K mg base CX0 3 g3 d3 psGF (spGF K)) :
    ∃ fd, Fun K "check_start_and_given" "check_start_and_given" s_check_start_and_given f fd ∧ Binds K fd psCS [] ∧ FnOk P w K mg base (L2.CX P w) 4 f fd psCS (spCS K (EC 6)) := by
  obtain ⟨fd, F, b⟩ := T0.fn
  refine ⟨fd, F, b, F.okX c_check_start_and_given (fun vs H Q E h => ?_) (fun cdv A outer s H vs Q E hr h => ?_)⟩
  · obtain ⟨l, as, its, sv, gv, kd, sb, rfl, _⟩ := h
    rfl
  obtain ⟨l, as, its, sv, gv, kd, sb, rfl, hl, ha, hn, hs, qs, h⟩ := h
  have tk : Takes (cxOf (L2.CX P w) P w K mg base n_check_start_and_given "check_start_and_given" (defScope s_check_start_and_given) f cdv A outer s H E) (fun cls d _ G => E cls d G) := takes_of rfl rfl rfl rfl
  refine ⟨_, pss_cons (ps_if (pt_not (pt_val (pe_call G2 (hr.mono (by decide)) rfl m2 F2.kp b2 .nil pass0 (pa_cons (pv 0) (pa_cons (pe_callB call_len_seq (by rfl) len PySem.boot_len (pa_cons (pv 1) pa_nil)) (pa_cons (pv 2) pa_nil)))))) (pss_one (ps_rz rfl tk ET.t6 (fun fd F => okBadCase F ET.base) (hr.mono (by decide)) (pa_cons pe_str pa_nil))) pss_nil) <|
    pss_one (ps_if (pt_not (pt_val (pe_call G3 (hr.mono (by decide)) rfl m3 F3.kp b3 .nil pass0 (pa_cons (pv 0) (pa_cons (pv 1) (pa_cons (pv 3) pa_nil)))))) (pss_one (ps_rz rfl tk ET.t6 (fun fd F => okBadCase F ET.base) (hr.mono (by decide)) (pa_cons pe_str pa_nil))) pss_nil), ?_⟩
  have bad : ∀ {G : Hp} {x : Str}, (∀ H', Same H H' → err1 (EC 6) "what" (.str x) H' E) → Same H G → _ := fun {G x} h e => mk1 (Q := fun cls d H' => E cls d H') (H1 := G) ET.t6.ex.oex (ET.t6.nf _ List.mem_cons_self) (h G e)
  refine ⟨_, rfl, _, rfl, l, _, rfl, .inl hl, _, rfl, kd, its.length, sv, sb, by rw [itV_len ha]; rfl, hs, sb, rfl, ?_⟩
  cases sb with
  | false => exact iteT (bad (qs rfl) (Same.refl _))
  | true =>
    obtain ⟨gb, hg, qg, h⟩ := h rfl
    refine iteF ?_
    refine ⟨_, rfl, _, rfl, _, rfl, kd, l, as, its, gv, gb, rfl, hl, ha, hn, hg, fun H2 s2 => ⟨gb, rfl, ?_⟩⟩
    cases gb with
    | false => exact iteT (bad (qg rfl) s2)
    | true => exact iteF (h rfl _ s2)
abbrev psCC : List Str := ["code", "items", "start", "given"]
def spCheck (K : PySem.W.Frag) (C CB : Addr) : Sp := fun vs H Q E => ∃ (c fl l : Addr) (as : List Addr) (its : List (Int × Int)) (sv gv : V) (kd : Str) (w : Nat) (sb : Bool), vs = [.ref c, .ref l, sv, gv] ∧ CodH C H c kd w fl ∧ SqL K H l (itV as) ∧ ItA H as its ∧ MkNd its ∧ WdN w ∧ its.length ≤ 900 ∧ StartV K H kd its.length sv sb ∧
  (sb = false → ∀ H', Same H H' → err1 CB "what" (.str "start") H' E) ∧ (sb = true → ∃ gb, GivV K H kd its gv gb ∧ (gb = false → ∀ H', Same H H' → err1 CB "what" (.str "given") H' E) ∧
    (gb = true → ∃ fb, FitV kd w its sv fb ∧ (fb = false → ∀ H', Same H H' → err1 CB "what" (.str "items") H' E) ∧ (fb = true → ∀ H', Same H H' → Q .non H')))
theorem ok_check {f g1 g2 g4 C DB : Addr} {EC EI : Nat → Addr} (T0 : FT K mg "check_case" s_check_case psCC f) (CA : CodA K C) (ET : ErrC K mg DB EC EI) {d1 d2 d4 : FuncData}
    (F1 : Fun K "check_items" "check_items" s_check_items g1 d1) (b1 : Binds K d1 psCI []) (m1 : mg "check_items" = some (.ref g1)) (G1 : FnOk P w K mg base (L2.CX P w) 4 g1 d1 psCI (spCI K))
    (F2 : Fun K "check_start_and_given" "check_start_and_given" s_check_start_and_given g2 d2) (b2 : Binds K d2 psCS []) (m2 : mg "check_start_and_given" = some (.ref g2)) (G2 : FnOk P w K mg base (L2.CX P w) 4 g2 d2 psCS (spCS K (EC 6)))
    (F4 : Fun K "list_fits" "list_fits" s_list_fits g4 d4) (b4 : Binds K d4 psLF7 []) (m4 : mg "list_fits" = some (.ref g4)) (G4 : FnOk P w K mg base CX0 4 g4 d4 psLF7 (spFit K)) :
    ∃ fd, Fun K "check_case" "check_case" s_check_case f fd ∧ Binds K fd psCC [] ∧ FnOk P w K mg base (L2.CX P w) 5 f fd psCC (spCheck K C (EC 6)) := by
  obtain ⟨fd, F, b⟩ := T0.fn
  refine ⟨fd, F, b, F.okX c_check_case (fun vs H Q E h => ?_) (fun cdv A outer s H vs Q E hr h => ?_)⟩
  · obtain ⟨c, fl, l, as, its, sv, gv, kd, w, sb, rfl, _⟩ := h
    rfl
  obtain ⟨c, fl, l, as, its, sv, gv, kd, wn, sb, rfl, hc, hl, ha, hm, hw, hn, hs, qs, h⟩ := h
  have tk : Takes (cxOf (L2.CX P w) P w K mg base n_check_case "check_case" (defScope s_check_case) f cdv A outer s H E) (fun cls d _ G => E cls d G) := takes_of rfl rfl rfl rfl
  refine ⟨_, pss_cons (ps_expr (pe_callS G1 (hr.mono (by decide)) rfl m1 F1.kp b1 (fun σ => passAt tk σ) (pa_cons (pv 1) pa_nil))) <|
    pss_cons (ps_expr (pe_callS G2 (hr.mono (by decide)) rfl m2 F2.kp b2 (fun σ => passAt tk σ) (pa_cons (pe_fld (pv 0) rfl) (pa_cons (pv 1) (pa_cons (pv 2) (pa_cons (pv 3) pa_nil)))))) <|
    pss_one (ps_if (pt_not (pt_val (pe_call G4 (hr.mono (by decide)) rfl m4 F4.kp b4 .nil pass0 (pa_cons (pe_fld (pv 0) rfl) (pa_cons (pe_fld (pv 0) rfl) (pa_cons (pv 1) (pa_cons (pv 2) pa_nil))))))) (pss_one (ps_rz rfl tk ET.t6 (fun fd F => okBadCase F ET.base) (hr.mono (by decide)) (pa_cons pe_str pa_nil))) pss_nil), ?_⟩
  have bad : ∀ {G : Hp} {x : Str}, (∀ H', Same H H' → err1 (EC 6) "what" (.str x) H' E) → Same H G → _ := fun {G x} h e => mk1 (Q := fun cls d H' => E cls d H') (H1 := G) ET.t6.ex.oex (ET.t6.nf _ List.mem_cons_self) (h G e)
  obtain ⟨dx, fs, o1, l1, l2, l3⟩ := id hc
  refine ⟨_, rfl, l, as, its, rfl, hl, ha, hm, hn, fun H1 s1 => ?_⟩
  refine ⟨_, rfl, c, C, dx, fs, _, rfl, s1 _ _ o1, CA.cl, CA.nk, l1, _, rfl, _, rfl, _, rfl, l, as, its, sv, gv, kd, sb, rfl, sqt_list_same hl s1, ha.keep s1, hn, hs.keep s1, fun z H' s' => qs z H' (s1.trans s'), fun z => ?_⟩
  obtain ⟨gb, hg, qg, h⟩ := h z
  refine ⟨gb, hg.keep s1, fun z H' s' => qg z H' (s1.trans s'), fun z H2 s2 => ?_⟩
  obtain ⟨fb, hf, qf, h⟩ := h z
  have s12 := s1.trans s2
  refine ⟨_, rfl, c, C, dx, fs, _, rfl, s12 _ _ o1, CA.cl, CA.nk, l1, _, rfl, c, C, dx, fs, _, rfl, s12 _ _ o1, CA.cl, CA.nw, l2, _, rfl, _, rfl, kd, wn, l, as, its, sv, fb, rfl, sqt_list_same hl s12, ha.keep s12, hw, hn, hf, fun H3 s3 => ⟨fb, rfl, ?_⟩⟩
  have s13 := s12.trans s3
  cases fb with
  | false => exact iteT (bad (qf rfl) s13)
  | true => exact iteF (h rfl _ s13)
end
end H2
namespace H2
open PySem PySem.Spec PyProof.Rows L2 Hx Nd Dun
section
variable {P : Program} {w : World} {K : PySem.W.Frag} {mg : Str → Option Value} {base : Heap} {D : Addr}
/-! ### the law: _law_parent, _law_faults, _law_under -/
theorem ix_listk {X : Cx} {K' : PySem.W.Frag} (hk : X.K = K') : IxR X (rIxL K') := hk ▸ ix_list
abbrev psLP : List Str := ["_law_place", "_law_width"]
def spLPar : Sp := fun vs H Q _ => ∃ (i w : Nat), vs = [.int (i : Int), .int (w : Int)] ∧ WdN w ∧ 0 < i ∧ Q (.int (paN w i : Nat)) H
theorem ok_lpar {f : Addr} (T0 : FT K mg "_law_parent" s_Lparent psLP f) : ∃ fd, Fun K "_law_parent" "_law_parent" s_Lparent f fd ∧ Binds K fd psLP [] ∧ FnOk P w K mg base CX0 1 f fd psLP spLPar := by
  obtain ⟨fd, F, b⟩ := T0.fn
  refine ⟨fd, F, b, F.ok c_Lparent (fun vs H Q E h => ?_) (fun cdv A outer s H vs Q E hr h => ?_)⟩
  · obtain ⟨i, w, rfl, _⟩ := h
    rfl
  obtain ⟨i, w, rfl, hw, hi, q⟩ := h
  refine ⟨_, pss_one (ps_ret (pe_ifExp (pt_cmpR op_gt (pv 0) pe_int (nomark _)) (pe_op op_fdivN (pe_op op_sub (pv 0) pe_int) (pv 1)) (pe_un un_neg pe_int))), ?_⟩
  refine ⟨_, rfl, _, _, rfl, rfl, _, rfl, iteBT (decide_eq_true (by omega)) ?_⟩
  refine ⟨_, rfl, _, _, rfl, rfl, _, rfl, _, _, rfl, rfl, ⟨by rcases hw with rfl | rfl | rfl <;> decide, by rcases hw with rfl | rfl | rfl <;> decide⟩, ?_⟩
  dsimp only
  rw [pa_fdiv hi]
  exact q
def ftL (its : List (Int × Int)) (w : Nat) : List Int := (rangeI 1 (its.length - 1)).filter fun y => ftB its w y.toNat
theorem mem_ftL {its : List (Int × Int)} {w : Nat} {y : Int} : y ∈ ftL its w ↔ ∃ i : Nat, y = (i : Int) ∧ 0 < i ∧ i < its.length ∧ ftB its w i = true := by
  unfold ftL
  rw [List.mem_filter, mem_rangeI]
  constructor
  · rintro ⟨⟨h1, h2⟩, h3⟩
    exact ⟨y.toNat, by omega, by omega, by omega, h3⟩
  · rintro ⟨i, rfl, h1, h2, h3⟩
    exact ⟨by omega, h3⟩
abbrev psLFt : List Str := ["_law_row", "_law_width"]
def spLFt (K : PySem.W.Frag) : Sp := fun vs H Q _ => ∃ (l : Addr) (as : List Addr) (its : List (Int × Int)) (w : Nat), vs = [.ref l, .int (w : Int)] ∧ SqL K H l (itV as) ∧ ItA H as its ∧ WdN w ∧ its.length ≤ 900 ∧ ∀ H' r, Same H H' → H r = none → H' r = some (.lst ((ftL its w).map V.int)) → Q (.ref r) H'
theorem ok_lfts {f g : Addr} (T0 : FT K mg "_law_faults" s_Lfaults psLFt f) (rng : mg "range" = none) (len : mg "len" = none) {gd : FuncData} (FP : Fun K "_law_parent" "_law_parent" s_Lparent g gd) (bP : Binds K gd psLP []) (mP : mg "_law_parent" = some (.ref g)) (GP : FnOk P w K mg base CX0 1 g gd psLP spLPar) :
    ∃ fd, Fun K "_law_faults" "_law_faults" s_Lfaults f fd ∧ Binds K fd psLFt [] ∧ FnOk P w K mg base CX0 2 f fd psLFt (spLFt K) := by
  obtain ⟨fd, F, b⟩ := T0.fn
  refine ⟨fd, F, b, F.ok c_Lfaults (fun vs H Q E h => ?_) (fun cdv A outer s H vs Q E hr h => ?_)⟩
  · obtain ⟨l, as, its, w, rfl, _⟩ := h
    rfl
  obtain ⟨l, as, its, wn, rfl, hl, ha, hw, hn, q⟩ := h
  refine ⟨_, pss_one (ps_ret (pe_lc (own := [("_law_k", 2)]) (g := gName 2) rfl c_Lfaults.nd (pi_range2 rfl rng (pa_cons pe_int (pa_cons (pe_callB call_len_seq (by rfl) len PySem.boot_len (pa_cons (pv 0) pa_nil)) pa_nil))) (blkOk_by (own := [("_law_k", 2)]) (N := n_Lfaults) (sc := defScope s_Lfaults) (by decide +kernel))
      (fun _ _ _ _ _ => pg_name (i := 2) c_Lfaults.nd rfl (Or.inl rfl)) (fun _ _ _ _ _ => pts_one (pt_cmpR op_lt (pe_ix (ix_tupk (K' := K) rfl) (pe_ix (ix_listk (K' := K) rfl) (pv 0) (pv 2) (fun _ _ => rfl)) pe_int (fun _ _ => rfl)) (pe_ix (ix_tupk (K' := K) rfl) (pe_ix (ix_listk (K' := K) rfl) (pv 0) (pe_call GP hr rfl mP FP.kp bP .nil pass0 (pa_cons (pv 2) (pa_cons (pv 1) pa_nil))) (fun _ _ => rfl)) pe_int (fun _ _ => rfl)) (nomark _))) (fun _ _ _ _ _ => pv 2))), ?_⟩
  refine ⟨_, rfl, l, _, rfl, .inl hl, 1, ((itV as).length : Nat), rfl, ⟨by decide, by decide, by rw [itV_len ha]; omega, by rw [itV_len ha]; omega⟩, fun D nD => ?_⟩
  rw [itV_len ha]
  have e1 : (((its.length : Nat) : Int) - 1).toNat = its.length - 1 := by omega
  rw [e1]
  refine lcr_filt (lo := 1) (n := its.length - 1) (fun y => ftB its wn y.toNat) nD (by omega) (fun _ => rfl) (fun x G Z h0 h1 sG hz => ?_) (fun x G Z hz => ⟨_, rfl, hz⟩) (fun G sG eG => q _ D sG nD eG)
  obtain ⟨i, rfl⟩ : ∃ i : Nat, x = (i : Int) := ⟨x.toNat, by omega⟩
  have hi : i < its.length := by omega
  have hpl := paN_lt (w := wn) (i := i) (by omega)
  obtain ⟨a, a1, _, a2⟩ := ha.at hi
  obtain ⟨c, c1, _, c2⟩ := ha.at (i := paN wn i) (by omega)
  have hl2 := sqt_list_same hl sG
  refine ⟨_, rfl, _, rfl, l, _, _, _, rfl, rfl, hl2, a1, a, _, _, _, rfl, rfl, SqT.of (sG _ _ a2), rfl, ?_⟩
  refine ⟨_, rfl, _, rfl, _, rfl, i, wn, rfl, hw, by omega, l, _, _, _, rfl, rfl, hl2, c1, c, _, _, _, rfl, rfl, SqT.of (sG _ _ c2), rfl, ?_⟩
  refine ⟨_, _, rfl, rfl, _, rfl, ?_⟩
  have := hz G (Same.refl G)
  rw [Int.toNat_natCast] at this
  exact this
abbrev psLU : List Str := ["_law_place", "_law_start", "_law_width"]
def muU (σ : L2.St) : Nat := match σ with
  | some (.int a) :: _ => a.toNat
  | _ => 0
def spLU : Sp := fun vs H Q _ => ∃ (i s w : Nat), vs = [.int (i : Int), .int (s : Int), .int (w : Int)] ∧ WdN w ∧ Q (.bl (und w s i)) H
theorem ok_lund {f g : Addr} (T0 : FT K mg "_law_under" s_Lunder psLU f) {gd : FuncData} (FP : Fun K "_law_parent" "_law_parent" s_Lparent g gd) (bP : Binds K gd psLP []) (mP : mg "_law_parent" = some (.ref g)) (GP : FnOk P w K mg base CX0 1 g gd psLP spLPar) :
    ∃ fd, Fun K "_law_under" "_law_under" s_Lunder f fd ∧ Binds K fd psLU [] ∧ FnOk P w K mg base CX0 2 f fd psLU spLU := by
  obtain ⟨fd, F, b⟩ := T0.fn
  refine ⟨fd, F, b, F.ok c_Lunder (fun vs H Q E h => ?_) (fun cdv A outer s H vs Q E hr h => ?_)⟩
  · obtain ⟨i, s, w, rfl, _⟩ := h
    rfl
  obtain ⟨i, st, wn, rfl, hw, q⟩ := h
  refine ⟨_, pss_cons (ps_while PassesOwn.never (pt_cmpR op_gt (pv 0) (pv 1) (nomark _)) (pss_one (ps_set (i := 0) c_Lunder.nd rfl (Or.inl rfl) (pe_call GP hr rfl mP FP.kp bP .nil pass0 (pa_cons (pv 0) (pa_cons (pv 2) pa_nil)))))) <|
    pss_one (ps_ret (pe_cmpR op_eq (pv 0) (pv 1) (nomark _))), ?_⟩
  refine while_by (fun σ G => G = H ∧ ∃ j : Nat, σ = [some (.int (j : Int)), some (.int (st : Int)), some (.int (wn : Int))] ∧ und wn st j = und wn st i) (fun σ _ => muU σ) ⟨rfl, i, rfl, rfl⟩ ?_ ?_
  · rintro σ G ⟨rfl, j, rfl, hj⟩
    refine ⟨_, rfl, _, rfl, _, _, rfl, rfl, _, rfl, iteB (fun h1 => ?_) (fun h1 => ?_)⟩
    · have h1 := of_decide_eq_true h1
      have hlt : st < j := by omega
      have hpl := paN_lt (w := wn) (i := j) (by omega)
      refine ⟨_, rfl, _, rfl, j, wn, rfl, hw, by omega, ?_⟩
      refine ⟨⟨rfl, paN wn j, rfl, by rw [← hj, und_gt hlt]⟩, ?_⟩
      show ((paN wn j : Nat) : Int).toNat < ((j : Nat) : Int).toNat
      omega
    · have h1 := of_decide_eq_false h1
      refine ⟨_, rfl, _, rfl, rfl, ?_⟩
      have : decide (V.int (j : Int) = V.int (st : Int)) = und wn st i := by
        rw [← hj, und_le (by omega), decide_eq_decide]
        constructor
        · intro z
          injection z with z
          omega
        · rintro rfl
          rfl
      rw [this]
      exact q
  · rintro σ G Q1 Q2 h ⟨x1, e1, x2, e2, i, j, r1, r2, b, e5, hq⟩
    exact ⟨x1, e1, x2, e2, i, j, r1, r2, b, e5, h _ _ hq⟩
end
end H2
namespace H2
open PySem PySem.Spec PyProof.Rows L2 Hx Nd Dun
section
variable {P : Program} {w : World} {K : PySem.W.Frag} {mg : Str → Option Value} {base : Heap} {D : Addr}
/-! ### the mathematics: the law's reading of a list is the program's -/
def kidL (w s : Nat) : List Int := (rangeI 1 w).map fun k => (w : Int) * (s : Int) + k
theorem mem_kidL {w s i : Nat} : ((i : Int) ∈ kidL w s) ↔ kidIn w s i = true := by
  unfold kidL kidIn
  rw [List.mem_map, Bool.and_eq_true, decide_eq_true_iff, decide_eq_true_iff]
  constructor
  · rintro ⟨k, hk, e⟩
    obtain ⟨h1, h2⟩ := mem_rangeI.mp hk
    have e2 : ((w * s : Nat) : Int) = (w : Int) * (s : Int) := by push_cast; rfl
    omega
  · rintro ⟨h1, h2⟩
    have e2 : ((w * s : Nat) : Int) = (w : Int) * (s : Int) := by push_cast; rfl
    exact ⟨(i : Int) - (w : Int) * (s : Int), mem_rangeI.mpr (by omega), by omega⟩
theorem pa_kid {w s i : Nat} (hw : WdN w) (hi : 0 < i) : paN w i = s ↔ kidIn w s i = true := by
  unfold paN kidIn
  rw [Bool.and_eq_true, decide_eq_true_iff, decide_eq_true_iff]
  rcases hw with rfl | rfl | rfl <;> omega
theorem not_kid_self {w s : Nat} (hw : WdN w) : kidIn w s s = false := by
  unfold kidIn
  rcases hw with rfl | rfl | rfl <;> (rw [decide_eq_false (by omega)]; rfl)
/-- the law's list of allowed faults -/
def alwL (kd : Str) (w s : Nat) : List Int := (if kd = "below" then [] else [(s : Int)]) ++ (if kd = "above" then [] else kidL w s)
def lowKid (its : List (Int × Int)) (w s : Nat) : Bool := (List.range its.length).any fun i => kidIn w s i && decide (kyA its i < kyA its (paN w s))
def lawB (kd : Str) (w : Nat) (its : List (Int × Int)) (s : Nat) : Bool :=
  if kd = "tree" then ((ftL its w).filter fun y => und w s y.toNat && !decide (y ∈ ((s : Int) :: kidL w s))).isEmpty
  else if kd ∈ heapsW then (ftL its w).isEmpty && (decide (kd = "put") || decide (0 < its.length))
  else ((ftL its w).filter fun y => !decide (y ∈ alwL kd w s)).isEmpty && (decide (s = 0) || !lowKid its w s)
def fitB (kd : Str) (w : Nat) (its : List (Int × Int)) (s : Nat) : Bool :=
  if kd ∈ heapsW then (decide (kd = "put") || decide (0 < its.length)) && heapB its w
  else if kd = "tree" then treeB its w s else butB its w s && leanB kd its w s
theorem filt_empty {its : List (Int × Int)} {w : Nat} {P : Int → Bool} : ((ftL its w).filter P).isEmpty = true ↔ ∀ i : Nat, 0 < i → i < its.length → ftB its w i = true → P (i : Int) = false := by
  rw [List.isEmpty_iff, List.filter_eq_nil_iff]
  constructor
  · intro h i h0 h1 h2
    have := h _ (mem_ftL.mpr ⟨i, rfl, h0, h1, h2⟩)
    simpa using this
  · intro h y hy
    obtain ⟨i, rfl, h0, h1, h2⟩ := mem_ftL.mp hy
    rw [h i h0 h1 h2]
    exact Bool.false_ne_true
theorem ft_empty {its : List (Int × Int)} {w : Nat} : (ftL its w).isEmpty = heapB its w := by
  rw [Bool.eq_iff_iff, heapB_iff, List.isEmpty_iff]
  constructor
  · intro h i h0 h1
    cases e : ftB its w i with
    | false => rfl
    | true =>
      have := mem_ftL.mpr ⟨i, rfl, h0, h1, e⟩
      rw [h] at this
      cases this
  · intro h
    rw [List.eq_nil_iff_forall_not_mem]
    intro y hy
    obtain ⟨i, rfl, h0, h1, h2⟩ := mem_ftL.mp hy
    rw [h i h0 h1] at h2
    cases h2
theorem law_fit {kd : Str} {w s : Nat} {its : List (Int × Int)} (hw : WdN w) (hs : s < its.length) (hk : kd ∈ heapsW ∨ kd = "tree" ∨ kd = "either" ∨ kd = "above" ∨ kd = "below") : lawB kd w its s = fitB kd w its s := by
  unfold lawB fitB
  by_cases h1 : kd ∈ heapsW
  · have h2 : ¬ kd = "tree" := fun z => by
      rw [z] at h1
      exact absurd h1 (by decide +kernel)
    rw [if_neg h2, if_pos h1, if_pos h1, ft_empty, Bool.and_comm]
  rw [if_neg h1, if_neg h1]
  by_cases h2 : kd = "tree"
  · rw [if_pos h2, if_pos h2, Bool.eq_iff_iff, filt_empty]
    unfold treeB
    rw [all_rng]
    constructor
    · intro h i hi
      rw [Bool.not_eq_true']
      unfold trB
      cases e1 : decide (s < i) with
      | false => rfl
      | true =>
        have e1 := of_decide_eq_true e1
        cases e2 : ftB its w i with
        | false => simp
        | true =>
          have := h i (by omega) hi e2
          rw [Int.toNat_natCast, und_gt e1] at this
          cases e3 : und w s (paN w i) with
          | false => rfl
          | true =>
            rw [e3, Bool.true_and, Bool.not_eq_false', decide_eq_true_iff] at this
            rcases List.mem_cons.mp this with h3 | h3
            · omega
            · have := (pa_kid hw (by omega)).mpr (mem_kidL.mp h3)
              simp [this]
    · intro h i h0 hi h3
      rw [Int.toNat_natCast]
      rcases Nat.lt_trichotomy i s with h4 | h4 | h4
      · rw [und_le (by omega), decide_eq_false (by omega)]
        rfl
      · rw [h4]
        simp
      · have := h i hi
        rw [Bool.not_eq_true'] at this
        unfold trB at this
        rw [decide_eq_true h4, h3, Bool.and_true, Bool.true_and] at this
        rw [und_gt h4]
        cases e3 : und w s (paN w i) with
        | false => rfl
        | true =>
          rw [e3, Bool.true_and] at this
          have h5 : paN w i = s := by simpa using this
          have := mem_kidL.mpr ((pa_kid hw (by omega)).mp h5)
          simp [this]
  · rw [if_neg h2, if_neg h2]
    have hbe : ("below" : Str) ≠ "above" := by decide +kernel
    -- below, above, either
    have key : ∀ A : Prop, ∀ B : Prop, True := fun _ _ => trivial
    have hb : butB its w s = true ↔ ∀ i, 0 < i → i < its.length → i ≠ s → (paN w i = s → s ≠ 0 → ¬ kyA its i < kyA its (paN w s)) ∧ (paN w i ≠ s → ftB its w i = false) := by
      unfold butB
      rw [all_rng]
      constructor
      · intro h i h0 hi hne
        have := h i hi
        rw [Bool.not_eq_true'] at this
        unfold btB loN at this
        rw [decide_eq_true h0, decide_eq_true hne, Bool.true_and, Bool.true_and] at this
        refine ⟨fun h3 h4 => ?_, fun h3 => ?_⟩
        · rw [if_pos h3, if_neg h4] at this
          exact of_decide_eq_false this
        · rw [if_neg h3] at this
          exact this
      · intro h i hi
        rw [Bool.not_eq_true']
        unfold btB
        cases e0 : decide (0 < i) with
        | false => rfl
        | true =>
          cases e1 : decide (i ≠ s) with
          | false => rfl
          | true =>
            obtain ⟨a, b⟩ := h i (of_decide_eq_true e0) hi (of_decide_eq_true e1)
            unfold loN
            by_cases h3 : paN w i = s
            · rw [if_pos h3]
              by_cases h4 : s = 0
              · rw [if_pos h4]
                rfl
              · rw [if_neg h4]
                simp only [Bool.true_and]
                exact decide_eq_false (a h3 h4)
            · rw [if_neg h3]
              simp only [Bool.true_and]
              exact b h3
    have hlow : (decide (s = 0) || !lowKid its w s) = true ↔ ∀ i, 0 < i → i < its.length → paN w i = s → s ≠ 0 → ¬ kyA its i < kyA its (paN w s) := by
      rw [Bool.or_eq_true, decide_eq_true_iff, Bool.not_eq_true']
      unfold lowKid
      rw [List.any_eq_false]
      constructor
      · rintro (h | h) i h0 hi h3 h4
        · exact absurd h h4
        · have := h i (List.mem_range.mpr hi)
          rw [(pa_kid hw h0).mp h3, Bool.true_and] at this
          simpa using this
      · intro h
        by_cases h4 : s = 0
        · exact .inl h4
        · refine .inr fun i hi => ?_
          have hi := List.mem_range.mp hi
          cases e : kidIn w s i with
          | false => simp
          | true =>
            have h0 : 0 < i := by
              unfold kidIn at e
              rw [Bool.and_eq_true] at e
              have := of_decide_eq_true e.1
              omega
            have := h i h0 hi ((pa_kid hw h0).mpr e) h4
            simpa using this
    have halw : ((ftL its w).filter fun y => !decide (y ∈ alwL kd w s)).isEmpty = true ↔ ∀ i, 0 < i → i < its.length → ftB its w i = true → ((kd ≠ "below" ∧ i = s) ∨ (kd ≠ "above" ∧ paN w i = s)) := by
      rw [filt_empty]
      refine forall_congr' fun i => forall_congr' fun h0 => forall_congr' fun hi => forall_congr' fun hf => ?_
      rw [Bool.not_eq_false', decide_eq_true_iff]
      unfold alwL
      rw [List.mem_append, pa_kid hw h0]
      have m1 : ((i : Int) ∈ (if kd = "below" then [] else [(s : Int)])) ↔ (kd ≠ "below" ∧ i = s) := by
        by_cases h : kd = "below"
        · rw [if_pos h]
          simp [h]
        · rw [if_neg h, List.mem_singleton]
          constructor
          · intro z; exact ⟨h, by omega⟩
          · rintro ⟨_, z⟩; omega
      have m2 : ((i : Int) ∈ (if kd = "above" then [] else kidL w s)) ↔ (kd ≠ "above" ∧ kidIn w s i = true) := by
        by_cases h : kd = "above"
        · rw [if_pos h]
          simp [h]
        · rw [if_neg h, mem_kidL]
          exact ⟨fun z => ⟨h, z⟩, fun z => z.2⟩
      rw [m1, m2]
    have hlean : leanB kd its w s = true ↔ (kd = "above" → ∀ i, 0 < i → i < its.length → paN w i = s → ftB its w i = false) ∧ (kd = "below" → s ≠ 0 → ftB its w s = false) := by
      unfold leanB
      by_cases h : kd = "above"
      · rw [if_pos h]
        unfold kidsB
        rw [all_rng]
        constructor
        · intro hh
          refine ⟨fun _ i h0 hi h3 => ?_, fun z => absurd (z.symm.trans h) hbe⟩
          have := hh i hi
          rw [(pa_kid hw h0).mp h3, Bool.true_and, Bool.not_eq_true'] at this
          unfold ftB
          rw [h3]
          exact this
        · rintro ⟨hh, _⟩ i hi
          rw [Bool.not_eq_true']
          cases e : kidIn w s i with
          | false => rfl
          | true =>
            have h0 : 0 < i := by
              unfold kidIn at e
              rw [Bool.and_eq_true] at e
              have := of_decide_eq_true e.1
              omega
            have h3 := (pa_kid hw h0).mpr e
            have := hh h i h0 hi h3
            unfold ftB at this
            rw [h3] at this
            rw [this]
            rfl
      · rw [if_neg h]
        constructor
        · intro hh
          refine ⟨fun z => absurd z h, fun hk2 h4 => ?_⟩
          rw [hk2, decide_eq_true rfl, Bool.not_true, Bool.false_or, decide_eq_false h4, Bool.false_or] at hh
          have := of_decide_eq_true hh
          unfold ftB
          exact decide_eq_false (by omega)
        · rintro ⟨_, hh⟩
          by_cases hk2 : kd = "below"
          · rw [hk2, decide_eq_true rfl, Bool.not_true, Bool.false_or]
            by_cases h4 : s = 0
            · rw [decide_eq_true h4]
              rfl
            · have := hh hk2 h4
              unfold ftB at this
              have := of_decide_eq_false this
              rw [decide_eq_false h4, Bool.false_or]
              exact decide_eq_true (by omega)
          · rw [decide_eq_false hk2]
            rfl
    rw [Bool.eq_iff_iff, Bool.and_eq_true, Bool.and_eq_true, halw, hlow, hb, hlean]
    have self : ∀ i, 0 < i → paN w i = s → i ≠ s := fun i h0 h3 z => by
      subst z
      have := (pa_kid hw h0).mp h3
      rw [not_kid_self hw] at this
      cases this
    have ftd : ∀ i, ftB its w i = true ∨ ftB its w i = false := fun i => by cases ftB its w i <;> simp
    constructor
    · rintro ⟨h3, h4⟩
      refine ⟨fun i h0 hi hne => ⟨fun a b => h4 i h0 hi a b, fun a => ?_⟩, fun hk1 i h0 hi a => ?_, fun hk1 h5 => ?_⟩
      · rcases ftd i with e | e
        · rcases h3 i h0 hi e with ⟨_, z⟩ | ⟨_, z⟩
          · exact absurd z hne
          · exact absurd z a
        · exact e
      · rcases ftd i with e | e
        · rcases h3 i h0 hi e with ⟨_, z⟩ | ⟨z, _⟩
          · exact absurd z (self i h0 a)
          · exact absurd hk1 z
        · exact e
      · rcases ftd s with e | e
        · rcases h3 s (by omega) hs e with ⟨z, _⟩ | ⟨_, z⟩
          · exact absurd hk1 z
          · exact absurd rfl (self s (by omega) z)
        · exact e
    · rintro ⟨h3, h4, h5⟩
      refine ⟨fun i h0 hi hf => ?_, fun i h0 hi a b => (h3 i h0 hi (self i h0 a)).1 a b⟩
      by_cases hne : i = s
      · by_cases hk1 : kd = "below"
        · have := h5 hk1 (by omega)
          rw [← hne, hf] at this
          cases this
        · exact .inl ⟨hk1, hne⟩
      · by_cases a : paN w i = s
        · by_cases hk1 : kd = "above"
          · have := h4 hk1 i h0 hi a
            rw [hf] at this
            cases this
          · exact .inr ⟨hk1, a⟩
        · have := (h3 i h0 hi hne).2 a
          rw [hf] at this
          cases this
end
end H2
namespace H2
open PySem PySem.Spec PyProof.Rows L2 Hx Nd Dun
section
variable {P : Program} {w : World} {K : PySem.W.Frag} {mg : Str → Option Value} {base : Heap} {D : Addr}
/-! ### lists as data -/
theorem dp_ints {H : Hp} (ys : List Int) : DpAll K H (ys.map V.int) (ys.map PyData.int) := by
  induction ys with
  | nil => exact .nil
  | cons y r ih => exact .cons (.int y) ih
theorem shaped_ints (ys : List Int) : SeqAt.shaped (.list (ys.map PyData.int)) = true := by
  have h1 : PyData.canLayAll0 (ys.map PyData.int) = true := by
    induction ys with
    | nil => rfl
    | cons y r ih => rw [List.map_cons, PyData.canLayAll0, ih]; rfl
  have h2 : PyData.depthAll (ys.map PyData.int) = 0 := by
    induction ys with
    | nil => rfl
    | cons y r ih => rw [List.map_cons, PyData.depthAll, ih (by
        rw [List.map_cons, PyData.canLayAll0, Bool.and_eq_true] at h1
        exact h1.2)]; rfl
  unfold SeqAt.shaped
  rw [Bool.and_eq_true]
  refine ⟨by rw [PyData.canLay0]; exact h1, decide_eq_true ?_⟩
  rw [PyData.depth, h2]
  decide
end
end H2
namespace H2
open PySem PySem.Spec PyProof.Rows L2 Hx Nd Dun
section
variable {P : Program} {w : World} {K : PySem.W.Frag} {mg : Str → Option Value} {base : Heap} {D : Addr}
theorem lcr_map {lo : Int} {n : Nat} (φ : Int → V) {te : TE} {j : Nat} {σ : L2.St} {G1 : Hp} {D : Addr} {Qd : Hp → Prop} (nD : G1 D = none) (hlen : n ≤ 100000)
    (hw : ∀ v, wipe ((wipe σ [j]).set j (some v)) [j] = wipe σ [j])
    (he : ∀ (x : Int) (G : Hp) (Z : V → Hp → Prop), lo ≤ x → x < lo + n → Same G1 G → Z (φ x) G → te ((wipe σ [j]).set j (some (.int x))) G Z)
    (hd : ∀ G, Same G1 G → G D = some (.lst ((rangeI lo n).map φ)) → Qd G) :
    ∃ W : Nat → Nat → Hp → Prop, (∃ m, W 0 m (upd G1 D (.lst []))) ∧ ∀ i m H, W i m H →
      ((Itr lo n).stop i H ∧ Qd H) ∨ ((Itr lo n).go i H ∧ ∃ Nx : Hp → Prop, (∀ H', Nx H' → ∃ m', m' < m ∧ W (i + 1) m' H') ∧ ∀ x H', (Itr lo n).yld i H x H' → gName j x (wipe σ [j]) H' fun σ2 H2 => wipe σ2 [j] = wipe σ [j] ∧ tYes σ2 H2 fun b H3 =>
        if b = true then te σ2 H3 fun y H4 => ∃ acc, H4 D = some (.lst acc) ∧ acc.length < sizeLine ∧ Nx (upd H4 D (.lst (acc ++ [y]))) else Nx H3) := by
  refine lc_range (lo := lo) (n := n) (fun i G => Same G1 G ∧ G D = some (.lst ((rangeI lo i).map φ))) ⟨new_same nD, upd_same⟩ ?_ ?_
  · rintro i G hi ⟨s, e⟩
    refine ⟨hw _, ?_⟩
    unfold tYes
    dsimp only
    simp only [if_true]
    refine he _ G _ (by omega) (by omega) s ⟨_, e, ?_, same_out s nD, ?_⟩
    · rw [List.length_map]
      unfold rangeI
      rw [List.length_map, List.length_range]
      exact Nat.lt_of_le_of_lt (Nat.le_trans (Nat.le_of_lt hi) hlen) (by decide)
    · rw [upd_same, rangeI_succ, List.map_append]
      rfl
  · rintro G ⟨s, e⟩
    exact hd G s e
/-- [x for x in xs if P(x)], xs objects -/
theorem lc_filtR {K : PySem.W.Frag} {a : Addr} {xs : List Addr} (P : Addr → Bool) {tt : TT} {te : TE} {j : Nat} {σ : L2.St} {G1 : Hp} {D : Addr} {Qd : Hp → Prop} (hsq : SqL K G1 a (xs.map V.ref)) (nD : G1 D = none) (hlen : xs.length ≤ 100000)
    (hw : ∀ v, wipe ((wipe σ [j]).set j (some v)) [j] = wipe σ [j])
    (ht : ∀ (x : Addr) (G : Hp) (Z : Bool → Hp → Prop), x ∈ xs → Same G1 G → Z (P x) G → tt ((wipe σ [j]).set j (some (.ref x))) G Z)
    (he : ∀ (x : Addr) (G : Hp) (Z : V → Hp → Prop), Z (.ref x) G → te ((wipe σ [j]).set j (some (.ref x))) G Z)
    (hd : ∀ G, Same G1 G → G D = some (.lst ((xs.filter P).map V.ref)) → Qd G) :
    ∃ W : Nat → Nat → Hp → Prop, (∃ m, W 0 m (upd G1 D (.lst []))) ∧ ∀ i m H, W i m H →
      ((Itl K a).stop i H ∧ Qd H) ∨ ((Itl K a).go i H ∧ ∃ Nx : Hp → Prop, (∀ H', Nx H' → ∃ m', m' < m ∧ W (i + 1) m' H') ∧ ∀ x H', (Itl K a).yld i H x H' → gName j x (wipe σ [j]) H' fun σ2 H2 => wipe σ2 [j] = wipe σ [j] ∧ tt σ2 H2 fun b H3 =>
        if b = true then te σ2 H3 fun y H4 => ∃ acc, H4 D = some (.lst acc) ∧ acc.length < sizeLine ∧ Nx (upd H4 D (.lst (acc ++ [y]))) else Nx H3) := by
  refine lc_list (K := K) (a := a) (xs := xs.map V.ref) (fun i G => Same G1 G ∧ G D = some (.lst (((xs.take i).filter P).map V.ref))) ⟨new_same nD, upd_same⟩ ?_ ?_ ?_
  · rintro i G _ ⟨s, _⟩
    exact sqt_list_same hsq s
  · rintro i v G hi ⟨s, e⟩
    rw [List.getElem?_map] at hi
    cases hx : xs[i]? with
    | none => rw [hx] at hi; cases hi
    | some x =>
      rw [hx] at hi
      cases hi
      have hm := List.mem_of_getElem? hx
      have et : (xs.take (i + 1)).filter P = (xs.take i).filter P ++ (if P x = true then [x] else []) := by
        rw [List.take_add_one, hx, List.filter_append, Option.toList_some, List.filter_cons, List.filter_nil]
      refine ⟨hw _, ht x G _ hm s ?_⟩
      cases hP : P x with
      | true =>
        rw [if_pos rfl]
        refine he x G _ ⟨_, e, ?_, same_out s nD, ?_⟩
        · rw [List.length_map]
          exact Nat.lt_of_le_of_lt (Nat.le_trans (List.length_filter_le _ _) (by rw [List.length_take]; exact Nat.min_le_right _ _)) (Nat.lt_of_le_of_lt hlen (by decide))
        · rw [upd_same, et, if_pos hP, List.map_append]
          rfl
      | false =>
        rw [if_neg Bool.false_ne_true]
        refine ⟨s, ?_⟩
        rw [et, hP, if_neg Bool.false_ne_true, List.append_nil]
        exact e
  · rintro G ⟨s, e⟩
    rw [List.length_map, List.take_length] at e
    exact hd G s e
theorem dp_refs {H : Hp} : ∀ {bs : List Addr}, (∀ b ∈ bs, ∃ k m : Int, H b = some (.tup [.int k, .int m])) → ∃ ds : List PyData, DpAll K H (bs.map V.ref) ds ∧ PyData.canLayAll0 ds = true ∧ PyData.depthAll ds ≤ 1 ∧ ds.length = bs.length
  | [], _ => ⟨[], .nil, rfl, Nat.zero_le _, rfl⟩
  | b :: r, h => by
    obtain ⟨ds, h1, h2, h3, h4⟩ := dp_refs fun c hc => h c (List.mem_cons_of_mem _ hc)
    obtain ⟨k, m, e⟩ := h b List.mem_cons_self
    refine ⟨.tuple [.int k, .int m] :: ds, .cons (.tup (SqT.of e) (.cons (.int k) (.cons (.int m) .nil))) h1, ?_, ?_, by rw [List.length_cons, List.length_cons, h4]⟩
    · rw [PyData.canLayAll0, h2, PyData.canLay0, PyData.canLayAll0, PyData.canLayAll0, PyData.canLayAll0, PyData.canLay0, PyData.canLay0]
      rfl
    · rw [PyData.depthAll]
      have : PyData.depth (.tuple [.int k, .int m]) = 1 := rfl
      rw [this]
      exact Nat.max_le.mpr ⟨Nat.le_refl _, h3⟩
theorem shaped_refs {ds : List PyData} (h1 : PyData.canLayAll0 ds = true) (h2 : PyData.depthAll ds ≤ 1) : SeqAt.shaped (.list ds) = true := by
  unfold SeqAt.shaped
  rw [Bool.and_eq_true]
  refine ⟨by rw [PyData.canLay0]; exact h1, decide_eq_true ?_⟩
  rw [PyData.depth]
  omega
theorem eqv_nil_d (ds : List PyData) : PyData.eqv (.list ds) (.list []) = ds.isEmpty := by
  cases ds with
  | nil => rfl
  | cons y r => simp [PyData.eqv, PyData.eqvAll]
theorem op_notIn_seqk {X : Cx} {K' : PySem.W.Frag} (hk : X.K = K') : OpR X (compareOp .NotIn) (rIn K' true) := by subst hk; exact op_notIn_seq
end
end H2
namespace H2
open PySem PySem.Spec PyProof.Rows L2 Hx Nd Dun
section
variable {P : Program} {w : World} {K : PySem.W.Frag} {mg : Str → Option Value} {base : Heap} {D : Addr}
/-! ### _law_is_list -/
abbrev psLI : List Str := ["_law_kind", "_law_width", "_law_row", "_law_start"]
def kdW : List Str := ["put", "take", "top", "out", "either", "above", "below", "tree"]
def kyH (H : Hp) (b : Addr) : Int := match H b with
  | some (.tup (.int k :: _)) => k
  | _ => 0
def spLI (K : PySem.W.Frag) : Sp := fun vs H Q _ => ∃ (kd : Str) (w : Nat) (l : Addr) (as : List Addr) (its : List (Int × Int)) (sv : V) (s : Nat), vs = [.str kd, .int (w : Int), .ref l, sv] ∧ SqL K H l (itV as) ∧ ItA H as its ∧ WdN w ∧ its.length ≤ 900 ∧ kd ∈ kdW ∧ (kd ∈ heapsW ∨ (sv = .int (s : Int) ∧ s < its.length)) ∧ ∀ H', Same H H' → Q (.bl (lawB kd w its s)) H'
theorem ok_lis {f g1 g2 g3 : Addr} (T0 : FT K mg "_law_is_list" s_Lis_list psLI f) (rng : mg "range" = none) {d1 d2 d3 : FuncData}
    (F1 : Fun K "_law_faults" "_law_faults" s_Lfaults g1 d1) (b1 : Binds K d1 psLFt []) (m1 : mg "_law_faults" = some (.ref g1)) (G1 : FnOk P w K mg base CX0 2 g1 d1 psLFt (spLFt K))
    (F2 : Fun K "_law_under" "_law_under" s_Lunder g2 d2) (b2 : Binds K d2 psLU []) (m2 : mg "_law_under" = some (.ref g2)) (G2 : FnOk P w K mg base CX0 2 g2 d2 psLU spLU)
    (F3 : Fun K "_law_parent" "_law_parent" s_Lparent g3 d3) (b3 : Binds K d3 psLP []) (m3 : mg "_law_parent" = some (.ref g3)) (G3 : FnOk P w K mg base CX0 1 g3 d3 psLP spLPar) :
    ∃ fd, Fun K "_law_is_list" "_law_is_list" s_Lis_list f fd ∧ Binds K fd psLI [] ∧ FnOk P w K mg base CX0 3 f fd psLI (spLI K) := by
  obtain ⟨fd, F, b⟩ := T0.fn
  refine ⟨fd, F, b, F.ok c_Lis_list (fun vs H Q E h => ?_) (fun cdv A outer s H vs Q E hr h => ?_)⟩
  · obtain ⟨kd, w, l, as, its, sv, s, rfl, _⟩ := h
    rfl
  obtain ⟨kd, wn, l, as, its, sv, st, rfl, hl, ha, hw, hn, hkd, hsv, q⟩ := h
  have hr1 : Room 1 _ := hr.mono (by decide)
  have hwb : wn ≤ 4 ∧ 2 ≤ wn := by rcases hw with rfl | rfl | rfl <;> decide
  refine ⟨_, pss_cons (ps_set (i := 4) c_Lis_list.nd rfl (Or.inl rfl) (pe_call G1 hr rfl m1 F1.kp b1 .nil pass0 (pa_cons (pv 2) (pa_cons (pv 1) pa_nil)))) <|
    pss_cons (ps_if (pt_cmpR op_eq (pv 0) pe_str (nomark _))
      (pss_cons (ps_set (i := 5) c_Lis_list.nd rfl (Or.inr rfl) (pe_op op_cat (pe_lst (pa_cons (pv 3) pa_nil))
        (pe_lc (own := [("_law_k", 6)]) (g := gName 6) (tt := tYes) rfl c_Lis_list.nd (pi_range2 rfl rng (pa_cons pe_int (pa_cons (pe_op op_add (pv 1) pe_int) pa_nil))) (blkOk_by (own := [("_law_k", 6)]) (N := n_Lis_list) (sc := defScope s_Lis_list) (by decide +kernel))
          (fun _ _ _ _ _ => pg_name (i := 6) c_Lis_list.nd rfl (Or.inl rfl)) (fun _ _ _ _ _ => pts_nil) (fun _ _ _ _ _ => pe_op op_add (pe_op op_mul (pv 1) (pv 3)) (pv 6))))) <|
       pss_one (ps_ret (pe_cmpR (op_eqD hr1.units)
        (pe_lc (own := [("_law_k", 6)]) (g := gName 6) rfl c_Lis_list.nd (pi_list (pv 4)) (blkOk_by (own := [("_law_k", 6)]) (N := n_Lis_list) (sc := defScope s_Lis_list) (by decide +kernel))
          (fun _ _ _ _ _ => pg_name (i := 6) c_Lis_list.nd rfl (Or.inl rfl)) (fun _ _ _ _ _ => pts_one (PW.pt (pw_and (pt_val (pe_call G2 hr rfl m2 F2.kp b2 .nil pass0 (pa_cons (pv 6) (pa_cons (pv 3) (pa_cons (pv 1) pa_nil))))) (pw_and1 (pt_cmpR (op_notIn_seqk (K' := K) rfl) (pv 6) (pv 5) rfl))))) (fun _ _ _ _ _ => pv 6)) (pe_lst pa_nil) (nomark _)))) pss_nil) <|
    pss_cons (ps_if (pt_cmpR op_in_seq (pv 0) (pe_lst (pa_cons pe_str (pa_cons pe_str (pa_cons pe_str (pa_cons pe_str pa_nil))))) rfl)
      (pss_one (ps_ret (pe_and (pe_cmpR (op_eqD hr1.units) (pv 4) (pe_lst pa_nil) (nomark _)) (pe_one (pe_or (pe_cmpR op_eq (pv 0) pe_str (nomark _)) (pe_one (pe_cmpR (op_neD hr1.units) (pv 2) (pe_lst pa_nil) (nomark _)))))))) pss_nil) <|
    pss_cons (ps_set (i := 7) c_Lis_list.nd rfl (Or.inr rfl) (pe_dget (hu_of hr) (pe_disp (pps_cons pe_str (pe_lst (pa_cons (pv 3) pa_nil)) (pps_cons pe_str (pe_lst pa_nil) (pps_cons pe_str (pe_lst (pa_cons (pv 3) pa_nil)) pps_nil))) (by rfl) (by rfl) (fun z => by cases z) (by decide)) (pv 0) (fun _ _ => rfl))) <|
    Evl.pss_cut (ps_if (pt_cmpR op_ne (pv 0) pe_str (nomark _)) (pss_one (ps_set (i := 7) c_Lis_list.nd rfl (Or.inr rfl) (pe_op op_cat (pv 7)
        (pe_lc (own := [("_law_k", 6)]) (g := gName 6) (tt := tYes) rfl c_Lis_list.nd (pi_range2 rfl rng (pa_cons pe_int (pa_cons (pe_op op_add (pv 1) pe_int) pa_nil))) (blkOk_by (own := [("_law_k", 6)]) (N := n_Lis_list) (sc := defScope s_Lis_list) (by decide +kernel))
          (fun _ _ _ _ _ => pg_name (i := 6) c_Lis_list.nd rfl (Or.inl rfl)) (fun _ _ _ _ _ => pts_nil) (fun _ _ _ _ _ => pe_op op_add (pe_op op_mul (pv 1) (pv 3)) (pv 6)))))) pss_nil) <|
    pss_cons (ps_if (pt_cmpR (op_neD hr1.units)
        (pe_lc (own := [("_law_k", 6)]) (g := gName 6) rfl c_Lis_list.nd (pi_list (pv 4)) (blkOk_by (own := [("_law_k", 6)]) (N := n_Lis_list) (sc := defScope s_Lis_list) (by decide +kernel))
          (fun _ _ _ _ _ => pg_name (i := 6) c_Lis_list.nd rfl (Or.inl rfl)) (fun _ _ _ _ _ => pts_one (pt_cmpR (op_notIn_seqk (K' := K) rfl) (pv 6) (pv 7) rfl)) (fun _ _ _ _ _ => pv 6)) (pe_lst pa_nil) (nomark _)) (pss_one (ps_ret pe_bl)) pss_nil) <|
    pss_cons (ps_if (pt_cmpR op_eq (pv 3) pe_int (nomark _)) (pss_one (ps_ret pe_bl)) pss_nil) <|
    pss_cons (ps_set (i := 8) c_Lis_list.nd rfl (Or.inr rfl) (pe_ix ix_tup (pe_ix ix_list (pv 2) (pe_call G3 (hr.mono (by decide)) rfl m3 F3.kp b3 .nil pass0 (pa_cons (pv 3) (pa_cons (pv 1) pa_nil))) (fun _ _ => rfl)) pe_int (fun _ _ => rfl))) <|
    pss_cons (ps_set (i := 5) c_Lis_list.nd rfl (Or.inr rfl) (pe_slice sl_list (pv 2) (po_some (pe_op op_add (pe_op op_mul (pv 1) (pv 3)) pe_int)) (po_some (pe_op op_add (pe_op op_add (pe_op op_mul (pv 1) (pv 3)) (pv 1)) pe_int)))) <|
    pss_one (ps_ret (pe_cmpR (op_eqD hr1.units)
        (pe_lc (own := [("_law_item", 9)]) (g := gName 9) rfl c_Lis_list.nd (pi_list (pv 5)) (blkOk_by (own := [("_law_item", 9)]) (N := n_Lis_list) (sc := defScope s_Lis_list) (by decide +kernel))
          (fun _ _ _ _ _ => pg_name (i := 9) c_Lis_list.nd rfl (Or.inl rfl)) (fun _ _ _ _ _ => pts_one (pt_cmpR op_lt (pe_ix (ix_tupk (K' := K) rfl) (pv 9) pe_int (fun _ _ => rfl)) (pv 8) (nomark _))) (fun _ _ _ _ _ => pv 9)) (pe_lst pa_nil) (nomark _))), ?_⟩
  -- the faults
  refine ⟨_, rfl, _, rfl, l, as, its, wn, rfl, hl, ha, hw, hn, fun H1 r1 s1 nr1 e1 => ?_⟩
  have hfl : (ftL its wn).length ≤ 900 := by
    unfold ftL
    refine Nat.le_trans (List.length_filter_le _ _) ?_
    unfold rangeI
    rw [List.length_map, List.length_range]
    omega
  have hkl : (kidL wn st).length = wn := by
    unfold kidL rangeI
    rw [List.length_map, List.length_map, List.length_range]
  refine ⟨_, rfl, rfl, _, rfl, iteB (fun h1 => ?_) (fun h1 => ?_)⟩
  · -- tree
    have h1 := of_decide_eq_true (str_dec.symm.trans h1)
    have hs : sv = .int (st : Int) ∧ st < its.length := by
      rcases hsv with h | h
      · rw [h1] at h
        exact absurd h (by decide +kernel)
      · exact h
    obtain ⟨rfl, hst⟩ := hs
    unfold lawB at q
    rw [if_pos h1] at q
    refine ⟨_, rfl, (by show 1 ≤ sizeLine; decide), fun u nu => ?_⟩
    have su := new_same (o := .lst [.int (st : Int)]) nu
    refine ⟨_, rfl, _, _, rfl, rfl, 1, (wn : Int) + 1, rfl, ⟨by decide, by decide, by omega, by omega⟩, fun D nD => ?_⟩
    have e9 : (((wn : Int) + 1) - 1).toNat = wn := by omega
    rw [e9]
    refine lcr_map (lo := 1) (n := wn) (fun k => .int ((wn : Int) * (st : Int) + k)) nD (by omega) (fun _ => rfl) (fun x G Z h0 h1 sG hz => ?_) (fun G sG eG => ?_)
    · exact ⟨_, rfl, _, rfl, _, _, rfl, rfl, .inl ⟨by omega, by omega⟩, _, rfl, _, _, rfl, rfl, hz⟩
    have eG' : G D = some (.lst ((kidL wn st).map V.int)) := by
      rw [eG]
      unfold kidL
      rw [List.map_map]
      rfl
    refine ⟨u, D, _, _, rfl, rfl, sG _ _ upd_same, eG', by rw [List.length_map, hkl]; show 1 + _ ≤ _; exact Nat.le_of_lt (big (by omega)), fun c nc => ?_⟩
    have sc := new_same (o := .lst ([V.int (st : Int)] ++ (kidL wn st).map V.int)) nc
    have ec : upd G c (.lst ([V.int (st : Int)] ++ (kidL wn st).map V.int)) c = some (.lst (((st : Int) :: kidL wn st).map V.int)) := upd_same
    generalize upd G c (.lst ([V.int (st : Int)] ++ (kidL wn st).map V.int)) = G2 at sc ec ⊢
    have sA : Same H1 G2 := fun a o z => sc _ _ (sG _ _ (su _ _ z))
    refine ⟨_, rfl, r1, rfl, ⟨_, SqL.of (sA _ _ e1)⟩, fun D2 nD2 => lc_filt (fun y => und wn st y.toNat && !decide (y ∈ ((st : Int) :: kidL wn st))) (fun y => .int y) (sA _ _ e1) nD2 (by omega) (fun _ => rfl) (fun x G Z hx sG hz => ?_) (fun x G Z hx _ _ hz => ⟨_, rfl, hz G (Same.refl G)⟩) (fun G3 s3 e3 => ?_)⟩
    · obtain ⟨i, rfl, _⟩ := mem_ftL.mp hx
      refine ⟨_, rfl, _, rfl, _, rfl, i, st, wn, rfl, hw, _, rfl, ?_⟩
      have hz := hz G (Same.refl G)
      rw [Int.toNat_natCast] at hz
      cases e : und wn st i with
      | false =>
        rw [e] at hz
        exact iteF hz
      | true =>
        rw [e, Bool.true_and] at hz
        refine iteT ?_
        refine ⟨_, rfl, _, rfl, c, _, rfl, .inl (SqL.of (sG _ _ ec)), rfl, flat_ints _, _, rfl, ?_⟩
        rw [inV_int]
        exact hz
    refine ⟨Nat.zero_le _, fun z nz => ?_⟩
    refine ⟨_, _, .lst (SqL.of ((new_same nz) _ _ e3)) (dp_ints _), .lst (SqL.of upd_same) .nil, shaped_ints _, by decide +kernel, ?_⟩
    rw [eqv_nil_i]
    exact q _ (fun a o z' => (new_same nz) _ _ (s3 _ _ (sA _ _ (s1 _ _ z'))))
  have hnt : ¬ kd = "tree" := of_decide_eq_false (str_dec.symm.trans h1)
  unfold lawB at q
  rw [if_neg hnt] at q
  refine ⟨_, rfl, (by show 4 ≤ sizeLine; decide), fun u nu => ⟨u, _, rfl, .inl (SqL.of upd_same), rfl, rfl, _, rfl, ?_⟩⟩
  have su := same_new (o := .lst [.str "put", .str "take", .str "top", .str "out"]) s1 nu
  have e1u : (upd H1 u (.lst [.str "put", .str "take", .str "top", .str "out"])) r1 = some (.lst ((ftL its wn).map V.int)) := (new_same nu) _ _ e1
  generalize upd H1 u (.lst [.str "put", .str "take", .str "top", .str "out"]) = G1 at su e1u ⊢
  refine iteB (fun h2 => ?_) (fun h2 => ?_)
  · have h2 : kd ∈ heapsW := of_decide_eq_true ((inV_strs (os := heapsW)).symm.trans h2)
    rw [if_pos h2] at q
    refine ⟨_, rfl, Nat.zero_le _, fun z nz => ?_⟩
    refine ⟨_, _, .lst (SqL.of ((new_same nz) _ _ e1u)) (dp_ints _), .lst (SqL.of upd_same) .nil, shaped_ints _, by decide +kernel, _, rfl, ?_⟩
    rw [eqv_nil_i]
    have sz := same_new (o := .lst []) su nz
    cases e3 : (ftL its wn).isEmpty with
    | false =>
      rw [e3] at q
      exact q _ sz
    | true =>
      rw [e3, Bool.true_and] at q
      refine ⟨_, rfl, rfl, _, rfl, ?_⟩
      rw [str_dec]
      cases e4 : decide (kd = "put") with
      | true =>
        rw [e4] at q
        exact q _ sz
      | false =>
        rw [e4, Bool.false_or] at q
        refine ⟨_, rfl, Nat.zero_le _, fun y ny => ?_⟩
        have sy := same_new (o := .lst []) sz ny
        obtain ⟨ds, p1, p2, p3, p4⟩ := dp_refs (H := upd (upd G1 z (.lst [])) y (.lst [])) (bs := as) (fun b hb => by
          obtain ⟨i, hi⟩ := List.getElem?_of_mem hb
          obtain ⟨_, h3⟩ := ha.get hi
          exact ⟨_, _, sy _ _ h3⟩)
        refine ⟨_, _, .lst (sqt_list_same hl sy) p1, .lst (SqL.of upd_same) .nil, shaped_refs p2 p3, by decide +kernel, ?_⟩
        rw [eqv_nil_d]
        have : (!ds.isEmpty) = decide (0 < its.length) := by
          rw [← ha.1, ← p4]
          cases ds <;> simp
        rw [this]
        exact q _ sy
  · have h2 : ¬ kd ∈ heapsW := of_decide_eq_false ((inV_strs (os := heapsW)).symm.trans h2)
    rw [if_neg h2] at q
    obtain ⟨rfl, hst⟩ : sv = .int (st : Int) ∧ st < its.length := hsv.resolve_left h2
    have hk3 : kd = "either" ∨ kd = "above" ∨ kd = "below" := by
      have h3 : kd = "put" ∨ kd = "take" ∨ kd = "top" ∨ kd = "out" ∨ kd = "either" ∨ kd = "above" ∨ kd = "below" ∨ kd = "tree" := by
        unfold kdW at hkd
        simpa using hkd
      rcases h3 with rfl | rfl | rfl | rfl | h3 | h3 | h3 | h3
      · exact absurd (by decide +kernel) h2
      · exact absurd (by decide +kernel) h2
      · exact absurd (by decide +kernel) h2
      · exact absurd (by decide +kernel) h2
      · exact .inl h3
      · exact .inr (.inl h3)
      · exact .inr (.inr h3)
      · exact absurd h3 hnt
    -- the dict of lists
    intro p np
    refine ⟨_, rfl, (by show 1 ≤ sizeLine; decide), fun l1 nl1 => ⟨Nat.zero_le _, fun l2 nl2 => ⟨_, rfl, (by show 1 ≤ sizeLine; decide), fun l3 nl3 => ?_⟩⟩⟩
    have sp := same_new (o := .dK []) su np
    have s1' := same_new (o := .lst [.int (st : Int)]) sp nl1
    have s2' := same_new (o := .lst []) s1' nl2
    have s3' := same_new (o := .lst [.int (st : Int)]) s2' nl3
    have ep : (upd (upd (upd (upd G1 p (.dK [])) l1 (.lst [.int (st : Int)])) l2 (.lst [])) l3 (.lst [.int (st : Int)])) p = some (.dK []) := (new_same nl3) _ _ ((new_same nl2) _ _ ((new_same nl1) _ _ upd_same))
    have el1 : (upd (upd (upd (upd G1 p (.dK [])) l1 (.lst [.int (st : Int)])) l2 (.lst [])) l3 (.lst [.int (st : Int)])) l1 = some (.lst [.int (st : Int)]) := (new_same nl3) _ _ ((new_same nl2) _ _ upd_same)
    have el2 : (upd (upd (upd (upd G1 p (.dK [])) l1 (.lst [.int (st : Int)])) l2 (.lst [])) l3 (.lst [.int (st : Int)])) l2 = some (.lst []) := (new_same nl3) _ _ upd_same
    have el3 : (upd (upd (upd (upd G1 p (.dK [])) l1 (.lst [.int (st : Int)])) l2 (.lst [])) l3 (.lst [.int (st : Int)])) l3 = some (.lst [.int (st : Int)]) := upd_same
    have ser : (upd (upd (upd (upd G1 p (.dK [])) l1 (.lst [.int (st : Int)])) l2 (.lst [])) l3 (.lst [.int (st : Int)])) r1 = some (.lst ((ftL its wn).map V.int)) := (new_same nl3) _ _ ((new_same nl2) _ _ ((new_same nl1) _ _ ((new_same np) _ _ e1u)))
    refine ⟨ep, [(Sum.inr ("above" : Str), .ref l1), (Sum.inr ("below" : Str), .ref l2), (Sum.inr ("either" : Str), .ref l3)], rfl, (by show 3 ≤ 15; decide), ?_⟩
    generalize upd (upd (upd (upd G1 p (.dK [])) l1 (.lst [.int (st : Int)])) l2 (.lst [])) l3 (.lst [.int (st : Int)]) = G3 at s3' ep el1 el2 el3 ser ⊢
    have em : mergeK [] [((Sum.inr ("above" : Str) : Key), V.ref l1), (Sum.inr ("below" : Str), .ref l2), (Sum.inr ("either" : Str), .ref l3)] = [(Sum.inr ("above" : Str), .ref l1), (Sum.inr ("below" : Str), .ref l2), (Sum.inr ("either" : Str), .ref l3)] := by
      have n1 : ¬ (Sum.inr ("above" : Str) : Key) = Sum.inr ("below" : Str) := by decide +kernel
      have n2 : ¬ (Sum.inr ("above" : Str) : Key) = Sum.inr ("either" : Str) := by decide +kernel
      have n3 : ¬ (Sum.inr ("below" : Str) : Key) = Sum.inr ("either" : Str) := by decide +kernel
      show putK (putK (putK ([] : List (Key × V)) (Sum.inr ("above" : Str)) (.ref l1)) (Sum.inr ("below" : Str)) (.ref l2)) (Sum.inr ("either" : Str)) (.ref l3) = _
      have q1 : putK ([] : List (Key × V)) (Sum.inr ("above" : Str)) (.ref l1) = [((Sum.inr ("above" : Str) : Key), V.ref l1)] := rfl
      have q2 : putK [((Sum.inr ("above" : Str) : Key), V.ref l1)] (Sum.inr ("below" : Str)) (.ref l2) = [((Sum.inr ("above" : Str) : Key), V.ref l1), (Sum.inr ("below" : Str), .ref l2)] := by
        rw [putK_new _ (by rw [valV_neg n1]; rfl)]; rfl
      have q3 : putK [((Sum.inr ("above" : Str) : Key), V.ref l1), (Sum.inr ("below" : Str), .ref l2)] (Sum.inr ("either" : Str)) (.ref l3) = [((Sum.inr ("above" : Str) : Key), V.ref l1), (Sum.inr ("below" : Str), .ref l2), (Sum.inr ("either" : Str), .ref l3)] := by
        rw [putK_new _ (by rw [valV_neg n2, valV_neg n3]; rfl)]; rfl
      rw [q1, q2, q3]
    rw [em]
    obtain ⟨la, ev, ela, npl⟩ : ∃ la, valV [((Sum.inr ("above" : Str) : Key), V.ref l1), (Sum.inr ("below" : Str), .ref l2), (Sum.inr ("either" : Str), .ref l3)] (Sum.inr kd) = some (.ref la) ∧ G3 la = some (.lst ((if kd = "below" then [] else [(st : Int)]).map V.int)) ∧ la ≠ p := by
      have n1 : ¬ (Sum.inr ("above" : Str) : Key) = Sum.inr ("below" : Str) := by decide +kernel
      have n2 : ¬ (Sum.inr ("above" : Str) : Key) = Sum.inr ("either" : Str) := by decide +kernel
      have n3 : ¬ (Sum.inr ("below" : Str) : Key) = Sum.inr ("either" : Str) := by decide +kernel
      rcases hk3 with rfl | rfl | rfl
      · exact ⟨l3, by rw [valV_neg n2, valV_neg n3, valV_pos rfl], by rw [if_neg (by decide +kernel)]; exact el3, ne_of el3 ep (by intro z; cases z)⟩
      · exact ⟨l1, by rw [valV_pos rfl], by rw [if_neg (by decide +kernel)]; exact el1, ne_of el1 ep (by intro z; cases z)⟩
      · exact ⟨l2, by rw [valV_neg n1, valV_pos rfl], by rw [if_pos rfl]; exact el2, ne_of el2 ep (by intro z; cases z)⟩
    generalize [((Sum.inr ("above" : Str) : Key), V.ref l1), (Sum.inr ("below" : Str), .ref l2), (Sum.inr ("either" : Str), .ref l3)] = kvs at ev ⊢
    have sq : Same H (upd G3 p (.dK kvs)) := fun c o z => by
      rw [upd_ne (ne_of_none (su _ _ z) np)]
      exact s3' _ _ z
    have ela4 : (upd G3 p (.dK kvs)) la = some (.lst ((if kd = "below" then [] else [(st : Int)]).map V.int)) := by rw [upd_ne npl]; exact ela
    have ser4 : (upd G3 p (.dK kvs)) r1 = some (.lst ((ftL its wn).map V.int)) := by rw [upd_ne (ne_of ser ep (by intro z; cases z))]; exact ser
    refine ⟨_, rfl, p, _, rfl, (show DGet _ _ (kV (Sum.inr kd)) (some (.ref la)) from by rw [← ev]; exact DGet.k (k := Sum.inr kd) upd_same), ?_⟩
    generalize upd G3 p (.dK kvs) = G4 at sq ela4 ser4 ⊢
    refine ⟨fun σ G => ∃ (lb : Addr) (v6 : Option V), σ = [some (.str kd), some (.int (wn : Int)), some (.ref l), some (.int (st : Int)), some (.ref r1), none, v6, some (.ref lb), none, none] ∧ Same H G ∧ G r1 = some (.lst ((ftL its wn).map V.int)) ∧ G lb = some (.lst ((alwL kd wn st).map V.int)), ?_, ?_⟩
    · refine ⟨_, rfl, rfl, _, rfl, iteB (fun h3 => ?_) (fun h3 => ?_)⟩
      · have hna : ¬ kd = "above" := fun z => by
          rw [z] at h3
          simp at h3
        refine ⟨_, rfl, _, rfl, _, _, rfl, rfl, 1, (wn : Int) + 1, rfl, ⟨by decide, by decide, by omega, by omega⟩, fun D nD => ?_⟩
        have e9 : (((wn : Int) + 1) - 1).toNat = wn := by omega
        rw [e9]
        refine lcr_map (lo := 1) (n := wn) (fun k => .int ((wn : Int) * (st : Int) + k)) nD (by omega) (fun _ => rfl) (fun x G Z h0 h1 sG hz => ?_) (fun G sG eG => ?_)
        · exact ⟨_, rfl, _, rfl, _, _, rfl, rfl, .inl ⟨by omega, by omega⟩, _, rfl, _, _, rfl, rfl, hz⟩
        have eG' : G D = some (.lst ((kidL wn st).map V.int)) := by
          rw [eG]
          unfold kidL
          rw [List.map_map]
          rfl
        refine ⟨la, D, _, _, rfl, rfl, sG _ _ ela4, eG', by rw [List.length_map, List.length_map, hkl]; split <;> exact Nat.le_of_lt (big (by simp only [List.length_nil, List.length_singleton]; omega)), fun c nc => ?_⟩
        refine ⟨c, _, rfl, fun a o z => (new_same nc) _ _ (sG _ _ (sq _ _ z)), (new_same nc) _ _ (sG _ _ ser4), ?_⟩
        rw [upd_same]
        unfold alwL
        rw [if_neg hna, List.map_append]
      · have hya : kd = "above" := by
          have h4 : decide (V.str kd = V.str "above") = true := by simpa using h3
          exact of_decide_eq_true (str_dec.symm.trans h4)
        refine ⟨la, none, rfl, sq, ser4, ?_⟩
        rw [ela4]
        unfold alwL
        rw [if_pos hya, List.append_nil]
    rintro σ G5 ⟨lb, v6, rfl, s5, er5, elb⟩
    refine ⟨_, rfl, r1, rfl, ⟨_, SqL.of er5⟩, fun D2 nD2 => lc_filt (fun y => !decide (y ∈ alwL kd wn st)) (fun y => .int y) er5 nD2 (by omega) (fun _ => rfl) (fun x G Z hx sG hz => ?_) (fun x G Z hx _ _ hz => ⟨_, rfl, hz G (Same.refl G)⟩) (fun G6 s6 e6 => ?_)⟩
    · refine ⟨_, rfl, _, rfl, lb, _, rfl, .inl (SqL.of (sG _ _ elb)), rfl, flat_ints _, _, rfl, ?_⟩
      rw [inV_int]
      exact hz G (Same.refl G)
    refine ⟨Nat.zero_le _, fun z nz => ?_⟩
    have sz : Same H (upd G6 z (.lst [])) := fun a o y => (new_same nz) _ _ (s6 _ _ (s5 _ _ y))
    refine ⟨_, _, .lst (SqL.of ((new_same nz) _ _ e6)) (dp_ints _), .lst (SqL.of upd_same) .nil, shaped_ints _, by decide +kernel, _, rfl, ?_⟩
    rw [eqv_nil_i]
    generalize upd G6 z (.lst []) = G7 at sz ⊢
    cases ef : ((ftL its wn).filter fun y => !decide (y ∈ alwL kd wn st)).isEmpty with
    | false =>
      rw [ef, Bool.false_and] at q
      exact iteT (q _ sz)
    | true =>
      rw [ef, Bool.true_and] at q
      refine iteF ?_
      refine ⟨_, rfl, rfl, _, rfl, iteB (fun h4 => ?_) (fun h4 => ?_)⟩
      · have : st = 0 := by
          have := of_decide_eq_true h4
          injection this with z
          omega
        rw [decide_eq_true this, Bool.true_or] at q
        exact q _ sz
      · have hs0 : ¬ st = 0 := fun z => by
          rw [z] at h4
          exact absurd h4 (by decide)
        rw [decide_eq_false hs0, Bool.false_or] at q
        have hpl := paN_lt (w := wn) (i := st) (by omega)
        obtain ⟨a, a1, _, a2⟩ := ha.at (i := paN wn st) (by omega)
        have hl7 := sqt_list_same hl sz
        refine ⟨_, rfl, _, rfl, _, rfl, st, wn, rfl, hw, by omega, l, _, _, _, rfl, rfl, hl7, a1, a, _, _, _, rfl, rfl, SqT.of (sz _ _ a2), rfl, ?_⟩
        refine ⟨_, rfl, _, rfl, _, rfl, _, _, rfl, rfl, .inl ⟨by omega, by omega⟩, _, _, rfl, rfl, _, rfl, ?_⟩
        refine ⟨_, rfl, _, rfl, _, _, rfl, rfl, .inl ⟨by omega, by omega⟩, _, rfl, _, _, rfl, rfl, _, _, rfl, rfl, _, rfl, l, _, rfl, hl7, fun c nc => ?_⟩
        have ef1 : ((wn : Int) * (st : Int) + 1) = ((wn * st + 1 : Nat) : Int) := by push_cast; rfl
        have eh1 : ((wn : Int) * (st : Int) + (wn : Int) + 1) = ((wn * st + wn + 1 : Nat) : Int) := by push_cast; rfl
        rw [eh1, ef1, cut_mid]
        obtain ⟨lo, hlo⟩ : ∃ lo, lo = min (wn * st + 1) (itV as).length := ⟨_, rfl⟩
        obtain ⟨hi, hhi⟩ : ∃ hi, hi = min (wn * st + wn + 1) (itV as).length := ⟨_, rfl⟩
        rw [← hlo, ← hhi]
        rw [itV_len ha] at hlo hhi
        have ecut : ((itV as).drop lo).take (hi - lo) = ((as.drop lo).take (hi - lo)).map V.ref := by
          unfold itV
          rw [← List.map_drop, ← List.map_take]
        rw [ecut]
        have sc := new_same (o := .lst (((as.drop lo).take (hi - lo)).map V.ref)) nc
        have ec : (upd G7 c (.lst (((as.drop lo).take (hi - lo)).map V.ref))) c = some (.lst (((as.drop lo).take (hi - lo)).map V.ref)) := upd_same
        have szc : Same H (upd G7 c (.lst (((as.drop lo).take (hi - lo)).map V.ref))) := fun a o y => sc _ _ (sz _ _ y)
        generalize upd G7 c (.lst (((as.drop lo).take (hi - lo)).map V.ref)) = G8 at sc ec szc ⊢
        have mem : ∀ b ∈ (as.drop lo).take (hi - lo), ∃ i, lo ≤ i ∧ i < hi ∧ as[i]? = some b := fun b hb => by
          obtain ⟨j, hj⟩ := List.getElem?_of_mem hb
          have h5 : j < hi - lo := by
            have := (List.getElem?_eq_some_iff.mp hj).1
            rw [List.length_take] at this
            omega
          rw [List.getElem?_take, if_pos h5, List.getElem?_drop] at hj
          exact ⟨lo + j, by omega, by omega, hj⟩
        have hbk : ∀ b ∈ (as.drop lo).take (hi - lo), ∃ m, H b = some (.tup [.int (kyH H b), .int m]) := fun b hb => by
          obtain ⟨i, _, _, hi'⟩ := mem b hb
          obtain ⟨_, h6⟩ := ha.get hi'
          refine ⟨mkA its i, ?_⟩
          have : kyH H b = kyA its i := by unfold kyH; rw [h6]
          rw [this]
          exact h6
        refine ⟨_, rfl, c, rfl, ⟨_, SqL.of ec⟩, fun D3 nD3 => lc_filtR (fun b => decide (kyH H b < kyA its (paN wn st))) (SqL.of ec) nD3 (by rw [List.length_take, List.length_drop, ha.1]; omega) (fun _ => rfl) (fun x G Z hx sG hz => ?_) (fun x G Z hz => ⟨_, rfl, hz⟩) (fun G9 s9 e9 => ?_)⟩
        · obtain ⟨m, hx2⟩ := hbk x hx
          exact ⟨_, rfl, x, _, _, _, rfl, rfl, SqT.of (sG _ _ (szc _ _ hx2)), rfl, _, rfl, _, _, rfl, rfl, _, rfl, hz⟩
        refine ⟨Nat.zero_le _, fun y ny => ?_⟩
        have sy : Same H (upd G9 y (.lst [])) := fun a o z' => (new_same ny) _ _ (s9 _ _ (szc _ _ z'))
        obtain ⟨ds, p1, p2, p3, p4⟩ := dp_refs (H := upd G9 y (.lst [])) (bs := ((as.drop lo).take (hi - lo)).filter fun b => decide (kyH H b < kyA its (paN wn st))) (fun b hb => by
          obtain ⟨m, h6⟩ := hbk b (List.mem_filter.mp hb).1
          exact ⟨_, _, sy _ _ h6⟩)
        refine ⟨_, _, .lst (SqL.of ((new_same ny) _ _ e9)) p1, .lst (SqL.of upd_same) .nil, shaped_refs p2 p3, by decide +kernel, ?_⟩
        rw [eqv_nil_d]
        have : ds.isEmpty = !lowKid its wn st := by
          have e10 : ds.isEmpty = (((as.drop lo).take (hi - lo)).filter fun b => decide (kyH H b < kyA its (paN wn st))).isEmpty := by
            cases ds with
            | nil => cases hz : (((as.drop lo).take (hi - lo)).filter fun b => decide (kyH H b < kyA its (paN wn st))) with
              | nil => rfl
              | cons a r => rw [hz] at p4; cases p4
            | cons d r => cases hz : (((as.drop lo).take (hi - lo)).filter fun b => decide (kyH H b < kyA its (paN wn st))) with
              | nil => rw [hz] at p4; cases p4
              | cons a r => rfl
          rw [e10, Bool.eq_iff_iff, List.isEmpty_iff, List.filter_eq_nil_iff, Bool.not_eq_true']
          unfold lowKid
          rw [List.any_eq_false]
          constructor
          · intro hh i hi'
            have hi' := List.mem_range.mp hi'
            cases ek : kidIn wn st i with
            | false => simp
            | true =>
              unfold kidIn at ek
              rw [Bool.and_eq_true] at ek
              have k1 := of_decide_eq_true ek.1
              have k2 := of_decide_eq_true ek.2
              have hil : i < as.length := by rw [ha.1]; exact hi'
              have hg : as[i]? = some as[i] := List.getElem?_eq_getElem hil
              have hm : as[i] ∈ (as.drop lo).take (hi - lo) := by
                refine List.mem_of_getElem? (i := i - lo) ?_
                rw [List.getElem?_take, if_pos (by omega), List.getElem?_drop]
                have : lo + (i - lo) = i := by omega
                rw [this]
                exact hg
              have h7 := hh _ hm
              obtain ⟨_, h6⟩ := ha.get hg
              have : kyH H as[i] = kyA its i := by unfold kyH; rw [h6]
              rw [this] at h7
              rw [Bool.true_and]
              exact h7
          · intro hh b hb
            obtain ⟨i, h5, h6, h7⟩ := mem b hb
            obtain ⟨hil, h8⟩ := ha.get h7
            have : kyH H b = kyA its i := by unfold kyH; rw [h8]
            rw [this]
            have h9 := hh i (List.mem_range.mpr hil)
            have : kidIn wn st i = true := by
              unfold kidIn
              rw [decide_eq_true (by omega), decide_eq_true (by omega)]
              rfl
            rw [this, Bool.true_and] at h9
            exact h9
        rw [this]
        exact q _ sy
end
end H2
namespace H2
open PySem PySem.Spec PyProof.Rows L2 Hx Nd Dun
section
variable {P : Program} {w : World} {K : PySem.W.Frag} {mg : Str → Option Value} {base : Heap} {D : Addr}
/-! ### the bag, its list told -/
def BagL (H : Hp) (p l : Addr) (n : Nat) : Prop := ∃ (ns : List Int) (i dg fd : Int), H p = some (.dK (bagK l i dg (n : Int) fd)) ∧ H l = some (.lst (ns.map V.int)) ∧ ns.length ≤ 63 ∧ 0 ≤ i ∧ 0 ≤ dg ∧ 0 ≤ fd ∧ fd < 2147483587
theorem Bag.l {H : Hp} {p : Addr} {n : Nat} (b : Bag H p n) : ∃ l, BagL H p l n := b
theorem BagL.b {H : Hp} {p l : Addr} {n : Nat} (b : BagL H p l n) : Bag H p n := ⟨l, b⟩
theorem BagL.keep {H H' : Hp} {p l : Addr} {n : Nat} (b : BagL H p l n) (e : Same H H') : BagL H' p l n := by
  obtain ⟨ns, i, dg, fd, h1, h2, q⟩ := b
  exact ⟨ns, i, dg, fd, e _ _ h1, e _ _ h2, q⟩
theorem BagL.out {H : Hp} {p l d : Addr} {n : Nat} {o : HO} (b : BagL H p l n) (h : ∃ ys, H d = some (.lst ys)) (hd : d ≠ l) : BagL (upd H d o) p l n := by
  obtain ⟨ns, i, dg, fd, h1, h2, q⟩ := b
  obtain ⟨ys, hy⟩ := h
  have hp : p ≠ d := ne_of h1 hy (by intro z; cases z)
  exact ⟨ns, i, dg, fd, by rw [upd_ne hp]; exact h1, by rw [upd_ne hd.symm]; exact h2, q⟩
def spDrawL : Sp := fun vs H Q _ => ∃ (p : Addr) (n : Nat) (m : Int) (l : Addr), vs = [.ref p, .int m] ∧ BagL H p l n ∧ n ≤ 1000000 ∧ 0 < m ∧ m.natAbs < 2 ^ 8000 ∧
  ∀ (r : Int) (H' : Hp), 0 ≤ r → r < m → BagL H' p l (n + 1) → But p H H' → Q (.int r) H'
theorem ok_drawL {f : Addr} {fd : FuncData} (F : Fun K "_law_draw" "_law_draw" sDraw f fd) (B : BltT mg) : FnOk P w K mg base CX0 1 f fd ["_law_bag_here", "_law_limit"] spDrawL := by
  refine F.ok scDraw (fun vs H Q E h => ?_) (fun cdv A outer s H vs Q E hr h => ?_)
  · obtain ⟨p, n, m, l, rfl, _⟩ := h
    rfl
  · obtain ⟨p, n, m, l, rfl, ⟨ns, i, dg, fo, hp, hl, hlen, i0, d0, f0, f1⟩, hn, m0, m1, q⟩ := h
    have hu := hu_of hr
    have npl : l ≠ p := ne_of hl hp (by intro z; cases z)
    refine ⟨_, pss_cons (ps_dput hu (pv 0) pe_str (pe_op op_add (pe_dget hu (pv 0) pe_str (fun _ _ => rfl)) pe_int) rfl)
      (Evl.pss_cut (ps_if (PW.pt (pw_and (pt_cmpR op_eq (pe_dget hu (pv 0) pe_str (fun _ _ => rfl)) pe_int (nomark _)) (pw_and1 (pt_cmpR op_lt (pe_dget hu (pv 0) pe_str (fun _ _ => rfl)) (pe_callB call_len_seq (by rfl) B.len PySem.boot_len (pa_cons (pe_dget hu (pv 0) pe_str (fun _ _ => rfl)) pa_nil)) (nomark _)))))
          (pss_cons (ps_set (i := 2) scDraw.nd rfl (Or.inl rfl) (pe_ix ix_list (pe_dget hu (pv 0) pe_str (fun _ _ => rfl)) (pe_dget hu (pv 0) pe_str (fun _ _ => rfl)) (fun _ _ => rfl)))
          (pss_cons (ps_dput hu (pv 0) pe_str (pe_op op_add (pe_dget hu (pv 0) pe_str (fun _ _ => rfl)) pe_int) rfl)
          (pss_one (ps_if (pt_cmpR op_ge (pv 2) (pe_op op_pow pe_int pe_int) (nomark _))
            (pss_one (ps_dput hu (pv 0) pe_str (pe_op op_sub (pv 2) (pe_op op_pow pe_int pe_int)) rfl))
            (pss_one (ps_dput hu (pv 0) pe_str (pe_op op_mod (pe_callTy call_int1 (by rfl) B.int (by decide +kernel) (pa_cons (pe_op op_add (pe_op op_mul (pe_dget hu (pv 0) pe_str (fun _ _ => rfl)) pe_int) (pv 2)) pa_nil)) pe_int) rfl))))))
          pss_nil)
      (pss_cons (ps_if (pt_cmpR op_gt (pe_dget hu (pv 0) pe_str (fun _ _ => rfl)) pe_int (nomark _))
          (pss_cons (ps_set (i := 3) scDraw.nd rfl (Or.inl rfl) (pe_op op_mod (pe_callTy call_int1 (by rfl) B.int (by decide +kernel) (pa_cons (pe_dget hu (pv 0) pe_str (fun _ _ => rfl)) pa_nil)) (pv 1)))
          (pss_cons (ps_dput hu (pv 0) pe_str (pe_op op_fdivW (pe_dget hu (pv 0) pe_str (fun _ _ => rfl)) (pv 1)) rfl)
          (pss_one (ps_ret (pv 3)))))
          pss_nil)
      (pss_cons (ps_set (i := 4) scDraw.nd rfl (Or.inl rfl) (pe_op op_add (pe_op op_add (pe_dget hu (pv 0) pe_str (fun _ _ => rfl)) (pe_op op_mul (pe_dget hu (pv 0) pe_str (fun _ _ => rfl)) pe_int)) pe_int))
      (pss_one (ps_ret (pe_op op_mod (pe_op op_fdiv (pe_callTy call_int1 (by rfl) B.int (by decide +kernel) (pa_cons (pe_op op_mod (pe_op op_pow (pv 4) pe_int) pe_int) pa_nil)) pe_int) (pv 1))))))), ?_⟩
    have five : ∀ {l i dg ct fo}, (bagK l i dg ct fo).length < sizeLine := fun {l i dg ct fo} => by show 5 < sizeLine; decide
    -- bag["count"] = bag["count"] + 1
    refine ⟨_, rfl, p, _, rfl, (show DGet _ _ (kV kN) _ from by rw [← gN l i dg n fo]; exact DGet.k hp), _, _, rfl, rfl, _, rfl, p, _, rfl, DPut.k (k := kN) hp five, ?_⟩
    rw [pN]
    -- Mid: a bag again, with one more
    refine ⟨fun σ G => ∃ v : Option V, σ = [some (.ref p), some (.int m), v, none, none] ∧ BagL G p l (n + 1) ∧ But p H G, ?_, ?_⟩
    · have hp1 : (upd H p (.dK (bagK l i dg ((n : Int) + 1) fo))) p = some (.dK (bagK l i dg ((n : Int) + 1) fo)) := upd_same
      have hl1 : ∀ o, (upd H p o) l = some (.lst (ns.map V.int)) := fun o => by rw [upd_ne npl]; exact hl
      have en : ((n : Int) + 1) = ((n + 1 : Nat) : Int) := by omega
      have mid : ∀ (i dg fo : Int), 0 ≤ i → 0 ≤ dg → 0 ≤ fo → fo < 2147483587 → BagL (upd H p (.dK (bagK l i dg ((n : Int) + 1) fo))) p l (n + 1) := fun i dg fo a b c d =>
        ⟨ns, i, dg, fo, (by rw [upd_same, en]), hl1 _, hlen, a, b, c, d⟩
      refine ⟨_, rfl, p, _, rfl, (show DGet _ _ (kV kD) _ from by rw [← gD l i dg ((n : Int) + 1) fo]; exact DGet.k hp1), rfl, _, rfl, ?_⟩
      refine ite2 (fun c => ?_) (fun c => ?_)
      · refine ⟨_, rfl, p, _, rfl, (show DGet _ _ (kV kA) _ from by rw [← gA l i dg ((n : Int) + 1) fo]; exact DGet.k hp1), _, rfl, p, _, rfl, (show DGet _ _ (kV kC) _ from by rw [← gC l i dg ((n : Int) + 1) fo]; exact DGet.k hp1), l, _, rfl, .inl (SqL.of (hl1 _)), _, _, rfl, rfl, _, rfl, ?_⟩
        refine ite2 (fun c2 => ?_) (fun c2 => ?_)
        · have c3 : i < (ns.length : Int) := by
            have z := of_decide_eq_true c2
            rw [List.length_map] at z
            exact z
          obtain ⟨v, hv⟩ : ∃ v, ns[i.toNat]? = some v := ⟨_, List.getElem?_eq_getElem (by omega)⟩
          have hat : atI (ns.map V.int) i = some (.int v) := at_of (j := i.toNat) (by omega) (by rw [List.getElem?_map, hv] <;> rfl)
          refine ⟨_, rfl, p, _, rfl, (show DGet _ _ (kV kC) _ from by rw [← gC l i dg ((n : Int) + 1) fo]; exact DGet.k hp1), _, rfl, p, _, rfl, (show DGet _ _ (kV kA) _ from by rw [← gA l i dg ((n : Int) + 1) fo]; exact DGet.k hp1), l, _, _, _, rfl, rfl, SqL.of (hl1 _), hat, ?_⟩
          refine ⟨_, rfl, p, _, rfl, (show DGet _ _ (kV kA) _ from by rw [← gA l i dg ((n : Int) + 1) fo]; exact DGet.k hp1), _, _, rfl, rfl, _, rfl, p, _, rfl, DPut.k (k := kA) hp1 five, ?_⟩
          rw [pA, upd_upd]
          have hp2 : (upd H p (.dK (bagK l (i + 1) dg ((n : Int) + 1) fo))) p = some (.dK (bagK l (i + 1) dg ((n : Int) + 1) fo)) := upd_same
          refine ⟨_, rfl, _, _, rfl, rfl, ⟨by decide, by decide, by decide⟩, _, _, rfl, rfl, _, rfl, ?_⟩
          refine ite2 (fun c4 => ?_) (fun c4 => ?_)
          · have c5 : v ≥ (10 : Int) ^ (18 : Int).toNat := of_decide_eq_true c4
            refine ⟨_, rfl, _, _, rfl, rfl, ⟨by decide, by decide, by decide⟩, _, _, rfl, rfl, _, rfl, p, _, rfl, DPut.k (k := kD) hp2 five, ?_⟩
            rw [pD, upd_upd]
            exact ⟨_, rfl, mid _ _ _ (by omega) (Int.sub_nonneg_of_le c5) f0 f1, But.upd⟩
          · refine ⟨_, rfl, p, _, rfl, (show DGet _ _ (kV kF) _ from by rw [← gF l (i + 1) dg ((n : Int) + 1) fo]; exact DGet.k hp2), _, _, rfl, rfl, .inl ⟨by omega, by omega⟩, _, rfl, _, _, rfl, rfl, .inl ⟨_, rfl, _, _, rfl, rfl, (by show (0 : Int) < 2147483587; decide), _, rfl, p, _, rfl, DPut.k (k := kF) hp2 five, ?_⟩⟩
            rw [pF, upd_upd]
            exact ⟨_, rfl, mid _ _ _ (by omega) d0 (Int.emod_nonneg _ (by decide)) (Int.emod_lt_of_pos _ (by decide)), But.upd⟩
        · exact ⟨_, rfl, mid _ _ _ i0 d0 f0 f1, But.upd⟩
      · exact ⟨_, rfl, mid _ _ _ i0 d0 f0 f1, But.upd⟩
    · rintro σ G ⟨v, rfl, ⟨ns, i, dg, fo, hp, hl, hlen, i0, d0, f0, f1⟩, hB⟩
      have npl : l ≠ p := ne_of hl hp (by intro z; cases z)
      have hc : ((n + 1 : Nat) : Int) = (n : Int) + 1 := by omega
      refine ⟨_, rfl, p, _, rfl, (show DGet _ _ (kV kD) _ from by rw [← gD l i dg ((n + 1 : Nat) : Int) fo]; exact DGet.k hp), _, _, rfl, rfl, _, rfl, ?_⟩
      refine ite2 (fun c => ?_) (fun c => ?_)
      · refine ⟨_, rfl, p, _, rfl, (show DGet _ _ (kV kD) _ from by rw [← gD l i dg ((n + 1 : Nat) : Int) fo]; exact DGet.k hp), .inl ⟨_, rfl, _, rfl, _, _, rfl, rfl, m0, ?_⟩⟩
        refine ⟨_, rfl, p, _, rfl, (show DGet _ _ (kV kD) _ from by rw [← gD l i dg ((n + 1 : Nat) : Int) fo]; exact DGet.k hp), _, rfl, _, _, rfl, rfl, wide_div m0 m1 (by decide) (by decide), _, rfl, p, _, rfl, DPut.k (k := kD) hp five, ?_⟩
        rw [pD]
        refine ⟨_, rfl, ?_⟩
        refine q _ _ (Int.emod_nonneg _ (by omega)) (Int.emod_lt_of_pos _ m0) ⟨ns, i, dg / m, fo, upd_same, by rw [upd_ne npl]; exact hl, hlen, i0, Int.ediv_nonneg d0 (by omega), f0, f1⟩ (hB.trans But.upd)
      · refine ⟨_, rfl, p, _, rfl, (show DGet _ _ (kV kF) _ from by rw [← gF l i dg ((n + 1 : Nat) : Int) fo]; exact DGet.k hp), _, rfl, p, _, rfl, (show DGet _ _ (kV kN) _ from by rw [← gN l i dg ((n + 1 : Nat) : Int) fo]; exact DGet.k hp), _, _, rfl, rfl, .inl ⟨by omega, by omega⟩, _, _, rfl, rfl, _, _, rfl, rfl, ?_⟩
        refine ⟨_, rfl, _, _, rfl, rfl, big17 (by omega) (by omega), _, _, rfl, rfl, (by show (0 : Int) < 2305843009213693951; decide), .inl ⟨_, rfl, _, _, rfl, rfl, ⟨by decide, by decide⟩, _, rfl, _, _, rfl, rfl, m0, ?_⟩⟩
        exact q _ _ (Int.emod_nonneg _ (by omega)) (Int.emod_lt_of_pos _ m0) ⟨ns, i, dg, fo, hp, hl, hlen, i0, d0, f0, f1⟩ hB
theorem bag_dk {H : Hp} {p : Addr} {n : Nat} (b : Bag H p n) : ∃ kvs, H p = some (.dK kvs) := by
  obtain ⟨l, ns, i, dg, fd, h1, _⟩ := b
  exact ⟨_, h1⟩
theorem lst_but {H H' : Hp} {p a : Addr} {xs : List V} (b : But p H H') (hp : ∃ kvs, H p = some (.dK kvs)) (h : H a = some (.lst xs)) : H' a = some (.lst xs) := by
  obtain ⟨kvs, hk⟩ := hp
  exact b a _ (fun e => by rw [e, hk] at h; cases h) h
theorem small16 {m : Int} (h0 : 0 ≤ m) (h : m ≤ 1000) : m.natAbs < 2 ^ 8000 := by
  have h1 : m.natAbs < 2 ^ 10 := by omega
  exact Nat.lt_of_lt_of_le h1 (Nat.pow_le_pow_right (by decide) (by decide))
end
end H2
namespace H2
open PySem PySem.Spec PyProof.Rows L2 Hx Nd Dun
section
variable {P : Program} {w : World} {K : PySem.W.Frag} {mg : Str → Option Value} {base : Heap} {D : Addr}
/-! ### _law_items -/
theorem BagL.dk {H : Hp} {p l : Addr} {n : Nat} (b : BagL H p l n) : ∃ kvs, H p = some (.dK kvs) := bag_dk b.b
theorem BagL.lst {H : Hp} {p l : Addr} {n : Nat} (b : BagL H p l n) : ∃ xs, H l = some (.lst xs) := by
  obtain ⟨ns, i, dg, fd, h1, h2, _⟩ := b
  exact ⟨_, h2⟩
theorem ItA.butD {H H' : Hp} {q : Addr} {as : List Addr} {its : List (Int × Int)} (h : ItA H as its) (e : But q H H') (hq : ∃ kvs, H q = some (.dK kvs)) : ItA H' as its := by
  obtain ⟨kvs, hk⟩ := hq
  exact h.but e fun xs z => by rw [hk] at z; cases z
theorem ItA.snoc {H : Hp} {as : List Addr} {its : List (Int × Int)} (h : ItA H as its) {t : Addr} {k m : Int} (ht : H t = some (.tup [.int k, .int m])) : ItA H (as ++ [t]) (its ++ [(k, m)]) := by
  refine ⟨by rw [List.length_append, List.length_append, h.1]; rfl, fun i a p h1 h2 => ?_⟩
  by_cases e : i < as.length
  · rw [List.getElem?_append_left e] at h1
    rw [List.getElem?_append_left (by rw [← h.1]; exact e)] at h2
    exact h.2 i a p h1 h2
  · rw [List.getElem?_append_right (by omega)] at h1
    rw [List.getElem?_append_right (by rw [← h.1]; omega)] at h2
    rw [h.1] at h1
    cases hz : i - its.length with
    | zero =>
      rw [hz] at h1 h2
      cases h1
      cases h2
      exact ht
    | succ n => rw [hz] at h1; cases h1
theorem ky_snoc {its : List (Int × Int)} {q : Int × Int} {j : Nat} (h : j < its.length) : kyA (its ++ [q]) j = kyA its j ∧ mkA (its ++ [q]) j = mkA its j := by
  unfold kyA mkA
  rw [List.getD_eq_getElem?_getD, List.getD_eq_getElem?_getD, List.getElem?_append_left h]
  exact ⟨rfl, rfl⟩
theorem ky_last {its : List (Int × Int)} {q : Int × Int} : kyA (its ++ [q]) its.length = q.1 ∧ mkA (its ++ [q]) its.length = q.2 := by
  unfold kyA mkA
  rw [List.getD_eq_getElem?_getD, List.getElem?_append_right (Nat.le_refl _), Nat.sub_self]
  exact ⟨rfl, rfl⟩
abbrev psIT : List Str := ["_law_bag_here", "_law_n", "_law_width"]
def spItems (K : PySem.W.Frag) : Sp := fun vs H Q _ => ∃ (p l : Addr) (n0 n w : Nat), vs = [.ref p, .int (n : Int), .int (w : Int)] ∧ BagL H p l n0 ∧ n0 ≤ 900000 ∧ n ≤ 12 ∧ WdN w ∧
  ∀ H' r as its n', But p H H' → H r = none → H' r = some (.lst (itV as)) → ItA H' as its → its.length = n → MkNd its → (∀ j, j < n → mkA its j < 900) → BagL H' p l n' → n' ≤ n0 + 3 + n → Q (.ref r) H'
theorem ok_items {f g gp : Addr} (T0 : FT K mg "_law_items" s_Litems psIT f) (BT : BltT mg) (rng : mg "range" = none) {gd pd : FuncData} (FD : Fun K "_law_draw" "_law_draw" sDraw g gd) (bD : Binds K gd ["_law_bag_here", "_law_limit"] []) (mD : mg "_law_draw" = some (.ref g))
    (FP : Fun K "_law_parent" "_law_parent" s_Lparent gp pd) (bP : Binds K pd psLP []) (mP : mg "_law_parent" = some (.ref gp)) (GP : FnOk P w K mg base CX0 1 gp pd psLP spLPar) :
    ∃ fd, Fun K "_law_items" "_law_items" s_Litems f fd ∧ Binds K fd psIT [] ∧ FnOk P w K mg base CX0 2 f fd psIT (spItems K) := by
  obtain ⟨fd, F, b⟩ := T0.fn
  have GD : FnOk P w K mg base CX0 1 g gd ["_law_bag_here", "_law_limit"] spDrawL := ok_drawL FD BT
  refine ⟨fd, F, b, F.ok c_Litems (fun vs H Q E h => ?_) (fun cdv A outer s H vs Q E hr h => ?_)⟩
  · obtain ⟨p, l, n0, n, w, rfl, _⟩ := h
    rfl
  obtain ⟨p, l, n0, n, wn, rfl, hb, hn0, hn, hw, q⟩ := h
  refine ⟨_, pss_cons (ps_par (i := 3) (j := 4) (by rfl) c_Litems.nd rfl rfl (by decide) rfl rfl (pa_cons (pe_op op_add pe_int (pe_call GD hr rfl mD FD.kp bD .nil pass0 (pa_cons (pv 0) (pa_cons pe_int pa_nil)))) (pa_cons (pe_ix ix_list (pe_lst (pa_cons pe_int (pa_cons pe_int (pa_cons (pe_op op_pow pe_int pe_int) pa_nil)))) (pe_call GD hr rfl mD FD.kp bD .nil pass0 (pa_cons (pv 0) (pa_cons pe_int pa_nil))) (fun _ _ => rfl)) pa_nil)) (by rfl)) <|
    pss_cons (ps_par (i := 5) (j := 6) (by rfl) c_Litems.nd rfl rfl (by decide) rfl rfl (pa_cons (pe_op op_sub (pe_call GD hr rfl mD FD.kp bD .nil pass0 (pa_cons (pv 0) (pa_cons pe_int pa_nil))) pe_int) (pa_cons (pe_lst pa_nil) pa_nil)) (by rfl)) <|
    pss_cons (ps_for PassesOwn.never rfl (pi_range1 rfl rng (pa_cons (pv 1) pa_nil)) (pg_name (i := 7) c_Litems.nd rfl (Or.inl rfl))
      (Evl.pss_cut (ps_set (i := 8) c_Litems.nd rfl (Or.inl rfl) (pe_ifExp (pt_cmpR op_eq (pv 7) pe_int (nomark _)) (pv 5) (pe_op op_fdivW (pe_ix ix_tup (pe_ix ix_list (pv 6) (pe_call GP hr rfl mP FP.kp bP .nil pass0 (pa_cons (pv 7) (pa_cons (pv 2) pa_nil))) (fun _ _ => rfl)) pe_int (fun _ _ => rfl)) (pv 4)))) <|
       pss_one (ps_expr (pe_bm PySem.F.plainAttrs_list PySem.F.slot_list_append PySem.F.type_list_append mt_append (pv 6) (pa_cons (pe_tup (pa_cons (pe_op op_mul (pe_op op_add (pv 8) (pe_call GD hr rfl mD FD.kp bD .nil pass0 (pa_cons (pv 0) (pa_cons (pe_op op_add (pv 3) pe_int) pa_nil)))) (pv 4))
         (pa_cons (pe_op op_add (pe_op op_mod (pe_callTy call_int1 (by rfl) BT.int (by decide +kernel) (pa_cons (pe_op op_add (pe_op op_mul (pv 7) pe_int) (pv 5)) pa_nil)) pe_int) pe_int) pa_nil))) pa_nil))))) <|
    pss_one (ps_ret (pv 6)), ?_⟩
  refine ⟨_, rfl, p, n0, 3, l, rfl, hb, by omega, by decide, small16 (by decide) (by decide), fun r1 H1 a1 a2 b1 u1 => ?_⟩
  refine ⟨_, _, rfl, rfl, ?_⟩
  refine ⟨_, _, rfl, rfl, ⟨by decide, by decide, by decide⟩, (by show 3 ≤ sizeLine; decide), fun tb ntb => ?_⟩
  have b1' := b1.keep (new_same ntb (o := .lst [.int 1, .int 1, .int ((10 : Int) ^ (30 : Int).toNat)]))
  refine ⟨_, rfl, p, n0 + 1, 3, l, rfl, b1', by omega, by decide, small16 (by decide) (by decide), fun r2 H2 c1 c2 b2 u2 => ?_⟩
  obtain ⟨sc, hsc, esc⟩ : ∃ sc : Int, (sc = 1 ∨ sc = (10 : Int) ^ (30 : Int).toNat) ∧ atI [V.int 1, V.int 1, V.int ((10 : Int) ^ (30 : Int).toNat)] r2 = some (.int sc) := by
    have h3 : r2 = 0 ∨ r2 = 1 ∨ r2 = 2 := by omega
    rcases h3 with rfl | rfl | rfl
    · exact ⟨1, .inl rfl, rfl⟩
    · exact ⟨1, .inl rfl, rfl⟩
    · exact ⟨_, .inr rfl, rfl⟩
  have htb : H2 tb = some (.lst [V.int 1, V.int 1, V.int ((10 : Int) ^ (30 : Int).toNat)]) := lst_but u2 b1'.dk upd_same
  refine ⟨tb, _, _, _, rfl, rfl, SqL.of htb, esc, ?_⟩
  refine ⟨_, _, rfl, ?_⟩
  have uH2 : But p H H2 := u1.trans ((Same.but (new_same ntb)).trans u2)
  refine ⟨_, rfl, p, n0 + 1 + 1, 11, l, rfl, b2, by omega, by decide, small16 (by decide) (by decide), fun r3 H3 d1 d2 b3 u3 => ?_⟩
  refine ⟨_, _, rfl, rfl, Nat.zero_le _, fun fo nfo => ?_⟩
  refine ⟨_, _, rfl, ?_⟩
  have uH3 : But p H H3 := uH2.trans u3
  obtain ⟨kvs0, hk0⟩ := hb.dk
  have nfoH : H fo = none := by
    cases z : H fo with
    | none => rfl
    | some o =>
      by_cases e : fo = p
      · obtain ⟨kvs3, h3⟩ := b3.dk
        rw [e, h3] at nfo
        cases nfo
      · have := uH3 fo o e z
        rw [nfo] at this
        cases this
  have b4 := b3.keep (new_same nfo (o := .lst []))
  have nfl : fo ≠ l := fun z => by
    obtain ⟨xs, hx⟩ := hb.lst
    rw [← z, nfoH] at hx
    cases hx
  have hsp : 0 < sc := by
    rcases hsc with rfl | rfl
    · decide
    · decide +kernel
  refine ⟨_, rfl, (n : Int), rfl, by omega, by omega, ?_⟩
  rw [Int.toNat_natCast]
  refine for_range (lo := 0) (n := n) (fun i σ G => ∃ (as : List Addr) (its : List (Int × Int)) (n' : Nat) (v7 v8 : Option V), σ = [some (.ref p), some (.int (n : Int)), some (.int (wn : Int)), some (.int (1 + r1)), some (.int sc), some (.int (r3 - 5)), some (.ref fo), v7, v8] ∧ BagL G p l n' ∧ n' ≤ n0 + 3 + i ∧ But p H G ∧ G fo = some (.lst (itV as)) ∧ ItA G as its ∧ its.length = i ∧
      (∀ j, j < i → ∃ y : Int, kyA its j = y * sc ∧ -5 ≤ y ∧ y ≤ 5 + 3 * ((j : Int) + 1)) ∧ ∀ j, j < i → mkA its j = ((j : Int) * 37 + (r3 - 5)) % 101 + 200)
    ⟨[], [], n0 + 1 + 1 + 1, none, none, rfl, b4, by omega, uH3.trans (Same.but (new_same nfo)), upd_same, ⟨rfl, fun i a p h1 h2 => by cases h1⟩, rfl, fun j hj => by omega, fun j hj => by omega⟩ ?_ ?_
  · rintro i σ G hi ⟨as, its, n', v7, v8, rfl, bg, hn', uG, efo, hia, hil, hky, hmk⟩
    have h0 : (0 : Int) + (i : Int) = (i : Int) := by omega
    rw [h0]
    refine ⟨fun σ G2 => G2 = G ∧ ∃ y : Int, -5 ≤ y ∧ y ≤ 5 + 3 * (i : Int) ∧ σ = [some (.ref p), some (.int (n : Int)), some (.int (wn : Int)), some (.int (1 + r1)), some (.int sc), some (.int (r3 - 5)), some (.ref fo), some (.int (i : Int)), some (.int y)], ?_, ?_⟩
    · refine ⟨_, rfl, rfl, _, rfl, iteB (fun h1 => ?_) (fun h1 => ?_)⟩
      · exact ⟨_, rfl, rfl, r3 - 5, by omega, by omega, rfl⟩
      · have hi0 : 0 < i := by
          rcases Nat.eq_zero_or_pos i with z | z
          · rw [z] at h1
            exact absurd h1 (by decide)
          · exact z
        have hpl := paN_lt (w := wn) (i := i) hi0
        obtain ⟨a, e1, _, e2⟩ := hia.at (i := paN wn i) (by omega)
        obtain ⟨y, hy1, hy2, hy3⟩ := hky (paN wn i) hpl
        refine ⟨_, rfl, _, rfl, _, rfl, i, wn, rfl, hw, hi0, fo, _, _, _, rfl, rfl, SqL.of efo, e1, a, _, _, _, rfl, rfl, SqT.of e2, rfl, ?_⟩
        refine ⟨_, rfl, _, _, rfl, rfl, wide_div hsp (b := 200) (by rcases hsc with rfl | rfl <;> decide +kernel) (by decide) (by decide), ?_⟩
        have ed : kyA its (paN wn i) / sc = y := by
          rw [hy1]
          exact Int.mul_ediv_cancel _ (by omega)
        exact ⟨rfl, y, by omega, by omega, by rw [← ed]; rfl⟩
    rintro σ G2 ⟨rfl, y, hy1, hy2, rfl⟩
    refine ⟨_, rfl, .inl ⟨rfl, _, SqL.of efo⟩, _, rfl, _, rfl, _, rfl, _, _, rfl, rfl, p, n', 1 + r1 + 1, l, rfl, bg, by omega, by omega, small16 (by omega) (by omega), fun r4 G3 f1 f2 bg3 u3 => ?_⟩
    refine ⟨_, _, rfl, rfl, _, rfl, _, _, rfl, rfl, .inl ⟨by omega, by omega⟩, ?_⟩
    refine ⟨_, rfl, _, _, rfl, rfl, .inl ⟨by omega, by omega⟩, _, rfl, _, _, rfl, rfl, .inl ⟨_, rfl, _, _, rfl, rfl, (by show (0 : Int) < 101; decide), _, _, rfl, rfl, (by show 2 ≤ sizeLine; decide), fun t nt => ?_⟩⟩
    have efo3 := lst_but u3 bg.dk efo
    have sT := new_same (o := .tup [.int ((y + r4) * sc), .int (((i : Int) * 37 + (r3 - 5)) % 101 + 200)]) nt
    refine ⟨fo, _, _, rfl, rfl, sT _ _ efo3, by unfold itV; rw [List.length_map, hia.1, hil]; exact big (by omega), ?_⟩
    have hia3 : ItA G3 as its := hia.butD u3 bg.dk
    have bgT := bg3.keep sT
    have ent : ∀ {c o}, G3 c = some o → c ≠ fo → (upd (upd G3 t (.tup [.int ((y + r4) * sc), .int (((i : Int) * 37 + (r3 - 5)) % 101 + 200)])) fo (.lst (itV as ++ [.ref t]))) c = some o := fun h1 h2 => by
      rw [upd_ne h2]
      exact sT _ _ h1
    have ntf : t ≠ fo := (ne_of_none efo3 nt).symm
    refine ⟨as ++ [t], its ++ [((y + r4) * sc, ((i : Int) * 37 + (r3 - 5)) % 101 + 200)], n' + 1, _, _, rfl, bgT.out ⟨_, sT _ _ efo3⟩ nfl, by omega, ?_, ?_, ?_, by rw [List.length_append, hil]; rfl, fun j hj => ?_, fun j hj => ?_⟩
    · intro c o hc z
      have h1 := u3 c o hc (uG c o hc z)
      exact ent h1 (fun e => by rw [e, nfoH] at z; cases z)
    · rw [upd_same]
      unfold itV
      rw [List.map_append]
      rfl
    · refine ItA.snoc ⟨hia3.1, fun j a q h1 h2 => ?_⟩ (by rw [upd_ne ntf, upd_same])
      have h3 := hia3.2 j a q h1 h2
      exact ent h3 (ne_of h3 efo3 (by intro z; cases z))
    · by_cases e : j < its.length
      · rw [(ky_snoc e).1]
        exact hky j (by omega)
      · have e2 : j = its.length := by omega
        subst e2
        rw [ky_last.1]
        exact ⟨y + r4, rfl, by omega, by omega⟩
    · by_cases e : j < its.length
      · rw [(ky_snoc e).2]
        exact hmk j (by omega)
      · have e2 : j = its.length := by omega
        subst e2
        rw [ky_last.2, hil]
  · rintro σ G ⟨as, its, n', v7, v8, rfl, bg, hn', uG, efo, hia, hil, hky, hmk⟩
    refine ⟨_, rfl, q G fo as its n' uG nfoH efo hia hil (fun i j h1 h2 h3 => ?_) (fun j hj => ?_) bg hn'⟩
    · rw [hmk i (by omega), hmk j (by omega)] at h3
      omega
    · rw [hmk j hj]
      omega
end
end H2
namespace H2
open PySem PySem.Spec PyProof.Rows L2 Hx Nd Dun
section
variable {P : Program} {w : World} {K : PySem.W.Frag} {mg : Str → Option Value} {base : Heap} {D : Addr}
/-! ### the flow of one row that tells -/
def spMB7 (K : PySem.W.Frag) (C : Addr) : Sp := fun vs H Q _ => ∃ (t r : Addr), vs = [.ref t] ∧ SqT K H t [.ref r] ∧ RowW K C H r "tell" ∧
  ∀ H' t' he en, Same H H' → SqT K H' t' [.ref he, .ref en] → H' he = some (.dK []) → H' en = some (.dK []) → he ≠ en → H he = none → H en = none → Q (.ref t') H'
theorem ok_mb7 {f CR fI tt aL : Addr} (T : FT K mg "match_blocks" s_match_blocks ["rows"] f) (R : RowT K mg CR fI tt) (cL : TupT K mg "LOOPS" aL loopsV) (enu : mg "enumerate" = none) :
    ∃ fd, Fun K "match_blocks" "match_blocks" s_match_blocks f fd ∧ Binds K fd ["rows"] [] ∧ FnOk P w K mg base CX0 1 f fd ["rows"] (spMB7 K CR) := by
  obtain ⟨fd, F, b⟩ := T.fn
  refine ⟨fd, F, b, F.ok c_match_blocks (fun vs H Q E h => ?_) (fun cdv A outer s H vs Q E hr h => ?_)⟩
  · obtain ⟨t, r, rfl, _⟩ := h
    rfl
  obtain ⟨t, r, rfl, ht, hrw, q⟩ := h
  refine ⟨_, pss_cons (ps_set (i := 1) c_match_blocks.nd rfl (Or.inl rfl) pe_dnewK) <| pss_cons (ps_set (i := 2) c_match_blocks.nd rfl (Or.inl rfl) pe_dnewK) <| pss_cons (ps_set (i := 3) c_match_blocks.nd rfl (Or.inl rfl) (pe_lst pa_nil)) <|
    pss_cons (ps_for PassesOwn.never rfl (Nd.pi_enumT (by rfl) enu (pa_cons (pv 0) pa_nil)) (pg_tup rfl (pgs_cons (pg_name (i := 4) c_match_blocks.nd rfl (Or.inl rfl)) (pgs_cons (pg_name (i := 5) c_match_blocks.nd rfl (Or.inl rfl)) pgs_nil)))
      (pss_one (ps_if (PW.pt (pw_or (pt_cmpR op_eq (pe_fld (pv 5) rfl) pe_str (nomark _)) (pw_or1 (pt_cmpR op_in_seq (pe_fld (pv 5) rfl) (pe_glob (v := .ref aL) rfl cL.g rfl) rfl))))
        (pss_one ps_never)
        (pss_one (ps_if (pt_cmpR op_eq (pe_fld (pv 5) rfl) pe_str (nomark _)) (pss_one ps_never)
          (pss_one (ps_if (pt_cmpR op_eq (pe_fld (pv 5) rfl) pe_str (nomark _)) (pss_cons ps_never (pss_one ps_never)) pss_nil))))))) <|
    pss_one (ps_ret (pe_tup (pa_cons (pv 1) (pa_cons (pv 2) pa_nil)))), ?_⟩
  refine fun he nhe => fun en nen => ⟨Nat.zero_le _, fun op nop => ?_⟩
  obtain ⟨nen1, nee⟩ := free_upd nen
  have s3 : Same H (upd (upd (upd H he (.dK [])) en (.dK [])) op (.lst [])) := same_new (same_new (new_same nhe) nen) nop
  have ehe : (upd (upd (upd H he (.dK [])) en (.dK [])) op (.lst [])) he = some (.dK []) := (new_same nop) _ _ ((new_same nen) _ _ upd_same)
  have een : (upd (upd (upd H he (.dK [])) en (.dK [])) op (.lst [])) en = some (.dK []) := (new_same nop) _ _ upd_same
  generalize upd (upd (upd H he (.dK [])) en (.dK [])) op (.lst []) = G0 at s3 ehe een ⊢
  refine ⟨_, rfl, t, _, rfl, sqt_same s3 ht, Nd.for_enumT (K := K) (a := t) (xs := [.ref r]) (fun i σ G => Same G0 G ∧ ∃ v4 v5, σ = [some (.ref t), some (.ref he), some (.ref en), some (.ref op), v4, v5]) ⟨Same.refl _, none, none, rfl⟩ ?_ ?_ ?_⟩
  · rintro i σ G _ ⟨sG, _⟩
    exact sqt_same sG (sqt_same s3 ht)
  · rintro i v σ G T hi ⟨sG, v4, v5, rfl⟩ nT
    have hv : v = .ref r := by
      cases i with
      | zero => exact (Option.some.inj hi).symm
      | succ n => cases hi
    subst hv
    have sT := same_new (o := .tup [.int (i : Nat), .ref r]) sG nT
    obtain ⟨dx, fs, hr1, hr2⟩ := (hrw.keep s3).keep sT
    refine ⟨T, _, rfl, SqT.of upd_same, rfl, _, _, rfl, _, _, rfl, rfl, ?_⟩
    generalize upd G T (.tup [.int (i : Nat), .ref r]) = G1 at sT hr1 ⊢
    refine ⟨_, rfl, r, CR, dx, fs, _, rfl, hr1, R.cl, R.nw, hr2, rfl, _, rfl, iteBF (by decide +kernel) ?_⟩
    refine ⟨_, rfl, r, CR, dx, fs, _, rfl, hr1, R.cl, R.nw, hr2, aL, _, rfl, .inr (cL.s _), rfl, rfl, _, rfl, iteBF (by decide +kernel) ?_⟩
    refine ⟨_, rfl, r, CR, dx, fs, _, rfl, hr1, R.cl, R.nw, hr2, rfl, _, rfl, iteBF (by decide +kernel) ?_⟩
    refine ⟨_, rfl, r, CR, dx, fs, _, rfl, hr1, R.cl, R.nw, hr2, rfl, _, rfl, iteBF (by decide +kernel) ?_⟩
    exact ⟨sT, _, _, rfl⟩
  · rintro σ G ⟨sG, v4, v5, rfl⟩
    refine ⟨_, rfl, _, rfl, (by show 2 ≤ sizeLine; decide), fun u nu => ?_⟩
    exact q _ u he en (fun c o z => (new_same nu) _ _ (sG _ _ (s3 _ _ z))) (SqT.of upd_same) ((new_same nu) _ _ (sG _ _ ehe)) ((new_same nu) _ _ (sG _ _ een)) nee.symm nhe nen1
def FlowQ (C : Addr) (H : Hp) (p tr he en : Addr) : Prop := (∃ (dx : Addr) (fs : List (Str × V)), H p = some (.ins C dx fs) ∧ fs.lookup ("rows" : Str) = some (V.ref tr) ∧ fs.lookup ("size" : Str) = some (V.int 1) ∧ fs.lookup ("heads" : Str) = some (V.ref he) ∧ fs.lookup ("ends" : Str) = some (V.ref en) ∧
    fs.lookup ("landing" : Str) = none ∧ fs.lookup ("way_past" : Str) = none ∧ fs.lookup ("find_loops" : Str) = none) ∧ H he = some (.dK []) ∧ H en = some (.dK [])
theorem FlowQ.keep {C p tr he en : Addr} {H H' : Hp} (h : FlowQ C H p tr he en) (e : Same H H') : FlowQ C H' p tr he en := by
  obtain ⟨⟨dx, fs, h1, h2⟩, h3, h4⟩ := h
  exact ⟨⟨dx, fs, e _ _ h1, h2⟩, e _ _ h3, e _ _ h4⟩
def spLand7 (C : Addr) : Sp := fun vs H Q _ => ∃ (p tr he en : Addr), vs = [.ref p, .int 1] ∧ FlowQ C H p tr he en ∧ Q (.int 1) H
theorem ok_land7 {C : Addr} {m : Nat → Addr} (T : FlowT K mg C m) : ∃ fd, Fun K "landing" "Flow.landing" s_Flow_landing (m 1) fd ∧ Binds K fd ["self", "at"] [] ∧ FnOk P w K mg base CX0 1 (m 1) fd ["self", "at"] (spLand7 C) := by
  obtain ⟨fd, F, b⟩ := T.f1.fn
  refine ⟨fd, F, b, F.ok c_Flow_landing (fun vs H Q E h => ?_) (fun cdv A outer s H vs Q E hr h => ?_)⟩
  · obtain ⟨p, tr, he, en, rfl, _⟩ := h
    rfl
  obtain ⟨p, tr, he, en, rfl, ⟨⟨dx, fs, o1, l1, l2, l3, l4, _⟩, hh, hen⟩, q⟩ := h
  have hu := hu_of hr
  refine ⟨_, pss_cons (ps_while PassesOwn.never (PW.pt (pw_and (pt_cmpR op_lt (pv 1) (pe_fld (pv 0) rfl) (nomark _)) (pw_and1 (pt_cmp (pc_din hu (pv 1) (pe_fld (pv 0) rfl)))))) (pss_cons ps_never (pss_cons ps_never (pss_one ps_never)))) <|
    pss_one (ps_ret (pv 1)), ?_⟩
  refine while_by (fun σ G => G = H ∧ σ = [some (.ref p), some (.int 1), none]) (fun σ _ => 0) ⟨rfl, rfl⟩ ?_ ?_
  · rintro σ G ⟨rfl, rfl⟩
    exact ⟨_, rfl, _, rfl, p, C, dx, fs, _, rfl, o1, T.cl, T.nz, l2, _, _, rfl, rfl, _, rfl, iteBF (by decide) (iteF ⟨_, rfl, q⟩)⟩
  · rintro σ G Q1 Q2 h ⟨x1, e1, x2, e2, a1, C1, dx1, fs1, v1, e3, e4, c1, n1, lk, i, j, r1, r2, b, e5, hq⟩
    refine ⟨x1, e1, x2, e2, a1, C1, dx1, fs1, v1, e3, e4, c1, n1, lk, i, j, r1, r2, b, e5, ?_⟩
    cases b with
    | false =>
      have hq' := hq
      exact h _ _ hq'
    | true =>
      obtain ⟨y1, f1, y2, f2, a2, C2, dx2, fs2, v2, f3, f4, c2, n2, lk2, d, ov, f5, g5, b2, f6, hq2⟩ := hq
      exact ⟨y1, f1, y2, f2, a2, C2, dx2, fs2, v2, f3, f4, c2, n2, lk2, d, ov, f5, g5, b2, f6, h _ _ hq2⟩
def spWP7 (C : Addr) : Sp := fun vs H Q _ => ∃ (p tr he en : Addr), vs = [.ref p, .int 0] ∧ FlowQ C H p tr he en ∧ Q (.int 1) H
theorem ok_wp7 {C : Addr} {m : Nat → Addr} (T : FlowT K mg C m) : ∃ fd, Fun K "way_past" "Flow.way_past" s_Flow_way_past (m 2) fd ∧ Binds K fd ["self", "at"] [] ∧ FnOk P w K mg base CX0 1 (m 2) fd ["self", "at"] (spWP7 C) := by
  obtain ⟨fd, F, b⟩ := T.f2.fn
  refine ⟨fd, F, b, F.ok c_Flow_way_past (fun vs H Q E h => ?_) (fun cdv A outer s H vs Q E hr h => ?_)⟩
  · obtain ⟨p, tr, he, en, rfl, _⟩ := h
    rfl
  obtain ⟨p, tr, he, en, rfl, ⟨⟨dx, fs, o1, l1, l2, l3, l4, _⟩, hh, hen⟩, q⟩ := h
  have hu := hu_of hr
  refine ⟨_, pss_cons (ps_if (pt_cmp (pc_dnotin hu (pv 1) (pe_fld (pv 0) rfl))) (pss_one (ps_ret (pe_fld (pv 0) rfl))) pss_nil) <| pss_cons ps_never <| pss_one ps_never, ?_⟩
  exact ⟨_, rfl, _, rfl, p, C, dx, fs, _, rfl, o1, T.cl, T.ne, l4, en, _, rfl, DGet.k (k := Sum.inl 0) hen, _, rfl, iteT ⟨_, rfl, p, C, dx, fs, _, rfl, o1, T.cl, T.nz, l2, q⟩⟩
def spFL7 (C : Addr) : Sp := fun vs H Q _ => ∃ (p tr he en : Addr), vs = [.ref p] ∧ FlowQ C H p tr he en ∧ ∀ H' r, Same H H' → H' r = some (.lst [.int (-1)]) → Q (.ref r) H'
theorem ok_fl7 {C : Addr} {m : Nat → Addr} (T : FlowT K mg C m) : ∃ fd, Fun K "find_loops" "Flow.find_loops" s_Flow_find_loops (m 3) fd ∧ Binds K fd ["self"] [] ∧ FnOk P w K mg base CX0 1 (m 3) fd ["self"] (spFL7 C) := by
  obtain ⟨fd, F, b⟩ := T.f3.fn
  refine ⟨fd, F, b, F.ok c_Flow_find_loops (fun vs H Q E h => ?_) (fun cdv A outer s H vs Q E hr h => ?_)⟩
  · obtain ⟨p, tr, he, en, rfl, _⟩ := h
    rfl
  obtain ⟨p, tr, he, en, rfl, hf, q⟩ := h
  obtain ⟨⟨dx, fs, o1, l1, l2, l3, l4, _⟩, hh, hen⟩ := hf
  refine ⟨_, pss_cons (ps_set (i := 1) c_Flow_find_loops.nd rfl (Or.inl rfl) (pe_op op_rep (pe_lst (pa_cons (pe_un un_neg pe_int) pa_nil)) (pe_fld (pv 0) rfl))) <|
    pss_cons (ps_lock (ps_for PassesOwn.never rfl (pi_items (pe_fld (pv 0) rfl)) (pg_tup rfl (pgs_cons (pg_name (i := 2) c_Flow_find_loops.nd rfl (Or.inl rfl)) (pgs_cons (pg_name (i := 3) c_Flow_find_loops.nd rfl (Or.inl rfl)) pgs_nil)))
      (pss_one ps_never))) <|
    pss_one (ps_ret (pv 1)), ?_⟩
  refine ⟨_, rfl, (by show 1 ≤ sizeLine; decide), fun l0 nl0 => ⟨_, rfl, p, C, dx, fs, _, rfl, (new_same nl0) _ _ o1, T.cl, T.nz, l2, l0, _, _, rfl, rfl, upd_same, by decide, by decide, (by show 1 * 1 ≤ sizeLine; decide), fun fo nfo => ?_⟩⟩
  have s1 := same_new (o := .lst (List.replicate (1 : Int).toNat [V.int (-1)]).flatten) (new_same (o := .lst [.int (-1)]) nl0) nfo
  have efo : (upd (upd H l0 (.lst [.int (-1)])) fo (.lst (List.replicate (1 : Int).toNat [V.int (-1)]).flatten)) fo = some (.lst [.int (-1)]) := upd_same
  generalize upd (upd H l0 (.lst [.int (-1)])) fo (.lst (List.replicate (1 : Int).toNat [V.int (-1)]).flatten) = G1 at s1 efo ⊢
  have hen1 := s1 _ _ hen
  refine ⟨en, _, hen1, trivial, fun od => ?_⟩
  have hfe : fo ≠ en := ne_of efo hen1 (by intro z; cases z)
  refine ⟨_, rfl, p, C, dx, fs, _, rfl, (by rw [upd_ne (ne_of (s1 _ _ o1) hen1 (by intro z; cases z))]; exact s1 _ _ o1), T.cl, T.ne, l4, en, od, [], rfl, upd_same, for_it walk_items (fun i σ G => G = upd G1 en (.frz od (.dK [])) ∧ σ = [some (.ref p), some (.ref fo), none, none, none]) ⟨rfl, rfl⟩ ?_ ?_ ?_⟩
  · rintro i σ G _ ⟨rfl, _⟩
    exact upd_same
  · rintro i x σ G G' hi _ _
    exact absurd hi (Nat.not_lt_zero _)
  · rintro σ G ⟨rfl, rfl⟩
    refine ⟨upd_same, ?_⟩
    refine ⟨_, rfl, q _ fo ?_ ?_⟩
    · rw [upd_upd]
      intro c o z
      by_cases e : c = en
      · subst e
        rw [hen] at z
        cases z
        exact upd_same
      · rw [upd_ne e]
        exact s1 _ _ z
    · rw [upd_upd, upd_ne hfe]
      exact efo
end
end H2
namespace H2
open PySem PySem.Spec PyProof.Rows L2 Hx Nd Dun
section
variable {P : Program} {w : World} {K : PySem.W.Frag} {mg : Str → Option Value} {base : Heap} {D : Addr}
/-- the flow at p of the row at r -/
def FlowD (K : PySem.W.Frag) (C : Addr) (H : Hp) (p r : Addr) : Prop := ∃ (dx : Addr) (fs : List (Str × V)) (tr ta tb : Addr), H p = some (.ins C dx fs) ∧ fs.lookup ("rows" : Str) = some (V.ref tr) ∧ fs.lookup ("size" : Str) = some (V.int 1) ∧ fs.lookup ("after" : Str) = some (V.ref ta) ∧ fs.lookup ("other" : Str) = some (V.ref tb) ∧
  SqT K H tr [.ref r] ∧ SqT K H ta [.int 1] ∧ SqT K H tb [.int 1]
theorem FlowD.keep {C p r : Addr} {H H' : Hp} (h : FlowD K C H p r) (e : Same H H') : FlowD K C H' p r := by
  obtain ⟨dx, fs, tr, ta, tb, h1, h2, h3, h4, h5, h6, h7, h8⟩ := h
  exact ⟨dx, fs, tr, ta, tb, e _ _ h1, h2, h3, h4, h5, sqt_same e h6, sqt_same e h7, sqt_same e h8⟩
def spFlow7 (K : PySem.W.Frag) (C CR : Addr) : Sp := fun vs H Q _ => ∃ (p l dx r : Addr), vs = [.ref p, .ref l] ∧ H p = some (.ins C dx []) ∧ H l = some (.lst [.ref r]) ∧ RowW K CR H r "tell" ∧ ∀ H', But p H H' → FlowD K C H' p r → Q .non H'
theorem sqt_insT {H : Hp} {p t : Addr} {C dx : Addr} {fs : List (Str × V)} {o : HO} {xs : List V} (hp : H p = some (.ins C dx fs)) (h : SqT K H t xs) : SqT K (upd H p o) t xs := sqt_tups (tups_ins hp) h
theorem ok_Flow7 {C CR fI tt gM : Addr} {m : Nat → Addr} (T : FlowT K mg C m) (R : RowT K mg CR fI tt) (rng : mg "range" = none) (len : mg "len" = none) (tup : mg "tuple" = none)
    {md : FuncData} (FM : Fun K "match_blocks" "match_blocks" s_match_blocks gM md) (bM : Binds K md ["rows"] []) (mM : mg "match_blocks" = some (.ref gM)) (GM : FnOk P w K mg base CX0 1 gM md ["rows"] (spMB7 K CR)) :
    ∃ fd, Fun K "__init__" "Flow.__init__" s_Flow_init (m 0) fd ∧ Binds K fd ["self", "rows"] [] ∧ FnOk P w K mg base CX0 2 (m 0) fd ["self", "rows"] (spFlow7 K C CR) := by
  obtain ⟨ld, FL, bL, GL⟩ := ok_land7 (P := P) (w := w) (base := base) T
  obtain ⟨wd, FW, bW, GW⟩ := ok_wp7 (P := P) (w := w) (base := base) T
  obtain ⟨od, FO, bO, GO⟩ := ok_fl7 (P := P) (w := w) (base := base) T
  obtain ⟨fd, F, b⟩ := T.f0
  refine ⟨fd, F, b, F.ok c_Flow_init (fun vs H Q E h => ?_) (fun cdv A outer s H vs Q E hr h => ?_)⟩
  · obtain ⟨p, l, dx, r, rfl, _⟩ := h
    rfl
  obtain ⟨p, l, dx, r, rfl, hp, hl, hrw, q⟩ := h
  refine ⟨_, pss_cons (ps_fld (pv 0) (pe_callTy call_tuple_of (by rfl) tup (by decide +kernel) (pa_cons (pv 1) pa_nil)) rfl) <|
    pss_cons (ps_fld (pv 0) (pe_callB (call_len_seq) (by rfl) len PySem.boot_len (pa_cons (pe_fld (pv 0) rfl) pa_nil)) rfl) <|
    pss_cons (ps_asg (pe_call GM hr rfl mM FM.kp bM .nil pass0 (pa_cons (pe_fld (pv 0) rfl) pa_nil)) (pg_tup rfl (pgs_cons (Nd.pg_fld (pv 0)) (pgs_cons (Nd.pg_fld (pv 0)) pgs_nil)))) <|
    pss_cons (ps_fld (pv 0) (pe_callTy call_tuple_of (by rfl) tup (by decide +kernel) (pa_cons (pe_lc (own := [("at", 2)]) (g := gName 2) (tt := tYes) rfl c_Flow_init.nd (pi_range1 rfl rng (pa_cons (pe_fld (pv 0) rfl) pa_nil)) (blkOk_by (own := [("at", 2)]) (N := n_Flow_init) (sc := defScope s_Flow_init) (by decide +kernel))
        (fun _ _ _ _ _ => pg_name (i := 2) c_Flow_init.nd rfl (Or.inl rfl)) (fun _ _ _ _ _ => pts_nil) (fun _ _ _ _ _ => pe_meth (pv 0) T.cl T.f1.m GL hr bL .nil pass0 (pa_cons (pe_op op_add (pv 2) pe_int) pa_nil))) pa_nil)) rfl) <|
    pss_cons (ps_fld (pv 0) (pe_callTy call_tuple_of (by rfl) tup (by decide +kernel) (pa_cons (pe_lc (own := [("at", 2)]) (g := gName 2) (tt := tYes) rfl c_Flow_init.nd (pi_range1 rfl rng (pa_cons (pe_fld (pv 0) rfl) pa_nil)) (blkOk_by (own := [("at", 2)]) (N := n_Flow_init) (sc := defScope s_Flow_init) (by decide +kernel))
        (fun _ _ _ _ _ => pg_name (i := 2) c_Flow_init.nd rfl (Or.inl rfl)) (fun _ _ _ _ _ => pts_nil) (fun _ _ _ _ _ => pe_meth (pv 0) T.cl T.f2.m GW hr bW .nil pass0 (pa_cons (pv 2) pa_nil))) pa_nil)) rfl) <|
    pss_one (ps_fld (pv 0) (pe_callTy call_tuple_of (by rfl) tup (by decide +kernel) (pa_cons (pe_meth0 (pv 0) T.cl T.f3.m GO hr bO .nil pass0) pa_nil)) rfl), ?_⟩
  have npl : l ≠ p := ne_of hl hp (by intro z; cases z)
  have nrp : r ≠ p := fun z => by
    obtain ⟨dx', fs', h1, h2⟩ := hrw
    rw [z, hp] at h1
    cases h1
    cases h2
  refine ⟨_, rfl, l, _, rfl, .inl ⟨SqL.of hl, fun tr ntr => ⟨_, rfl, p, C, dx, [], rfl, (new_same ntr) _ _ hp, T.cl, T.nr, (by show 0 < 1000; decide), ?_⟩⟩⟩
  have ntrp : tr ≠ p := (ne_of_none hp ntr).symm
  have htr : SqT K (upd (upd H tr (.tup [.ref r])) p (.ins C dx (putF "rows" (.ref tr) []))) tr [.ref r] := SqT.of (by rw [upd_ne ntrp, upd_same])
  refine ⟨_, rfl, p, C, dx, _, _, rfl, upd_same, T.cl, T.nr, rfl, tr, _, rfl, .inr htr, _, rfl, p, C, dx, _, rfl, upd_same, T.cl, T.nz, (by show 1 < 1000; decide), ?_⟩
  rw [upd_upd]
  have b3 : But p H (upd (upd H tr (.tup [.ref r])) p (.ins C dx (putF "size" (.int ([V.ref r].length : Nat)) (putF "rows" (.ref tr) [])))) := (Same.but (new_same ntr)).trans But.upd
  have htr3 : SqT K (upd (upd H tr (.tup [.ref r])) p (.ins C dx (putF "size" (.int ([V.ref r].length : Nat)) (putF "rows" (.ref tr) [])))) tr [.ref r] := SqT.of (by rw [upd_ne ntrp, upd_same])
  have hp3 : (upd (upd H tr (.tup [.ref r])) p (.ins C dx (putF "size" (.int ([V.ref r].length : Nat)) (putF "rows" (.ref tr) [])))) p = some (.ins C dx [("rows", .ref tr), ("size", .int 1)]) := upd_same
  generalize upd (upd H tr (.tup [.ref r])) p (.ins C dx (putF "size" (.int ([V.ref r].length : Nat)) (putF "rows" (.ref tr) []))) = H3 at b3 htr3 hp3 ⊢
  have hrw3 : RowW K CR H3 r "tell" := by
    obtain ⟨dx', fs', h1, h2⟩ := hrw
    exact ⟨dx', fs', b3 _ _ nrp h1, h2⟩
  refine ⟨_, rfl, p, C, dx, _, _, rfl, hp3, T.cl, T.nr, rfl, tr, r, rfl, htr3, hrw3, fun H4 t' he en s4 ht' ehe een hne nhe nen => ?_⟩
  have hp4 := s4 _ _ hp3
  have nhep : he ≠ p := (ne_of_none hp3 nhe).symm
  have nenp : en ≠ p := (ne_of_none hp3 nen).symm
  refine ⟨t', _, rfl, ht', rfl, _, _, rfl, _, rfl, p, C, dx, _, rfl, hp4, T.cl, T.nh, (by show 2 < 1000; decide), _, _, rfl, _, rfl, p, C, dx, _, rfl, upd_same, T.cl, T.ne, (by show 3 < 1000; decide), rfl, ?_⟩
  rw [upd_upd]
  have b5 : But p H (upd H4 p (.ins C dx (putF "ends" (.ref en) (putF "heads" (.ref he) [("rows", .ref tr), ("size", .int 1)])))) := (b3.trans (Same.but s4)).trans But.upd
  have he5 : (upd H4 p (.ins C dx (putF "ends" (.ref en) (putF "heads" (.ref he) [("rows", .ref tr), ("size", .int 1)])))) he = some (.dK []) := by rw [upd_ne nhep]; exact ehe
  have en5 : (upd H4 p (.ins C dx (putF "ends" (.ref en) (putF "heads" (.ref he) [("rows", .ref tr), ("size", .int 1)])))) en = some (.dK []) := by rw [upd_ne nenp]; exact een
  have hp5 : (upd H4 p (.ins C dx (putF "ends" (.ref en) (putF "heads" (.ref he) [("rows", .ref tr), ("size", .int 1)])))) p = some (.ins C dx (flowF tr 1 he en [])) := upd_same
  have ht5 : SqT K (upd H4 p (.ins C dx (putF "ends" (.ref en) (putF "heads" (.ref he) [("rows", .ref tr), ("size", .int 1)])))) tr [.ref r] := sqt_insT hp4 (sqt_same s4 htr3)
  generalize upd H4 p (.ins C dx (putF "ends" (.ref en) (putF "heads" (.ref he) [("rows", .ref tr), ("size", .int 1)]))) = H5 at b5 he5 en5 hp5 ht5 ⊢
  have f5 : FlowQ C H5 p tr he en := ⟨⟨dx, _, hp5, rfl, rfl, rfl, rfl, rfl, rfl, rfl⟩, he5, en5⟩
  -- after
  refine ⟨_, rfl, p, C, dx, _, _, rfl, hp5, T.cl, T.nz, rfl, 1, rfl, by decide, by decide, fun D nD => ?_⟩
  refine lcr_map (lo := 0) (n := 1) (fun x => .int (x + 1)) nD (by decide) (fun _ => rfl) (fun x G Z h0 h1 sG hz => ?_) (fun G6 s6 e6 => ?_)
  · have hx : x = 0 := by
      have : x < 0 + 1 := h1
      omega
    subst hx
    exact ⟨_, rfl, p, dx, _, rfl, sG _ _ hp5, rfl, _, rfl, _, _, rfl, rfl, p, tr, he, en, rfl, f5.keep sG, hz⟩
  refine ⟨D, _, rfl, .inl ⟨SqL.of e6, fun ta nta => ?_⟩⟩
  have s6a := same_new (o := .tup [.int 1]) s6 nta
  have hp6 := s6a _ _ hp5
  refine ⟨_, rfl, p, C, dx, _, rfl, hp6, T.cl, T.na, (by show 4 < 1000; decide), ?_⟩
  have e7 : upd G6 ta (.tup ((rangeI 0 1).map fun x => V.int (x + 1))) = upd G6 ta (.tup [.int 1]) := rfl
  have b7 : But p H (upd (upd G6 ta (.tup [.int 1])) p (.ins C dx (putF "after" (.ref ta) (flowF tr 1 he en [])))) := (b5.trans (Same.but s6a)).trans But.upd
  have he7 : (upd (upd G6 ta (.tup [.int 1])) p (.ins C dx (putF "after" (.ref ta) (flowF tr 1 he en [])))) he = some (.dK []) := by rw [upd_ne nhep]; exact s6a _ _ he5
  have en7 : (upd (upd G6 ta (.tup [.int 1])) p (.ins C dx (putF "after" (.ref ta) (flowF tr 1 he en [])))) en = some (.dK []) := by rw [upd_ne nenp]; exact s6a _ _ en5
  have hp7 : (upd (upd G6 ta (.tup [.int 1])) p (.ins C dx (putF "after" (.ref ta) (flowF tr 1 he en [])))) p = some (.ins C dx (flowF tr 1 he en [("after", .ref ta)])) := upd_same
  have ht7 : SqT K (upd (upd G6 ta (.tup [.int 1])) p (.ins C dx (putF "after" (.ref ta) (flowF tr 1 he en [])))) tr [.ref r] := sqt_insT hp6 (sqt_same s6a ht5)
  have ha7 : SqT K (upd (upd G6 ta (.tup [.int 1])) p (.ins C dx (putF "after" (.ref ta) (flowF tr 1 he en [])))) ta [.int 1] := sqt_insT hp6 (SqT.of upd_same)
  have e7' : upd (upd G6 ta (.tup ((rangeI 0 1).map fun x => V.int (x + 1)))) p (.ins C dx (putF "after" (.ref ta) (flowF tr 1 he en []))) = upd (upd G6 ta (.tup [.int 1])) p (.ins C dx (putF "after" (.ref ta) (flowF tr 1 he en []))) := rfl
  refine (?_ : _)
  generalize upd (upd G6 ta (.tup [.int 1])) p (.ins C dx (putF "after" (.ref ta) (flowF tr 1 he en []))) = H7 at b7 he7 en7 hp7 ht7 ha7 e7'
  rw [show upd (upd G6 ta (.tup ((rangeI 0 1).map fun x => V.int (x + 1)))) p (.ins C dx (putF "after" (.ref ta) (flowF tr 1 he en []))) = H7 from e7']
  have f7 : FlowQ C H7 p tr he en := ⟨⟨dx, _, hp7, rfl, rfl, rfl, rfl, rfl, rfl, rfl⟩, he7, en7⟩
  -- other
  refine ⟨_, rfl, p, C, dx, _, _, rfl, hp7, T.cl, T.nz, rfl, 1, rfl, by decide, by decide, fun D2 nD2 => ?_⟩
  refine lcr_map (lo := 0) (n := 1) (fun x => .int 1) nD2 (by decide) (fun _ => rfl) (fun x G Z h0 h1 sG hz => ?_) (fun G8 s8 e8 => ?_)
  · have hx : x = 0 := by
      have : x < 0 + 1 := h1
      omega
    subst hx
    exact ⟨_, rfl, p, dx, _, rfl, sG _ _ hp7, rfl, _, rfl, p, tr, he, en, rfl, f7.keep sG, hz⟩
  refine ⟨D2, _, rfl, .inl ⟨SqL.of e8, fun tb ntb => ?_⟩⟩
  have s8a := same_new (o := .tup ((rangeI 0 1).map fun x => V.int 1)) s8 ntb
  have eb8 : SqT K (upd G8 tb (.tup ((rangeI 0 1).map fun x => V.int 1))) tb [.int 1] := SqT.of upd_same
  generalize upd G8 tb (.tup ((rangeI 0 1).map fun x => V.int 1)) = G8a at s8a eb8 ⊢
  have hp8 := s8a _ _ hp7
  refine ⟨_, rfl, p, C, dx, _, rfl, hp8, T.cl, T.no, (by show 5 < 1000; decide), ?_⟩
  have b9 : But p H (upd G8a p (.ins C dx (putF "other" (.ref tb) (flowF tr 1 he en [("after", .ref ta)])))) := (b7.trans (Same.but s8a)).trans But.upd
  have he9 : (upd G8a p (.ins C dx (putF "other" (.ref tb) (flowF tr 1 he en [("after", .ref ta)])))) he = some (.dK []) := by rw [upd_ne nhep]; exact s8a _ _ he7
  have en9 : (upd G8a p (.ins C dx (putF "other" (.ref tb) (flowF tr 1 he en [("after", .ref ta)])))) en = some (.dK []) := by rw [upd_ne nenp]; exact s8a _ _ en7
  have hp9 : (upd G8a p (.ins C dx (putF "other" (.ref tb) (flowF tr 1 he en [("after", .ref ta)])))) p = some (.ins C dx (flowF tr 1 he en [("after", .ref ta), ("other", .ref tb)])) := upd_same
  have ht9 := sqt_insT (o := .ins C dx (putF "other" (.ref tb) (flowF tr 1 he en [("after", .ref ta)]))) hp8 (sqt_same s8a ht7)
  have ha9 := sqt_insT (o := .ins C dx (putF "other" (.ref tb) (flowF tr 1 he en [("after", .ref ta)]))) hp8 (sqt_same s8a ha7)
  have hb9 := sqt_insT (o := .ins C dx (putF "other" (.ref tb) (flowF tr 1 he en [("after", .ref ta)]))) hp8 eb8
  generalize upd G8a p (.ins C dx (putF "other" (.ref tb) (flowF tr 1 he en [("after", .ref ta)]))) = H9 at b9 he9 en9 hp9 ht9 ha9 hb9 ⊢
  have f9 : FlowQ C H9 p tr he en := ⟨⟨dx, _, hp9, rfl, rfl, rfl, rfl, rfl, rfl, rfl⟩, he9, en9⟩
  refine ⟨_, rfl, p, dx, _, rfl, hp9, rfl, p, tr, he, en, rfl, f9, fun G10 rr s10 er => ?_⟩
  refine ⟨rr, _, rfl, .inl ⟨SqL.of er, fun tc ntc => ?_⟩⟩
  have s11 := same_new (o := .tup [.int (-1)]) s10 ntc
  have hp11 := s11 _ _ hp9
  refine ⟨_, rfl, p, C, dx, _, rfl, hp11, T.cl, T.nl, (by show 6 < 1000; decide), q _ ((b9.trans (Same.but s11)).trans But.upd) ⟨dx, _, tr, ta, tb, upd_same, rfl, rfl, rfl, rfl, sqt_insT hp11 (sqt_same s11 ht9), sqt_insT hp11 (sqt_same s11 ha9), sqt_insT hp11 (sqt_same s11 hb9)⟩⟩
end
end H2
namespace H2
open PySem PySem.Spec PyProof.Rows L2 Hx Nd Dun
section
variable {P : Program} {w : World} {K : PySem.W.Frag} {mg : Str → Option Value} {base : Heap} {D : Addr}
/-! ### a code that tells -/
structure CodeX (K : PySem.W.Frag) (mg : Str → Option Value) (C m : Addr) : Prop where
  g : mg "Code" = some (.ref C)
  mak : Mk K C m
  cl : Cls K C
  nk : NoAttr K C "kind"
  nw : NoAttr K C "width"
  nt : NoAttr K C "text"
  nf : NoAttr K C "flow"
  nm : NoAttr K C "memory"
  nl : NoAttr K C "_lines"
  f0 : ∃ fd, Fun K "__init__" "Code.__init__" s_Code_init m fd ∧ Binds K fd ["self", "kind", "width", "text"] []
def codeF (k wd x : V) (fl me lt : Addr) : List (Str × V) := [("kind", k), ("width", wd), ("text", x), ("flow", .ref fl), ("memory", .ref me), ("_lines", .ref lt)]
theorem but_tups {p C dx : Addr} {H H' : Hp} {fs : List (Str × V)} (b : But p H H') (hp : H p = some (.ins C dx fs)) : Nd.Tups H H' := fun b' xs r => by
  rcases r with r | ⟨o, r⟩
  · exact .inl (b _ _ (ne_of r hp (by intro z; cases z)) r)
  · exact .inr ⟨o, b _ _ (ne_of r hp (by intro z; cases z)) r⟩
abbrev psCD : List Str := ["self", "kind", "width", "text"]
theorem kd_in {kd : Str} (h : kd ∈ kdW) : inV (.str kd) kindsV = true := by
  have e : kindsV = kdW.map V.str := rfl
  rw [e, inV_strs]
  exact decide_eq_true h
theorem wd_in {w : Nat} (h : WdN w) : inV (.int (w : Int)) widthsV = true := by
  rcases h with rfl | rfl | rfl <;> rfl
/-- a code of this kind and width that tells -/
def CodD (K : PySem.W.Frag) (C CF CR : Addr) (H : Hp) (c : Addr) (kd : Str) (w : Nat) : Prop := ∃ (fl r : Addr), CodH C H c kd w fl ∧ FlowD K CF H fl r ∧ RowAt K CR H r .tell
theorem CodD.keep {C CF CR c : Addr} {H H' : Hp} {kd : Str} {w : Nat} (h : CodD K C CF CR H c kd w) (e : Same H H') : CodD K C CF CR H' c kd w := by
  obtain ⟨fl, r, h1, h2, h3⟩ := h
  exact ⟨fl, r, h1.keep e, h2.keep e, h3.keep e⟩
def spCode7 (K : PySem.W.Frag) (C CF CR : Addr) : Sp := fun vs H Q _ => ∃ (p dx : Addr) (kd : Str) (w : Nat), vs = [.ref p, .str kd, .int (w : Int), .str "tell"] ∧ H p = some (.ins C dx []) ∧ kd ∈ kdW ∧ WdN w ∧ ∀ H', But p H H' → CodD K C CF CR H' p kd w → Q .non H'
theorem ok_Code7 {CF : Addr} {mF : Nat → Addr} (TF : FlowT K mg CF mF) {fdF : FuncData} (bF : Binds K fdF ["self", "rows"] []) {C CR DB g1 g2 g3 g4 m0 : Addr} {EC EI : Nat → Addr} (T : CodeX K mg C m0) (ET : ErrT K mg DB EC EI) (len : mg "len" = none) (tup : mg "tuple" = none) {tk60 : Value} (GF : FnOk P w K mg base CX0 2 (mF 0) fdF ["self", "rows"] (spFlow7 K CF CR)) (m60 : mg "MOST_LINES" = some tk60) (r60 : RelV (.int 60) tk60) {d1 d2 d3 d4 : FuncData}
    (F1 : Fun K "is_kind" "is_kind" s_is_kind g1 d1) (b1 : Binds K d1 ["value"] []) (m1 : mg "is_kind" = some (.ref g1)) (G1 : FnOk P w K mg base CX0 1 g1 d1 ["value"] (spIs K "str" kindsV))
    (F2 : Fun K "is_width" "is_width" s_is_width g2 d2) (b2 : Binds K d2 ["value"] []) (m2 : mg "is_width" = some (.ref g2)) (G2 : FnOk P w K mg base CX0 1 g2 d2 ["value"] (spIs K "int" widthsV))
    (F3 : Fun K "read_rows" "read_rows" s_read_rows g3 d3) (b3 : Binds K d3 psLW []) (m3 : mg "read_rows" = some (.ref g3)) (G3 : FnOk P w K mg base (L2.CX P w) 6 g3 d3 psLW (spRows K CR (EC 2)))
    (F4 : Fun K "least_break" "least_break" s_least_break g4 d4) (b4 : Binds K d4 psLB []) (m4 : mg "least_break" = some (.ref g4)) (G4 : FnOk P w K mg base CX0 4 g4 d4 psLB (spLeast K CR)) :
    ∃ fd, Fun K "__init__" "Code.__init__" s_Code_init m0 fd ∧ Binds K fd psCD [] ∧ FnOk P w K mg base (L2.CX P w) 7 m0 fd psCD (spCode7 K C CF CR) := by
  obtain ⟨fd, F, b⟩ := T.f0
  refine ⟨fd, F, b, F.okX c_Code_init (fun vs H Q E h => ?_) (fun cdv A outer s H vs Q E hr h => ?_)⟩
  · obtain ⟨p, dx, kd, wd, rfl, _⟩ := h
    rfl
  obtain ⟨p, dx, kd, wd, rfl, hp, hkd, hwd, q⟩ := h
  have tk : Takes (cxOf (L2.CX P w) P w K mg base n_Code_init "Code.__init__" (defScope s_Code_init) m0 cdv A outer s H E) (fun cls d _ G => E cls d G) := takes_of rfl rfl rfl rfl
  refine ⟨_, pss_cons (ps_if (pt_not (pt_val (pe_call G1 (hr.mono (by decide)) rfl m1 F1.kp b1 .nil pass0 (pa_cons (pv 1) pa_nil)))) (pss_one ps_never) pss_nil)
    (pss_cons (ps_if (pt_not (pt_val (pe_call G2 (hr.mono (by decide)) rfl m2 F2.kp b2 .nil pass0 (pa_cons (pv 2) pa_nil)))) (pss_one ps_never) pss_nil)
    (pss_cons (ps_set (i := 4) c_Code_init.nd rfl (Or.inl rfl) (pe_ifExp (pt_truth (pv 3) (by intro _; rfl)) (pe_split (pv 3) pe_str) (pe_lst pa_nil)))
    (pss_cons (ps_if (pt_cmpR op_gt (pe_callB call_len_seq (by rfl) len PySem.boot_len (pa_cons (pv 4) pa_nil)) (pe_glob (v := .int 60) rfl m60 r60) (nomark _)) (pss_one ps_never) pss_nil)
    (pss_cons (ps_set (i := 5) c_Code_init.nd rfl (Or.inl rfl) (pe_callS G3 hr rfl m3 F3.kp b3 (fun σ => passAt tk σ) (pa_cons (pv 4) (pa_cons (pv 2) pa_nil))))
    (pss_cons (ps_set (i := 6) c_Code_init.nd rfl (Or.inl rfl) (pe_call G4 (hr.mono (by decide)) rfl m4 F4.kp b4 .nil pass0 (pa_cons (pv 1) (pa_cons (pv 5) pa_nil))))
    (pss_cons (ps_if (pt_cmp (pc_notN (pv 6))) (pss_one ps_never) pss_nil)
    (pss_cons (ps_fld (pv 0) (pv 1) rfl) (pss_cons (ps_fld (pv 0) (pv 2) rfl) (pss_cons (ps_fld (pv 0) (pv 3) rfl) (pss_cons (ps_fld (pv 0) (pe_make TF.mak GF (hr.mono (by decide)) rfl TF.g bF .nil pass0 (pa_cons (pv 5) pa_nil)) rfl) (pss_cons (ps_fld (pv 0) pe_dnewK rfl) (pss_one (ps_fld (pv 0) (pe_callTy call_tuple_of (by rfl) tup (by decide +kernel) (pa_cons (pv 4) pa_nil)) rfl))))))))))))), ?_⟩
  refine ⟨_, rfl, .str kd, .type "str", true, rfl, .base (.str kd), kit_ty (by decide +kernel), fun _ => rfl, _, rfl, iteBF (by rw [kd_in hkd]; rfl) ?_⟩
  refine ⟨_, rfl, .int (wd : Int), .type "int", true, rfl, .base (.int _), kit_ty (by decide +kernel), fun _ => rfl, _, rfl, iteBF (by rw [wd_in hwd]; rfl) ?_⟩
  refine ⟨_, rfl, true, ⟨by decide +kernel, by decide +kernel⟩, iteT ?_⟩
  refine ⟨_, rfl, ⟨_, rfl⟩, "tell", _, rfl, rfl, by decide +kernel, by decide +kernel, fun l nl => ?_⟩
  have esp : (Txt.split ("tell" : Str) "\n").map V.str = [.str "tell"] := by
    have : Txt.split ("tell" : Str) "\n" = [("tell" : Str)] := by decide +kernel
    rw [this]
    rfl
  rw [esp]
  have sG := new_same (o := .lst [.str "tell"]) nl
  have hl : (upd H l (.lst [.str "tell"])) l = some (.lst [.str "tell"]) := upd_same
  generalize upd H l (.lst [.str "tell"]) = G at sG hl ⊢
  refine ⟨_, rfl, l, _, rfl, .inl (SqL.of hl), _, _, rfl, rfl, _, rfl, iteBF (by decide) ?_⟩
  have hline : Tk.tell.line = "tell" := rfl
  refine ⟨_, rfl, _, rfl, l, .int (wd : Int), [("tell" : Str)], rfl, SqL.of hl, by decide, .inl ⟨[.tell], rfl, rfl, fun H2 r rs s2 er elen hrows => ?_⟩⟩
  refine ⟨_, rfl, _, rfl, r, .str kd, rs, [.tell], rfl, er, elen, hrows, rfl, fun H3 s3 => ?_⟩
  refine ⟨_, rfl, _, rfl, iteBF (by decide) ?_⟩
  have sH := (sG.trans s2).trans s3
  have hp3 := sH _ _ hp
  obtain ⟨r0, rfl⟩ : ∃ r0, rs = [r0] := by
    match rs, elen with
    | [a], _ => exact ⟨a, rfl⟩
  have hrow : RowAt K CR H3 r0 .tell := (hrows 0 r0 .tell rfl rfl).keep s3
  refine ⟨_, rfl, _, rfl, p, C, dx, _, rfl, hp3, T.cl, T.nk, (by show 0 < 1000; decide), ?_⟩
  refine ⟨_, rfl, _, rfl, p, C, dx, _, rfl, upd_same, T.cl, T.nw, (by show 1 < 1000; decide), ?_⟩
  refine ⟨_, rfl, _, rfl, p, C, dx, _, rfl, upd_same, T.cl, T.nt, (by show 2 < 1000; decide), ?_⟩
  rw [upd_upd, upd_upd]
  have hl3 := s2.trans s3 _ _ hl
  have er3 := s3 _ _ er
  have npl : l ≠ p := ne_of hl3 hp3 (by intro z; cases z)
  have npr : r ≠ p := ne_of er3 hp3 (by intro z; cases z)
  have rowB : ∀ {Ga Gb : Hp}, But p Ga Gb → (∃ fs, Ga p = some (.ins C dx fs)) → RowAt K CR Ga r0 .tell → r0 ≠ p → RowAt K CR Gb r0 .tell := by
    rintro Ga Gb bb ⟨fs, hpa⟩ ⟨dx', tt, nu, h1, h2, h3⟩ hne
    exact ⟨dx', tt, nu, bb _ _ hne h1, (fun z => by rcases z with z | z <;> cases z), fun z => sqt_tups (but_tups bb hpa) (h3 z)⟩
  have nr0 : r0 ≠ p := fun z => by
    obtain ⟨dx', tt, nu, h1, _⟩ := hrow
    rw [z, hp3] at h1
    cases h1
  have bA : But p H3 (upd H3 p (.ins C dx (putF "text" (.str "tell") (putF "width" (.int (wd : Int)) (putF "kind" (.str kd) []))))) := But.upd
  have lA : (upd H3 p (.ins C dx (putF "text" (.str "tell") (putF "width" (.int (wd : Int)) (putF "kind" (.str kd) []))))) l = some (.lst [.str "tell"]) := bA _ _ npl hl3
  have rA : (upd H3 p (.ins C dx (putF "text" (.str "tell") (putF "width" (.int (wd : Int)) (putF "kind" (.str kd) []))))) r = some (.lst [.ref r0]) := bA _ _ npr er3
  have hrA := rowB bA ⟨_, hp3⟩ hrow nr0
  have pA : (upd H3 p (.ins C dx (putF "text" (.str "tell") (putF "width" (.int (wd : Int)) (putF "kind" (.str kd) []))))) p = some (.ins C dx [("kind", .str kd), ("width", .int (wd : Int)), ("text", .str "tell")]) := upd_same
  generalize upd H3 p (.ins C dx (putF "text" (.str "tell") (putF "width" (.int (wd : Int)) (putF "kind" (.str kd) [])))) = HA at bA lA rA hrA pA ⊢
  refine ⟨_, rfl, fun xf dxf nx ndx ne => ?_⟩
  have sAB := made_row (C := CF) (o := .ins CF dxf []) (Same.refl HA) nx ndx ne
  have hrB := hrA.keep sAB
  have wB : RowW K CR (upd (upd HA dxf (.own xf)) xf (.ins CF dxf [])) r0 "tell" := by
    obtain ⟨dx', tt, nu, h1, _⟩ := hrB
    exact ⟨dx', _, h1, rfl⟩
  refine ⟨xf, r, dxf, r0, rfl, upd_same, sAB _ _ rA, wB, fun H5 b5 hfl => ⟨rfl, ?_⟩⟩
  have sA5 : Same HA H5 := fun c o z => b5 _ _ (ne_of_none z nx) (sAB _ _ z)
  have hr5 := hrA.keep sA5
  have p5 := sA5 _ _ pA
  refine ⟨_, rfl, p, C, dx, _, rfl, p5, T.cl, T.nf, (by show 3 < 1000; decide), ?_⟩
  refine fun me nme => ⟨_, rfl, p, C, dx, _, rfl, (new_same nme) _ _ upd_same, T.cl, T.nm, (by show 4 < 1000; decide), ?_⟩
  obtain ⟨nme5, nmep⟩ := free_upd nme
  have b5F : But p H5 (upd (upd (upd H5 p (.ins C dx (putF "flow" (.ref xf) [("kind", .str kd), ("width", .int (wd : Int)), ("text", .str "tell")]))) me (.dK [])) p (.ins C dx (putF "memory" (.ref me) (putF "flow" (.ref xf) [("kind", .str kd), ("width", .int (wd : Int)), ("text", .str "tell")])))) :=
    ((But.upd).trans (Same.but (new_same nme))).trans But.upd
  have pF : (upd (upd (upd H5 p (.ins C dx (putF "flow" (.ref xf) [("kind", .str kd), ("width", .int (wd : Int)), ("text", .str "tell")]))) me (.dK [])) p (.ins C dx (putF "memory" (.ref me) (putF "flow" (.ref xf) [("kind", .str kd), ("width", .int (wd : Int)), ("text", .str "tell")])))) p = some (.ins C dx [("kind", .str kd), ("width", .int (wd : Int)), ("text", .str "tell"), ("flow", .ref xf), ("memory", .ref me)]) := upd_same
  generalize upd (upd (upd H5 p (.ins C dx (putF "flow" (.ref xf) [("kind", .str kd), ("width", .int (wd : Int)), ("text", .str "tell")]))) me (.dK [])) p (.ins C dx (putF "memory" (.ref me) (putF "flow" (.ref xf) [("kind", .str kd), ("width", .int (wd : Int)), ("text", .str "tell")]))) = HF at b5F pF ⊢
  have lF : HF l = some (.lst [.str "tell"]) := b5F _ _ npl (sA5 _ _ lA)
  refine ⟨_, rfl, l, _, rfl, .inl ⟨SqL.of lF, fun lt nlt => ?_⟩⟩
  have pF2 := (new_same nlt (o := .tup [.str "tell"])) _ _ pF
  refine ⟨_, rfl, p, C, dx, _, rfl, pF2, T.cl, T.nl, (by show 5 < 1000; decide), ?_⟩
  have bZ : But p H5 (upd (upd HF lt (.tup [.str "tell"])) p (.ins C dx (putF "_lines" (.ref lt) [("kind", .str kd), ("width", .int (wd : Int)), ("text", .str "tell"), ("flow", .ref xf), ("memory", .ref me)]))) := (b5F.trans (Same.but (new_same nlt))).trans But.upd
  refine q _ (((Same.but sH).trans bA).trans ((Same.but sA5).trans bZ)) ⟨xf, r0, ⟨dx, _, upd_same, rfl, rfl, rfl⟩, ?_, rowB bZ ⟨_, p5⟩ hr5 nr0⟩
  obtain ⟨dxf', fs, tr, ta, tb, f1, f2, f3, f4, f5, f6, f7, f8⟩ := hfl
  have sq := but_tups bZ p5
  have nxp : xf ≠ p := (ne_of_none pA nx).symm
  exact ⟨dxf', fs, tr, ta, tb, bZ _ _ nxp f1, f2, f3, f4, f5, sqt_tups sq f6, sqt_tups sq f7, sqt_tups sq f8⟩
end
end H2
namespace H2
open PySem PySem.Spec PyProof.Rows L2 Hx Nd Dun
section
variable {P : Program} {w : World} {K : PySem.W.Frag} {mg : Str → Option Value} {base : Heap} {D : Addr}
/-! ### the player -/
structure PlT (K : PySem.W.Frag) (mg : Str → Option Value) (C : Addr) (m : Nat → Addr) : Prop where
  g : mg "Player" = some (.ref C)
  mak : Mk K C (m 0)
  cl : Cls K C
  n : ∀ x ∈ (["flow", "width", "row", "start", "given", "noted", "place", "hand", "mate", "told", "compares", "ended", "at", "loop", "met", "used", "sides_seen", "stations_met"] : List Str), NoAttr K C x
  f0 : ∃ fd, Fun K "__init__" "Player.__init__" s_Player_init (m 0) fd ∧ Binds K fd ["self", "code", "items", "start", "given"] []
  f1 : MT K C "item" "Player.item" s_Player_item ["self", "place"] (m 1)
  f4 : MT K C "run" "Player.run" s_Player_run ["self"] (m 4)
  f5 : MT K C "step" "Player.step" s_Player_step ["self", "row"] (m 5)
def plF (fl : Addr) (w : Nat) (row : Addr) (st gv : V) (en : Addr) (told ended : V) (at' : Int) (met used sd sm : Addr) : List (Str × V) :=
  [("flow", .ref fl), ("width", .int (w : Nat)), ("row", .ref row), ("start", st), ("given", gv), ("noted", .ref en), ("place", st), ("hand", .non), ("mate", .non), ("told", told), ("compares", .int 0), ("ended", ended), ("at", .int at'), ("loop", .int (-1)), ("met", .ref met), ("used", .ref used), ("sides_seen", .ref sd), ("stations_met", .ref sm)]
def pf7 (fl : Addr) (w : Nat) (row : Addr) (st gv : V) (en : Addr) : List (Str × V) := [("flow", .ref fl), ("width", .int (w : Nat)), ("row", .ref row), ("start", st), ("given", gv), ("noted", .ref en), ("place", st)]
def pf14 (fl : Addr) (w : Nat) (row : Addr) (st gv : V) (en : Addr) (r : List (Str × V)) : List (Str × V) := ("flow", .ref fl) :: ("width", .int (w : Nat)) :: ("row", .ref row) :: ("start", st) :: ("given", gv) :: ("noted", .ref en) :: ("place", st) :: ("hand", .non) :: ("mate", .non) :: ("told", .non) :: ("compares", .int 0) :: ("ended", .non) :: ("at", .int 0) :: ("loop", .int (-1)) :: r
abbrev psPlr : List Str := ["self", "code", "items", "start", "given"]
def spPl (K : PySem.W.Frag) (C CC : Addr) : Sp := fun vs H Q _ => ∃ (p dx c l fl : Addr) (as : List Addr) (kd : Str) (w : Nat) (st gv : V), vs = [.ref p, .ref c, .ref l, st, gv] ∧ H p = some (.ins C dx []) ∧ CodH CC H c kd w fl ∧ H l = some (.lst (itV as)) ∧ c ≠ p ∧
  ∀ H' row en met used sd sm, But p H H' → H' p = some (.ins C dx (plF fl w row st gv en .non .non 0 met used sd sm)) → H' row = some (.lst (itV as)) → H' en = some (.dK []) → H' used = some (.dK []) → H' sd = some (.dK []) → H' sm = some (.lst []) → H row = none → H used = none → used ≠ sd → en ≠ used → Q .non H'
theorem fr_but {p a : Addr} {H H' : Hp} (b : But p H H') (n : a ≠ p) (h : H' a = none) : H a = none := by
  cases z : H a with
  | none => rfl
  | some o =>
    have := b a o n z
    rw [h] at this
    cases this
theorem ok_pl {C CC : Addr} {m : Nat → Addr} (T : PlT K mg C m) (CA : CodA K CC) (lst : mg "list" = none) : ∃ fd, Fun K "__init__" "Player.__init__" s_Player_init (m 0) fd ∧ Binds K fd psPlr [] ∧ FnOk P w K mg base CX0 1 (m 0) fd psPlr (spPl K C CC) := by
  obtain ⟨fd, F, b⟩ := T.f0
  refine ⟨fd, F, b, F.ok c_Player_init (fun vs H Q E h => ?_) (fun cdv A outer s H vs Q E hr h => ?_)⟩
  · obtain ⟨p, dx, c, l, fl, as, kd, w, st, gv, rfl, _⟩ := h
    rfl
  obtain ⟨p, dx, c, l, fl, as, kd, wn, st, gv, rfl, hp, hc, hl, ncp, q⟩ := h
  refine ⟨_, pss_cons (ps_fld (pv 0) (pe_fld (pv 1) rfl) rfl) <| pss_cons (ps_fld (pv 0) (pe_fld (pv 1) rfl) rfl) <| pss_cons (ps_fld (pv 0) (pe_callTy call_list_of (by rfl) lst (by decide +kernel) (pa_cons (pv 2) pa_nil)) rfl) <|
    pss_cons (ps_fld (pv 0) (pv 3) rfl) <| pss_cons (ps_fld (pv 0) (pv 4) rfl) <| pss_cons (ps_fld (pv 0) pe_dnewK rfl) <| pss_cons (ps_fld (pv 0) (pv 3) rfl) <| pss_cons (ps_fld (pv 0) pe_non rfl) <| pss_cons (ps_fld (pv 0) pe_non rfl) <| pss_cons (ps_fld (pv 0) pe_non rfl) <| pss_cons (ps_fld (pv 0) pe_int rfl) <| pss_cons (ps_fld (pv 0) pe_non rfl) <|
    pss_cons (ps_fld (pv 0) pe_int rfl) <| pss_cons (ps_fld (pv 0) (pe_un un_neg pe_int) rfl) <| pss_cons (ps_fld (pv 0) (pe_lst pa_nil) rfl) <| pss_cons (ps_fld (pv 0) pe_dnewK rfl) <| pss_cons (ps_fld (pv 0) pe_dnewK rfl) <| pss_one (ps_fld (pv 0) (pe_lst pa_nil) rfl), ?_⟩
  obtain ⟨dxc, fsc, o1, l1, l2, l3⟩ := id hc
  refine ⟨_, rfl, c, CC, dxc, fsc, _, rfl, o1, CA.cl, CA.nf, l3, _, rfl, p, C, dx, _, rfl, hp, T.cl, T.n _ (by simp), (by show 0 < 1000; decide), ?_⟩
  have o2 : (upd H p (.ins C dx (putF "flow" (.ref fl) []))) c = some (.ins CC dxc fsc) := by rw [upd_ne ncp]; exact o1
  refine ⟨_, rfl, c, CC, dxc, fsc, _, rfl, o2, CA.cl, CA.nw, l2, _, rfl, p, C, dx, _, rfl, upd_same, T.cl, T.n _ (by simp), (by show 1 < 1000; decide), ?_⟩
  rw [upd_upd]
  have b2 : But p H (upd H p (.ins C dx (putF "width" (.int (wn : Nat)) (putF "flow" (.ref fl) [])))) := But.upd
  have p2 : (upd H p (.ins C dx (putF "width" (.int (wn : Nat)) (putF "flow" (.ref fl) [])))) p = some (.ins C dx [("flow", .ref fl), ("width", .int (wn : Nat))]) := upd_same
  have hl2 : (upd H p (.ins C dx (putF "width" (.int (wn : Nat)) (putF "flow" (.ref fl) [])))) l = some (.lst (itV as)) := by rw [upd_ne (ne_of hl hp (by intro z; cases z))]; exact hl
  generalize upd H p (.ins C dx (putF "width" (.int (wn : Nat)) (putF "flow" (.ref fl) []))) = H2 at b2 p2 hl2 ⊢
  refine ⟨_, rfl, l, _, rfl, .inl (SqL.of hl2), fun row nrow => ?_⟩
  have nrp : row ≠ p := (ne_of_none p2 nrow).symm
  refine ⟨_, rfl, p, C, dx, _, rfl, (new_same nrow) _ _ p2, T.cl, T.n _ (by simp), (by show 2 < 1000; decide), ?_⟩
  have b3 : But p H (upd (upd H2 row (.lst (itV as))) p (.ins C dx (putF "row" (.ref row) [("flow", .ref fl), ("width", .int (wn : Nat))]))) := (b2.trans (Same.but (new_same nrow))).trans But.upd
  have p3 : (upd (upd H2 row (.lst (itV as))) p (.ins C dx (putF "row" (.ref row) [("flow", .ref fl), ("width", .int (wn : Nat))]))) p = some (.ins C dx [("flow", .ref fl), ("width", .int (wn : Nat)), ("row", .ref row)]) := upd_same
  have r3 : (upd (upd H2 row (.lst (itV as))) p (.ins C dx (putF "row" (.ref row) [("flow", .ref fl), ("width", .int (wn : Nat))]))) row = some (.lst (itV as)) := by rw [upd_ne nrp, upd_same]
  have nrowH := fr_but b2 nrp nrow
  generalize upd (upd H2 row (.lst (itV as))) p (.ins C dx (putF "row" (.ref row) [("flow", .ref fl), ("width", .int (wn : Nat))])) = H3 at b3 p3 r3 ⊢
  refine ⟨_, rfl, _, rfl, p, C, dx, _, rfl, p3, T.cl, T.n _ (by simp), (by show 3 < 1000; decide), ?_⟩
  refine ⟨_, rfl, _, rfl, p, C, dx, _, rfl, upd_same, T.cl, T.n _ (by simp), (by show 4 < 1000; decide), ?_⟩
  rw [upd_upd]
  have b3' : But p H (upd H3 p (.ins C dx (putF "given" gv (putF "start" st [("flow", .ref fl), ("width", .int (wn : Nat)), ("row", .ref row)])))) := b3.trans But.upd
  have p3' : (upd H3 p (.ins C dx (putF "given" gv (putF "start" st [("flow", .ref fl), ("width", .int (wn : Nat)), ("row", .ref row)])))) p = some (.ins C dx [("flow", .ref fl), ("width", .int (wn : Nat)), ("row", .ref row), ("start", st), ("given", gv)]) := upd_same
  have r3' : (upd H3 p (.ins C dx (putF "given" gv (putF "start" st [("flow", .ref fl), ("width", .int (wn : Nat)), ("row", .ref row)])))) row = some (.lst (itV as)) := by rw [upd_ne nrp]; exact r3
  generalize upd H3 p (.ins C dx (putF "given" gv (putF "start" st [("flow", .ref fl), ("width", .int (wn : Nat)), ("row", .ref row)]))) = H3' at b3' p3' r3' ⊢
  refine fun en nen => ⟨_, rfl, p, C, dx, _, rfl, (new_same nen) _ _ p3', T.cl, T.n _ (by simp), (by show 5 < 1000; decide), ?_⟩
  have nep : en ≠ p := (ne_of_none p3' nen).symm
  refine ⟨_, rfl, _, rfl, p, C, dx, _, rfl, upd_same, T.cl, T.n _ (by simp), (by show 6 < 1000; decide), ?_⟩
  rw [upd_upd]
  have b4 : But p H (upd (upd H3' en (.dK [])) p (.ins C dx (putF "place" st (putF "noted" (.ref en) [("flow", .ref fl), ("width", .int (wn : Nat)), ("row", .ref row), ("start", st), ("given", gv)])))) := (b3'.trans (Same.but (new_same nen))).trans But.upd
  have p4 : (upd (upd H3' en (.dK [])) p (.ins C dx (putF "place" st (putF "noted" (.ref en) [("flow", .ref fl), ("width", .int (wn : Nat)), ("row", .ref row), ("start", st), ("given", gv)])))) p = some (.ins C dx (pf7 fl wn row st gv en)) := upd_same
  have r4 : (upd (upd H3' en (.dK [])) p (.ins C dx (putF "place" st (putF "noted" (.ref en) [("flow", .ref fl), ("width", .int (wn : Nat)), ("row", .ref row), ("start", st), ("given", gv)])))) row = some (.lst (itV as)) := by rw [upd_ne nrp]; exact (new_same nen) _ _ r3'
  have d4 : (upd (upd H3' en (.dK [])) p (.ins C dx (putF "place" st (putF "noted" (.ref en) [("flow", .ref fl), ("width", .int (wn : Nat)), ("row", .ref row), ("start", st), ("given", gv)])))) en = some (.dK []) := by rw [upd_ne nep, upd_same]
  generalize upd (upd H3' en (.dK [])) p (.ins C dx (putF "place" st (putF "noted" (.ref en) [("flow", .ref fl), ("width", .int (wn : Nat)), ("row", .ref row), ("start", st), ("given", gv)]))) = H4 at b4 p4 r4 d4 ⊢
  refine ⟨_, rfl, p, C, dx, _, rfl, p4, T.cl, T.n _ (by simp), (by show 7 < 1000; decide), ?_⟩
  refine ⟨_, rfl, p, C, dx, _, rfl, upd_same, T.cl, T.n _ (by simp), (by show 8 < 1000; decide), ?_⟩
  refine ⟨_, rfl, p, C, dx, _, rfl, upd_same, T.cl, T.n _ (by simp), (by show 9 < 1000; decide), ?_⟩
  refine ⟨_, rfl, p, C, dx, _, rfl, upd_same, T.cl, T.n _ (by simp), (by show 10 < 1000; decide), ?_⟩
  refine ⟨_, rfl, p, C, dx, _, rfl, upd_same, T.cl, T.n _ (by simp), (by show 11 < 1000; decide), ?_⟩
  refine ⟨_, rfl, p, C, dx, _, rfl, upd_same, T.cl, T.n _ (by simp), (by show 12 < 1000; decide), ?_⟩
  refine ⟨_, rfl, _, rfl, p, C, dx, _, rfl, upd_same, T.cl, T.n _ (by simp), (by show 13 < 1000; decide), ?_⟩
  rw [upd_upd, upd_upd, upd_upd, upd_upd, upd_upd, upd_upd]
  have e5 : (putF "loop" (.int (-1)) (putF "at" (.int 0) (putF "ended" .non (putF "compares" (.int 0) (putF "told" .non (putF "mate" .non (putF "hand" .non (pf7 fl wn row st gv en)))))))) = (pf14 fl wn row st gv en []) := rfl
  rw [e5]
  have b5 : But p H (upd H4 p (.ins C dx (pf14 fl wn row st gv en []))) := b4.trans But.upd
  have p5 : (upd H4 p (.ins C dx (pf14 fl wn row st gv en []))) p = some (.ins C dx (pf14 fl wn row st gv en [])) := upd_same
  have r5 : (upd H4 p (.ins C dx (pf14 fl wn row st gv en []))) row = some (.lst (itV as)) := by rw [upd_ne nrp]; exact r4
  have d5 : (upd H4 p (.ins C dx (pf14 fl wn row st gv en []))) en = some (.dK []) := by rw [upd_ne nep]; exact d4
  generalize upd H4 p (.ins C dx (pf14 fl wn row st gv en [])) = H5 at b5 p5 r5 d5 ⊢
  -- met
  refine ⟨Nat.zero_le _, fun met nmet => ⟨_, rfl, p, C, dx, _, rfl, (new_same nmet) _ _ p5, T.cl, T.n _ (by simp), (by show 14 < 1000; decide), ?_⟩⟩
  have e6 : putF "met" (.ref met) (pf14 fl wn row st gv en []) = pf14 fl wn row st gv en [("met", .ref met)] := rfl
  rw [e6]
  have b6 : But p H (upd (upd H5 met (.lst [])) p (.ins C dx (pf14 fl wn row st gv en [("met", .ref met)]))) := (b5.trans (Same.but (new_same nmet))).trans But.upd
  have p6 : (upd (upd H5 met (.lst [])) p (.ins C dx (pf14 fl wn row st gv en [("met", .ref met)]))) p = some (.ins C dx (pf14 fl wn row st gv en [("met", .ref met)])) := upd_same
  have r6 : (upd (upd H5 met (.lst [])) p (.ins C dx (pf14 fl wn row st gv en [("met", .ref met)]))) row = some (.lst (itV as)) := by rw [upd_ne nrp]; exact (new_same nmet) _ _ r5
  have d6 : (upd (upd H5 met (.lst [])) p (.ins C dx (pf14 fl wn row st gv en [("met", .ref met)]))) en = some (.dK []) := by rw [upd_ne nep]; exact (new_same nmet) _ _ d5
  generalize upd (upd H5 met (.lst [])) p (.ins C dx (pf14 fl wn row st gv en [("met", .ref met)])) = H6 at b6 p6 r6 d6 ⊢
  -- used
  refine fun us nus => ⟨_, rfl, p, C, dx, _, rfl, (new_same nus) _ _ p6, T.cl, T.n _ (by simp), (by show 15 < 1000; decide), ?_⟩
  have nup : us ≠ p := (ne_of_none p6 nus).symm
  have nusH := fr_but b6 nup nus
  have e7 : putF "used" (.ref us) (pf14 fl wn row st gv en [("met", .ref met)]) = pf14 fl wn row st gv en [("met", .ref met), ("used", .ref us)] := rfl
  rw [e7]
  have b7 : But p H (upd (upd H6 us (.dK [])) p (.ins C dx (pf14 fl wn row st gv en [("met", .ref met), ("used", .ref us)]))) := (b6.trans (Same.but (new_same nus))).trans But.upd
  have p7 : (upd (upd H6 us (.dK [])) p (.ins C dx (pf14 fl wn row st gv en [("met", .ref met), ("used", .ref us)]))) p = some (.ins C dx (pf14 fl wn row st gv en [("met", .ref met), ("used", .ref us)])) := upd_same
  have r7 : (upd (upd H6 us (.dK [])) p (.ins C dx (pf14 fl wn row st gv en [("met", .ref met), ("used", .ref us)]))) row = some (.lst (itV as)) := by rw [upd_ne nrp]; exact (new_same nus) _ _ r6
  have u7 : (upd (upd H6 us (.dK [])) p (.ins C dx (pf14 fl wn row st gv en [("met", .ref met), ("used", .ref us)]))) us = some (.dK []) := by rw [upd_ne nup, upd_same]
  have neus : en ≠ us := ne_of_none d6 nus
  have d7 : (upd (upd H6 us (.dK [])) p (.ins C dx (pf14 fl wn row st gv en [("met", .ref met), ("used", .ref us)]))) en = some (.dK []) := by rw [upd_ne nep]; exact (new_same nus) _ _ d6
  generalize upd (upd H6 us (.dK [])) p (.ins C dx (pf14 fl wn row st gv en [("met", .ref met), ("used", .ref us)])) = H7 at b7 p7 r7 u7 d7 ⊢
  -- sides_seen
  refine fun sd nsd => ⟨_, rfl, p, C, dx, _, rfl, (new_same nsd) _ _ p7, T.cl, T.n _ (by simp), (by show 16 < 1000; decide), ?_⟩
  have nsp : sd ≠ p := (ne_of_none p7 nsd).symm
  have e8 : putF "sides_seen" (.ref sd) (pf14 fl wn row st gv en [("met", .ref met), ("used", .ref us)]) = pf14 fl wn row st gv en [("met", .ref met), ("used", .ref us), ("sides_seen", .ref sd)] := rfl
  rw [e8]
  have b8 : But p H (upd (upd H7 sd (.dK [])) p (.ins C dx (pf14 fl wn row st gv en [("met", .ref met), ("used", .ref us), ("sides_seen", .ref sd)]))) := (b7.trans (Same.but (new_same nsd))).trans But.upd
  have p8 : (upd (upd H7 sd (.dK [])) p (.ins C dx (pf14 fl wn row st gv en [("met", .ref met), ("used", .ref us), ("sides_seen", .ref sd)]))) p = some (.ins C dx (pf14 fl wn row st gv en [("met", .ref met), ("used", .ref us), ("sides_seen", .ref sd)])) := upd_same
  have r8 : (upd (upd H7 sd (.dK [])) p (.ins C dx (pf14 fl wn row st gv en [("met", .ref met), ("used", .ref us), ("sides_seen", .ref sd)]))) row = some (.lst (itV as)) := by rw [upd_ne nrp]; exact (new_same nsd) _ _ r7
  have u8 : (upd (upd H7 sd (.dK [])) p (.ins C dx (pf14 fl wn row st gv en [("met", .ref met), ("used", .ref us), ("sides_seen", .ref sd)]))) us = some (.dK []) := by rw [upd_ne nup]; exact (new_same nsd) _ _ u7
  have v8 : (upd (upd H7 sd (.dK [])) p (.ins C dx (pf14 fl wn row st gv en [("met", .ref met), ("used", .ref us), ("sides_seen", .ref sd)]))) sd = some (.dK []) := by rw [upd_ne nsp, upd_same]
  have nus_sd : us ≠ sd := ne_of_none u7 nsd
  have d8 : (upd (upd H7 sd (.dK [])) p (.ins C dx (pf14 fl wn row st gv en [("met", .ref met), ("used", .ref us), ("sides_seen", .ref sd)]))) en = some (.dK []) := by rw [upd_ne nep]; exact (new_same nsd) _ _ d7
  generalize upd (upd H7 sd (.dK [])) p (.ins C dx (pf14 fl wn row st gv en [("met", .ref met), ("used", .ref us), ("sides_seen", .ref sd)])) = H8 at b8 p8 r8 u8 v8 d8 ⊢
  -- stations_met
  refine ⟨Nat.zero_le _, fun sm nsm => ⟨_, rfl, p, C, dx, _, rfl, (new_same nsm) _ _ p8, T.cl, T.n _ (by simp), (by show 17 < 1000; decide), ?_⟩⟩
  have nmp : sm ≠ p := (ne_of_none p8 nsm).symm
  exact q _ row en met us sd sm ((b8.trans (Same.but (new_same nsm))).trans But.upd) upd_same (by rw [upd_ne nrp]; exact (new_same nsm) _ _ r8) (by rw [upd_ne nep]; exact (new_same nsm) _ _ d8) (by rw [upd_ne nup]; exact (new_same nsm) _ _ u8) (by rw [upd_ne nsp]; exact (new_same nsm) _ _ v8) (by rw [upd_ne nmp, upd_same]) nrowH nusH nus_sd neus
end
end H2
namespace H2
open PySem PySem.Spec PyProof.Rows L2 Hx Nd Dun
section
variable {P : Program} {w : World} {K : PySem.W.Frag} {mg : Str → Option Value} {base : Heap} {D : Addr}
/-! ### a play that tells -/
theorem ix_kd {X : Cx} {d : Addr} {es : Array DictEntry} {n : Nat} (D : KDict X.K X.w d es n) :
    IxR X (fun x y H Q => ∃ (z : Str) (u0 : Value) (v0 : V), x = .ref d ∧ y = .str z ∧ PySem.W.nsIn X.K d z = some (some u0) ∧ RelV v0 u0 ∧ Q v0 H) := by
  intro value slice pins s σ H x y v u Q I rx ry h hs
  have h' := op_item_kd D pins s σ H x y v u Q I rx ry h
  obtain ⟨z, u0, v0, rfl, rfl, e, r, q⟩ := h
  cases rx
  exact tail_any (kd_type D I) slot_dict_getitem.lookup h' hs
theorem pvL {T : Prop} (h : T) : T := h
def spItm (C : Addr) : Sp := fun vs H Q _ => ∃ (p dx row : Addr) (fs : List (Str × V)) (as : List Addr) (i : Nat), vs = [.ref p, .int (i : Int)] ∧ H p = some (.ins C dx fs) ∧ fs.lookup ("row" : Str) = some (V.ref row) ∧ H row = some (.lst (itV as)) ∧ as.length ≤ 900 ∧ (∀ a, as[i]? = some a → Q (.ref a) H) ∧ (as[i]? = none → Q .non H)
theorem ok_itm {C : Addr} {m : Nat → Addr} (T : PlT K mg C m) (len : mg "len" = none) : ∃ fd, Fun K "item" "Player.item" s_Player_item (m 1) fd ∧ Binds K fd ["self", "place"] [] ∧ FnOk P w K mg base CX0 1 (m 1) fd ["self", "place"] (spItm C) := by
  obtain ⟨fd, F, b⟩ := T.f1.fn
  refine ⟨fd, F, b, F.ok c_Player_item (fun vs H Q E h => ?_) (fun cdv A outer s H vs Q E hr h => ?_)⟩
  · obtain ⟨p, dx, row, fs, as, i, rfl, _⟩ := h
    rfl
  obtain ⟨p, dx, row, fs, as, i, rfl, hp, hf, hrow, hn, q1, q2⟩ := h
  refine ⟨_, pss_cons (ps_if (PW.pt (pw_or (pt_cmp (pc_isN (pv 1))) (pw_or1 (pt_cmpR op_ge (pv 1) (pe_callB call_len_seq (by rfl) len PySem.boot_len (pa_cons (pe_fld (pv 0) rfl) pa_nil)) (nomark _))))) (pss_one (ps_ret pe_non)) pss_nil) <|
    pss_one (ps_ret (pe_ix ix_list (pe_fld (pv 0) rfl) (pv 1) (fun _ _ => rfl))), ?_⟩
  have hlen : (itV as).length = as.length := by unfold itV; rw [List.length_map]
  refine ⟨_, rfl, _, rfl, iteBF (decide_eq_false (by intro z; cases z)) ?_⟩
  refine ⟨_, rfl, _, rfl, p, C, dx, fs, _, rfl, hp, T.cl, T.n _ (by simp), hf, row, _, rfl, .inl (SqL.of hrow), _, _, rfl, rfl, _, rfl, ?_⟩
  rw [hlen]
  refine iteB (fun h1 => ?_) (fun h1 => ?_)
  · have := of_decide_eq_true h1
    exact q2 (List.getElem?_eq_none (by omega))
  · have := of_decide_eq_false h1
    have hi : i < as.length := by omega
    refine ⟨_, rfl, p, C, dx, fs, _, rfl, hp, T.cl, T.n _ (by simp), hf, _, rfl, row, _, _, _, rfl, rfl, SqL.of hrow, at_of (j := i) rfl (by unfold itV; rw [List.getElem?_map, List.getElem?_eq_getElem hi]; rfl), ?_⟩
    exact q1 _ (List.getElem?_eq_getElem hi)
def spTell (C : Addr) : Sp := fun vs H Q _ => ∃ (p dx r fl row en met us sd sm : Addr) (w i : Nat) (gv : V) (as : List Addr), vs = [.ref p, .ref r] ∧ H p = some (.ins C dx (plF fl w row (.int (i : Int)) gv en .non .non 0 met us sd sm)) ∧ H row = some (.lst (itV as)) ∧ as.length ≤ 900 ∧
  (∀ a, as[i]? = some a → Q (.bl true) (upd H p (.ins C dx (plF fl w row (.int (i : Int)) gv en (.ref a) .non 0 met us sd sm)))) ∧ (as[i]? = none → Q (.bl false) H)
theorem ok_tell {C f : Addr} {m : Nat → Addr} (T : PlT K mg C m) (T0 : ∃ fd, Fun K "tell" "tell" s_tell f fd ∧ Binds K fd ["player", "row"] []) {gd : FuncData} (bI : Binds K gd ["self", "place"] []) (GI : FnOk P w K mg base CX0 1 (m 1) gd ["self", "place"] (spItm C)) :
    ∃ fd, Fun K "tell" "tell" s_tell f fd ∧ Binds K fd ["player", "row"] [] ∧ FnOk P w K mg base CX0 2 f fd ["player", "row"] (spTell C) := by
  obtain ⟨fd, F, b⟩ := T0
  refine ⟨fd, F, b, F.ok c_tell (fun vs H Q E h => ?_) (fun cdv A outer s H vs Q E hr h => ?_)⟩
  · obtain ⟨p, dx, r, fl, row, en, met, us, sd, sm, w, i, gv, as, rfl, _⟩ := h
    rfl
  obtain ⟨p, dx, r, fl, row, en, met, us, sd, sm, wn, i, gv, as, rfl, hp, hrow, hn, q1, q2⟩ := h
  refine ⟨_, pss_cons (ps_set (i := 2) c_tell.nd rfl (Or.inl rfl) (pe_meth (pv 0) T.cl T.f1.m GI hr bI .nil pass0 (pa_cons (pe_fld (pv 0) rfl) pa_nil))) <| pss_cons (ps_if (pt_cmp (pc_isN (pv 2))) (pss_one (ps_ret pe_bl)) pss_nil) <| pss_cons (ps_fld (pv 0) (pv 2) rfl) <| pss_one (ps_ret pe_bl), ?_⟩
  refine ⟨_, rfl, p, dx, _, rfl, hp, rfl, _, rfl, p, C, dx, _, _, rfl, hp, T.cl, T.n _ (by simp), rfl, p, dx, row, _, as, i, rfl, hp, rfl, hrow, hn, fun a ha => ?_, fun ha => ?_⟩
  · exact ⟨_, rfl, _, rfl, iteBF (decide_eq_false (by intro z; cases z)) ⟨_, rfl, _, rfl, p, C, dx, _, rfl, hp, T.cl, T.n _ (by simp), (by show 18 < 1000; decide), q1 a ha⟩⟩
  · exact ⟨_, rfl, _, rfl, iteBT (by decide) (q2 ha)⟩
structure ActT (K : PySem.W.Frag) (w : World) (mg : Str → Option Value) (d ft : Addr) : Prop where
  g : mg "ACTIONS" = some (.ref d)
  kd : ∃ es n, KDict K w d es n
  te : PySem.W.nsIn K d "tell" = some (some (.ref ft))
  kp : PySem.W.keepIn K (.ref ft) = true
/-- what a step or a run leaves -/
def Done (C : Addr) (H H' : Hp) (p dx fl row en met us sd sm : Addr) (w i : Nat) (gv : V) (as : List Addr) (told ended : V) (at' : Int) : Prop := (∀ c o, c ≠ p → c ≠ us → H c = some o → H' c = some o) ∧ H' p = some (.ins C dx (plF fl w row (.int (i : Int)) gv en told ended at' met us sd sm)) ∧ H' us = some (.dK [(Sum.inl 1, .bl true)])
def spStep7 (K : PySem.W.Frag) (C CF CR : Addr) : Sp := fun vs H Q _ => ∃ (p dx r fl row en met us sd sm : Addr) (w i : Nat) (gv : V) (as : List Addr), vs = [.ref p, .ref r] ∧ H p = some (.ins C dx (plF fl w row (.int (i : Int)) gv en .non .non 0 met us sd sm)) ∧ H row = some (.lst (itV as)) ∧ as.length ≤ 900 ∧ H us = some (.dK []) ∧ RowAt K CR H r .tell ∧ FlowD K CF H fl r ∧
  (∀ a H', as[i]? = some a → Done C H H' p dx fl row en met us sd sm w i gv as (.ref a) .non 1 → Q .non H') ∧ (as[i]? = none → ∀ H', Done C H H' p dx fl row en met us sd sm w i gv as .non (.str "beyond") 0 → Q .non H')
theorem ok_step7 {C CF CR fI tt aL dA ft : Addr} {m mF : Nat → Addr} (T : PlT K mg C m) (TF : FlowT K mg CF mF) (R : RowT K mg CR fI tt) (cL : TupT K mg "LOOPS" aL loopsV) (AC : ActT K w mg dA ft) {td : FuncData} (bT : Binds K td ["player", "row"] []) (GT : FnOk P w K mg base CX0 2 ft td ["player", "row"] (spTell C)) :
    ∃ fd, Fun K "step" "Player.step" s_Player_step (m 5) fd ∧ Binds K fd ["self", "row"] [] ∧ FnOk P w K mg base CX0 3 (m 5) fd ["self", "row"] (spStep7 K C CF CR) := by
  obtain ⟨fd, F, b⟩ := T.f5.fn
  refine ⟨fd, F, b, F.ok c_Player_step (fun vs H Q E h => ?_) (fun cdv A outer s H vs Q E hr h => ?_)⟩
  · obtain ⟨p, dx, r, fl, row, en, met, us, sd, sm, w, i, gv, as, rfl, _⟩ := h
    rfl
  obtain ⟨p, dx, r, fl, row, en, met, us, sd, sm, wn, i, gv, as, rfl, hp, hrow, hn, hus, hr0, hfl, q1, q2⟩ := h
  obtain ⟨es, ne, kd⟩ := AC.kd
  refine ⟨_, pss_cons (ps_if (PW.pt (pw_and (pt_cmpR op_in_seq (pe_fld (pv 1) rfl) (pe_glob (v := .ref aL) rfl cL.g rfl) rfl) (pw_and1 (pt_not (pt_val pe_no))))) (pss_one ps_never) pss_nil) <|
    pss_cons (ps_dput (hu_of hr) (pe_fld (pv 0) rfl) (pe_op op_add (pe_fld (pv 0) rfl) pe_int) pe_bl rfl) <|
    pss_one (ps_if (pt_truth (pe_fld (pv 1) rfl) (by intro _; rfl)) (pss_one ps_never) (pss_one (ps_if (pt_cmpR op_eq (pe_fld (pv 1) rfl) pe_str (nomark _)) (pss_one ps_never) (pss_one (ps_if (pt_cmpR op_eq (pe_fld (pv 1) rfl) pe_str (nomark _)) (pss_one ps_never)
      (pss_cons (ps_set (i := 2) c_Player_step.nd rfl (Or.inl rfl) (pe_ix (ix_kd kd) (pe_glob (v := .ref dA) rfl AC.g rfl) (pe_fld (pv 1) rfl) (fun _ _ => rfl))) <|
       pss_one (ps_if (pt_val (pe_callL (i := 2) GT hr rfl (Or.inl rfl) AC.kp bT .nil pass0 (pa_cons (pv 0) (pa_cons (pv 1) pa_nil))))
         (pss_one (ps_fld (pv 0) (pe_ix ix_tup (pe_fld (pe_fld (pv 0) rfl) rfl) (pe_fld (pv 0) rfl) (fun _ _ => rfl)) rfl)) (pss_one (ps_fld (pv 0) pe_str rfl))))))))), ?_⟩
  obtain ⟨dxr, ttr, nu, er, _, ht⟩ := id hr0
  have ht := ht rfl
  have nrp : r ≠ p := fun z => by
    rw [z, hp] at er
    cases er
  refine ⟨_, rfl, r, CR, dxr, _, _, rfl, er, R.cl, R.nw, rfl, aL, _, rfl, .inr (cL.s _), rfl, rfl, _, rfl, iteBF (by decide +kernel) (iteF ?_)⟩
  refine ⟨_, rfl, p, C, dx, _, _, rfl, hp, T.cl, T.n _ (by simp), rfl, _, rfl, p, C, dx, _, _, rfl, hp, T.cl, T.n _ (by simp), rfl, _, _, rfl, rfl, us, _, rfl, DPut.k (k := Sum.inl 1) hus (by show 0 < sizeLine; decide), ?_⟩
  have nup : us ≠ p := ne_of hus hp (by intro z; cases z)
  have nur : us ≠ r := ne_of hus er (by intro z; cases z)
  have nurow : us ≠ row := ne_of hus hrow (by intro z; cases z)
  have k1 : ∀ c o, c ≠ us → H c = some o → (upd H us (.dK (putK [] (Sum.inl 1) (.bl true)))) c = some o := fun c o n z => by rw [upd_ne n]; exact z
  have k2 : (upd H us (.dK (putK [] (Sum.inl 1) (.bl true)))) us = some (.dK [(Sum.inl 1, .bl true)]) := upd_same
  have ht1 : SqT K (upd H us (.dK (putK [] (Sum.inl 1) (.bl true)))) ttr [] := sqt_tups (Nd.Tups.upd fun xs z => by
    rcases z with z | ⟨o, z⟩ <;> (rw [hus] at z; cases z)) ht
  have hfl1 : FlowD K CF (upd H us (.dK (putK [] (Sum.inl 1) (.bl true)))) fl r := by
    obtain ⟨dxf, fs, tr, ta, tb, f1, f2, f3, f4, f5, f6, f7, f8⟩ := hfl
    have tu : Nd.Tups H (upd H us (.dK (putK [] (Sum.inl 1) (.bl true)))) := Nd.Tups.upd fun xs z => by
      rcases z with z | ⟨o, z⟩ <;> (rw [hus] at z; cases z)
    exact ⟨dxf, fs, tr, ta, tb, k1 _ _ (ne_of f1 hus (by intro z; cases z)) f1, f2, f3, f4, f5, sqt_tups tu f6, sqt_tups tu f7, sqt_tups tu f8⟩
  generalize upd H us (.dK (putK [] (Sum.inl 1) (.bl true))) = H1 at k1 k2 ht1 hfl1 ⊢
  have er1 := k1 _ _ nur.symm er
  have hp1 := k1 _ _ nup.symm hp
  have hrow1 := k1 _ _ nurow.symm hrow
  refine ⟨_, rfl, r, CR, dxr, _, _, rfl, er1, R.cl, R.nt, rfl, false, .inr (.inl ⟨_, ht1, rfl⟩), iteF ?_⟩
  refine ⟨_, rfl, r, CR, dxr, _, _, rfl, er1, R.cl, R.nw, rfl, rfl, _, rfl, iteBF (by decide +kernel) ?_⟩
  refine ⟨_, rfl, r, CR, dxr, _, _, rfl, er1, R.cl, R.nw, rfl, rfl, _, rfl, iteBF (by decide +kernel) ?_⟩
  refine ⟨_, rfl, r, CR, dxr, _, _, rfl, er1, R.cl, R.nw, rfl, "tell", .ref ft, .ref ft, rfl, rfl, AC.te, rfl, ?_⟩
  refine ⟨rfl, _, rfl, _, rfl, p, dx, r, fl, row, en, met, us, sd, sm, wn, i, gv, as, rfl, hp1, hrow1, hn, fun a ha => ⟨true, rfl, iteT ?_⟩, fun ha => ⟨false, rfl, iteF ?_⟩⟩
  · obtain ⟨dxf, fs, tr, ta, tb, f1, f2, f3, f4, f5, f6, f7, f8⟩ := hfl1
    have nfp : fl ≠ p := fun z => by
      rw [z, hp1] at f1
      cases f1
      cases f2
    have ha2 := sqt_insT (o := .ins C dx (plF fl wn row (.int (i : Int)) gv en (.ref a) .non 0 met us sd sm)) hp1 f7
    refine ⟨_, rfl, p, C, dx, _, _, rfl, upd_same, T.cl, T.n _ (by simp), rfl, fl, CF, dxf, fs, _, rfl, by rw [upd_ne nfp]; exact f1, TF.cl, TF.na, f4, _, rfl, p, C, dx, _, _, rfl, upd_same, T.cl, T.n _ (by simp), rfl, ta, _, _, _, rfl, rfl, ha2, rfl, ?_⟩
    refine ⟨_, rfl, p, C, dx, _, rfl, upd_same, T.cl, T.n _ (by simp), (by show 18 < 1000; decide), ?_⟩
    rw [upd_upd]
    refine q1 a _ ha ⟨fun c o n1 n2 z => by rw [upd_ne n1]; exact k1 _ _ n2 z, upd_same, by rw [upd_ne nup]; exact k2⟩
  · refine ⟨_, rfl, p, C, dx, _, rfl, hp1, T.cl, T.n _ (by simp), (by show 18 < 1000; decide), ?_⟩
    exact q2 ha _ ⟨fun c o n1 n2 z => by rw [upd_ne n1]; exact k1 _ _ n2 z, upd_same, by rw [upd_ne nup]; exact k2⟩
end
end H2
namespace H2
open PySem PySem.Spec PyProof.Rows L2 Hx Nd Dun
section
variable {P : Program} {w : World} {K : PySem.W.Frag} {mg : Str → Option Value} {base : Heap} {D : Addr}
def muR (p : Addr) (G : Hp) : Nat := match G p with
  | some (.ins _ _ fs) => if fs.lookup ("ended" : Str) = some V.non then (if fs.lookup ("at" : Str) = some (V.int 0) then 2 else 1) else 0
  | _ => 0
def RunEnd (as : List Addr) (i : Nat) (told ended : V) : Prop := (∃ a, as[i]? = some a ∧ told = .ref a ∧ ended = .str "done") ∨ (as[i]? = none ∧ told = .non ∧ ended = .str "beyond")
def spRun7 (K : PySem.W.Frag) (C CF CR : Addr) : Sp := fun vs H Q _ => ∃ (p dx r fl row en met us sd sm : Addr) (w i : Nat) (gv : V) (as : List Addr), vs = [.ref p] ∧ H p = some (.ins C dx (plF fl w row (.int (i : Int)) gv en .non .non 0 met us sd sm)) ∧ H row = some (.lst (itV as)) ∧ as.length ≤ 900 ∧ H us = some (.dK []) ∧ RowAt K CR H r .tell ∧ FlowD K CF H fl r ∧
  ∀ H' told ended at', RunEnd as i told ended → Done C H H' p dx fl row en met us sd sm w i gv as told ended at' → Q .non H'
theorem FlowD.upd2 {CF fl r p us C dx : Addr} {H H' : Hp} {fs : List (Str × V)} (h : FlowD K CF H fl r) (s : ∀ c o, c ≠ p → c ≠ us → H c = some o → H' c = some o) (hp : H p = some (.ins C dx fs)) (hus : H us = some (.dK [])) (hfp : fs.lookup ("rows" : Str) = none) : FlowD K CF H' fl r := by
  obtain ⟨dxf, gs, tr, ta, tb, f1, f2, f3, f4, f5, f6, f7, f8⟩ := h
  have tu : Nd.Tups H H' := fun b xs z => by
    rcases z with z | ⟨o, z⟩
    · exact .inl (s _ _ (ne_of z hp (by intro z; cases z)) (ne_of z hus (by intro z; cases z)) z)
    · exact .inr ⟨o, s _ _ (ne_of z hp (by intro z; cases z)) (ne_of z hus (by intro z; cases z)) z⟩
  have nfp : fl ≠ p := fun z => by
    rw [z, hp] at f1
    cases f1
    rw [hfp] at f2
    cases f2
  exact ⟨dxf, gs, tr, ta, tb, s _ _ nfp (ne_of f1 hus (by intro z; cases z)) f1, f2, f3, f4, f5, sqt_tups tu f6, sqt_tups tu f7, sqt_tups tu f8⟩
theorem ok_run7 {C CF CR : Addr} {m mF : Nat → Addr} (T : PlT K mg C m) (TF : FlowT K mg CF mF) {sd' : FuncData} (bS : Binds K sd' ["self", "row"] []) (GS : FnOk P w K mg base CX0 3 (m 5) sd' ["self", "row"] (spStep7 K C CF CR)) :
    ∃ fd, Fun K "run" "Player.run" s_Player_run (m 4) fd ∧ Binds K fd ["self"] [] ∧ FnOk P w K mg base CX0 4 (m 4) fd ["self"] (spRun7 K C CF CR) := by
  obtain ⟨fd, F, b⟩ := T.f4.fn
  refine ⟨fd, F, b, F.ok c_Player_run (fun vs H Q E h => ?_) (fun cdv A outer s H vs Q E hr h => ?_)⟩
  · obtain ⟨p, dx, r, fl, row, en, met, us, sd, sm, w, i, gv, as, rfl, _⟩ := h
    rfl
  obtain ⟨p, dx, r, fl, row, en, met, us, sd, sm, wn, i, gv, as, rfl, hp, hrow, hn, hus, hr0, hfl, q⟩ := h
  refine ⟨_, pss_one (ps_while PassesOwn.never (pt_cmp (pc_isN (pe_fld (pv 0) rfl)))
    (pss_one (ps_if (pt_cmpR op_eq (pe_fld (pv 0) rfl) (pe_fld (pe_fld (pv 0) rfl) rfl) (nomark _)) (pss_one (ps_fld (pv 0) pe_str rfl))
      (pss_one (ps_expr (pe_meth (pv 0) T.cl T.f5.m GS hr bS .nil pass0 (pa_cons (pe_ix ix_tup (pe_fld (pe_fld (pv 0) rfl) rfl) (pe_fld (pv 0) rfl) (fun _ _ => rfl)) pa_nil))))))), ?_⟩
  refine while_by (fun σ G => σ = [some (.ref p)] ∧ (G = H ∨ (∃ a, as[i]? = some a ∧ Done C H G p dx fl row en met us sd sm wn i gv as (.ref a) .non 1) ∨ ∃ told ended at', RunEnd as i told ended ∧ Done C H G p dx fl row en met us sd sm wn i gv as told ended at')) (fun _ G => muR p G) ⟨rfl, .inl rfl⟩ ?_ ?_
  · rintro σ G ⟨rfl, hG⟩
    rcases hG with rfl | ⟨a, ha, s1, hp1, hus1⟩ | ⟨told, ended, at', hend, hdone⟩
    · obtain ⟨dxf, fs, tr, ta, tb, f1, f2, f3, f4, f5, f6, f7, f8⟩ := id hfl
      refine ⟨_, rfl, p, C, dx, _, _, rfl, hp, T.cl, T.n _ (by simp), rfl, _, rfl, iteBT (by decide) ?_⟩
      refine ⟨_, rfl, p, C, dx, _, _, rfl, hp, T.cl, T.n _ (by simp), rfl, _, rfl, p, C, dx, _, _, rfl, hp, T.cl, T.n _ (by simp), rfl, fl, CF, dxf, fs, _, rfl, f1, TF.cl, TF.nz, f3, rfl, _, rfl, iteBF (by decide) ?_⟩
      refine ⟨_, rfl, p, dx, _, rfl, hp, rfl, _, rfl, p, C, dx, _, _, rfl, hp, T.cl, T.n _ (by simp), rfl, fl, CF, dxf, fs, _, rfl, f1, TF.cl, TF.nr, f2, _, rfl, p, C, dx, _, _, rfl, hp, T.cl, T.n _ (by simp), rfl, tr, _, _, _, rfl, rfl, f6, rfl, ?_⟩
      have mu0 : muR p G = 2 := by unfold muR; rw [hp]; rfl
      refine ⟨p, dx, r, fl, row, en, met, us, sd, sm, wn, i, gv, as, rfl, hp, hrow, hn, hus, hr0, hfl, fun a H' ha hd => ⟨⟨rfl, .inr (.inl ⟨a, ha, hd⟩)⟩, ?_⟩, fun ha H' hd => ⟨⟨rfl, .inr (.inr ⟨_, _, _, .inr ⟨ha, rfl, rfl⟩, hd⟩)⟩, ?_⟩⟩
      · rw [mu0]
        have : muR p H' = 1 := by unfold muR; rw [hd.2.1]; rfl
        rw [this]
        decide
      · rw [mu0]
        have : muR p H' = 0 := by unfold muR; rw [hd.2.1]; rfl
        rw [this]
        decide
    · have hfl1 := hfl.upd2 s1 hp hus rfl
      obtain ⟨dxf, fs, tr, ta, tb, f1, f2, f3, f4, f5, f6, f7, f8⟩ := hfl1
      refine ⟨_, rfl, p, C, dx, _, _, rfl, hp1, T.cl, T.n _ (by simp), rfl, _, rfl, iteBT (by decide) ?_⟩
      refine ⟨_, rfl, p, C, dx, _, _, rfl, hp1, T.cl, T.n _ (by simp), rfl, _, rfl, p, C, dx, _, _, rfl, hp1, T.cl, T.n _ (by simp), rfl, fl, CF, dxf, fs, _, rfl, f1, TF.cl, TF.nz, f3, rfl, _, rfl, iteBT (by decide) ?_⟩
      refine ⟨_, rfl, p, C, dx, _, rfl, hp1, T.cl, T.n _ (by simp), (by show 18 < 1000; decide), ⟨rfl, .inr (.inr ⟨.ref a, .str "done", 1, .inl ⟨a, ha, rfl, rfl⟩, ?_⟩)⟩, ?_⟩
      · exact ⟨fun c o n1 n2 z => by rw [upd_ne n1]; exact s1 _ _ n1 n2 z, upd_same, by rw [upd_ne (ne_of hus hp (by intro z; cases z))]; exact hus1⟩
      · have m1 : muR p G = 1 := by unfold muR; rw [hp1]; rfl
        rw [m1]
        have : ∀ o, o = HO.ins C dx (plF fl wn row (.int (i : Int)) gv en (.ref a) (.str "done") 1 met us sd sm) → muR p (upd G p o) = 0 := fun o ho => by unfold muR; rw [upd_same, ho]; rfl
        exact Nat.lt_of_le_of_lt (Nat.le_of_eq (this _ rfl)) (by decide)
    · obtain ⟨s1, hp1, hus1⟩ := id hdone
      refine ⟨_, rfl, p, C, dx, _, _, rfl, hp1, T.cl, T.n _ (by simp), rfl, _, rfl, iteBF ?_ ?_⟩
      · rcases hend with ⟨a, _, _, rfl⟩ | ⟨_, _, rfl⟩ <;> decide
      · exact q G told ended at' hend hdone
  · rintro σ G Q1 Q2 h ⟨x1, e1, a1, C1, dx1, fs1, v1, e3, e4, c1, n1, lk, b, e5, hq⟩
    exact ⟨x1, e1, a1, C1, dx1, fs1, v1, e3, e4, c1, n1, lk, b, e5, h _ _ hq⟩
end
end H2
namespace H2
open PySem PySem.Spec PyProof.Rows L2 Hx Nd Dun
section
variable {P : Program} {w : World} {K : PySem.W.Frag} {mg : Str → Option Value} {base : Heap} {D : Addr}
/-! ### xs.remove(y), the items data -/
theorem vals_erase : ∀ {xs : List V} {us : List Value} (j : Nat), Vals xs us → Vals (xs.eraseIdx j) (us.eraseIdx j)
  | [], _, j, h => by
    cases h
    exact .nil
  | x :: xs, _, j, h => by
    cases h with
    | cons h1 h2 =>
      cases j with
      | zero => exact h2
      | succ j => exact .cons h1 (vals_erase j h2)
def rRemD (K : PySem.W.Frag) : V → List V → Hp → VK → Prop := fun x xs H Q => ∃ (l : Addr) (vs : List V) (y : V) (ds : List PyData) (d : PyData) (j : Nat), x = .ref l ∧ xs = [y] ∧ H l = some (.lst vs) ∧ DpAll K H vs ds ∧ Dp K H y d ∧ PyData.plainAll ds = true ∧ d.plain = true ∧ d.depth ≤ 60 ∧ SeqAt.dataPlace ds d = some j ∧ Q .non (upd H l (.lst (vs.eraseIdx j)))
theorem mt_removeD {X : Cx} (hu : X.A.units + 65 < cLine) : MtM X "list.remove" (rRemD X.K) := by
  intro pins s σ H x xs v us Q I rx rxs h
  obtain ⟨l, vs, y, ds, d, j, rfl, rfl, hl, hds, hd, hp1, hp2, hdp, hj, q⟩ := h
  cases (show v = Value.ref l from rx)
  cases rxs with
  | cons ry rn =>
    cases rn
    obtain ⟨its, n, hv, hg, hsz⟩ := I.lst hl
    obtain ⟨bs, r2⟩ := Dp.reads I d y _ hd ry
    obtain ⟨as, rs⟩ := Dp.readsAll I ds vs its hds hv
    have hlen : its.length = vs.length := hv.length.symm
    refine SeqAt.remove_list_data (vs := its.toArray) (as := as) ⟨_, hg, rfl, n, rfl⟩ (by rw [List.toList_toArray]; exact rs) r2 hp1 hp2 ?_ hj ?_ ?_
    · have : min (PyData.depthAll ds) d.depth ≤ 60 := Nat.le_trans (Nat.min_le_right _ _) hdp
      omega
    · rw [List.size_toArray, hlen]; exact hsz
    · refine ⟨.non, _, I.lset (its' := its.eraseIdx j) hl hg ?_ (vals_erase j hv) ?_, rfl, q⟩
      · simp
      · exact Nat.le_trans (List.length_eraseIdx_le _ _) hsz
end
end H2
namespace H2
open PySem PySem.Spec PyProof.Rows L2 Hx Nd Dun
section
variable {P : Program} {w : World} {K : PySem.W.Frag} {mg : Str → Option Value} {base : Heap} {D : Addr}
/-! ### the promises: tree_of, owed_items -/
abbrev psTO : List Str := ["start", "width", "count"]
def KeysIn (kvs : List (Key × V)) (s n : Nat) : Prop := ∀ kv ∈ kvs, ∃ j : Nat, kv.1 = Sum.inl (j : Int) ∧ s ≤ j ∧ j < n
def spTO : Sp := fun vs H Q _ => ∃ (s w n : Nat), vs = [.int (s : Int), .int (w : Int), .int (n : Int)] ∧ WdN w ∧ n ≤ 900 ∧ s < n ∧ ∀ H' d kvs, Same H H' → H' d = some (.dK kvs) → KeysIn kvs s n → kvs.length ≤ 1000 → Q (.ref d) H'
theorem ok_to {f g : Addr} (T0 : FT K mg "tree_of" s_tree_of psTO f) (rng : mg "range" = none) {gd : FuncData} (FP : Fun K "parent" "parent" s_parent g gd) (bP : Binds K gd psPW []) (mP : mg "parent" = some (.ref g)) (GP : FnOk P w K mg base CX0 1 g gd psPW spParent) :
    ∃ fd, Fun K "tree_of" "tree_of" s_tree_of f fd ∧ Binds K fd psTO [] ∧ FnOk P w K mg base CX0 2 f fd psTO spTO := by
  obtain ⟨fd, F, b⟩ := T0.fn
  refine ⟨fd, F, b, F.ok c_tree_of (fun vs H Q E h => ?_) (fun cdv A outer s H vs Q E hr h => ?_)⟩
  · obtain ⟨s, w, n, rfl, _⟩ := h
    rfl
  obtain ⟨st, wn, n, rfl, hw, hn, hsn, q⟩ := h
  refine ⟨_, pss_cons (ps_set (i := 3) c_tree_of.nd rfl (Or.inl rfl) (pe_disp (pps_cons (pv 0) pe_bl pps_nil) (by rfl) (by rfl) (fun z => by cases z) (by decide))) <|
    pss_cons (ps_for PassesOwn.never rfl (pi_range2 rfl rng (pa_cons (pe_op op_add (pv 0) pe_int) (pa_cons (pv 2) pa_nil))) (pg_name (i := 4) c_tree_of.nd rfl (Or.inl rfl))
      (pss_one (ps_if (pt_cmp (pc_din (hu_of hr) (pe_call GP hr rfl mP FP.kp bP .nil pass0 (pa_cons (pv 4) (pa_cons (pv 1) pa_nil))) (pv 3)))
        (pss_one (ps_dput (hu_of hr) (pv 3) (pv 4) pe_bl rfl)) pss_nil))) <|
    pss_one (ps_ret (pv 3)), ?_⟩
  intro d nd
  refine ⟨_, rfl, upd_same, [(Sum.inl (st : Int), .bl true)], rfl, (by show 1 ≤ 15; decide), ?_⟩
  have s0 : Same H (upd (upd H d (.dK [])) d (.dK (mergeK [] [(Sum.inl (st : Int), V.bl true)]))) := fun c o z => by
    rw [upd_upd]
    exact (new_same nd) _ _ z
  have ed0 : (upd (upd H d (.dK [])) d (.dK (mergeK [] [(Sum.inl (st : Int), V.bl true)]))) d = some (.dK [(Sum.inl (st : Int), .bl true)]) := upd_same
  generalize upd (upd H d (.dK [])) d (.dK (mergeK [] [(Sum.inl (st : Int), V.bl true)])) = G0 at s0 ed0 ⊢
  refine ⟨_, rfl, _, _, rfl, rfl, _, rfl, (st : Int) + 1, (n : Int), rfl, ⟨by omega, by omega, by omega, by omega⟩, ?_⟩
  refine for_range (lo := (st : Int) + 1) (n := ((n : Int) - ((st : Int) + 1)).toNat) (fun i σ G => Same H G ∧ (∃ kvs, G d = some (.dK kvs) ∧ kvs.length ≤ i + 1 ∧ KeysIn kvs st n) ∧ ∃ v4, σ = [some (.int (st : Int)), some (.int (wn : Int)), some (.int (n : Int)), some (.ref d), v4]) ⟨s0, ⟨_, ed0, Nat.le_refl _, fun kv h => ?_⟩, none, rfl⟩ ?_ ?_
  · rw [List.mem_singleton.mp h]
    exact ⟨st, rfl, Nat.le_refl _, hsn⟩
  · rintro i σ G hi ⟨sG, ⟨kvs, ed, hk, hv⟩, v4, rfl⟩
    have h1 : ((st : Int) + 1) + (i : Int) = ((st + 1 + i : Nat) : Int) := by omega
    rw [h1]
    refine ⟨_, rfl, _, rfl, st + 1 + i, wn, rfl, hw, ?_⟩
    rw [if_neg (by omega)]
    refine ⟨_, rfl, d, _, rfl, DGet.k (k := Sum.inl ((paN wn (st + 1 + i) : Nat) : Int)) ed, _, rfl, iteB (fun h2 => ?_) (fun h2 => ?_)⟩
    · refine ⟨_, rfl, _, rfl, d, _, rfl, DPut.k (k := Sum.inl ((st + 1 + i : Nat) : Int)) ed (big (by omega)), ?_⟩
      refine ⟨fun c o z => by rw [upd_ne (ne_of_none z nd)]; exact sG _ _ z, ⟨_, upd_same, Nat.le_trans put_len (by omega), fun kv h => ?_⟩, _, rfl⟩
      rcases mem_put h with h | h
      · exact hv kv h
      · rw [h]
        exact ⟨st + 1 + i, rfl, by omega, by omega⟩
    · exact ⟨sG, ⟨kvs, ed, by omega, hv⟩, _, rfl⟩
  · rintro σ G ⟨sG, ⟨kvs, ed, hk, hv⟩, v4, rfl⟩
    exact ⟨_, rfl, q G d kvs sG ed hv (by omega)⟩
/-- the objects are pairs of numbers -/
def ItP (H : Hp) (bs : List Addr) : Prop := ∀ b ∈ bs, ∃ k m : Int, H b = some (.tup [.int k, .int m])
theorem ItP.keep {H H' : Hp} {bs : List Addr} (h : ItP H bs) (e : Same H H') : ItP H' bs := fun b hb => by
  obtain ⟨k, m, h1⟩ := h b hb
  exact ⟨k, m, e _ _ h1⟩
theorem ItA.p {H : Hp} {as : List Addr} {its : List (Int × Int)} (h : ItA H as its) : ItP H as := fun b hb => by
  obtain ⟨i, hi⟩ := List.getElem?_of_mem hb
  obtain ⟨_, h2⟩ := h.get hi
  exact ⟨_, _, h2⟩
def mkH (H : Hp) (b : Addr) : Int := match H b with
  | some (.tup [_, .int m]) => m
  | _ => 0
def pD (H : Hp) (b : Addr) : PyData := .tuple [.int (kyH H b), .int (mkH H b)]
theorem pD_dp {H : Hp} {b : Addr} (h : ∃ k m : Int, H b = some (.tup [.int k, .int m])) : Dp K H (.ref b) (pD H b) := by
  obtain ⟨k, m, e⟩ := h
  have e1 : kyH H b = k := by unfold kyH; rw [e]
  have e2 : mkH H b = m := by unfold mkH; rw [e]
  unfold pD
  rw [e1, e2]
  exact .tup (SqT.of e) (.cons (.int k) (.cons (.int m) .nil))
theorem pD_all {H : Hp} : ∀ {bs : List Addr}, ItP H bs → DpAll K H (bs.map V.ref) (bs.map (pD H))
  | [], _ => .nil
  | b :: r, h => .cons (pD_dp (h b List.mem_cons_self)) (pD_all fun c hc => h c (List.mem_cons_of_mem _ hc))
theorem pD_lay {H : Hp} : ∀ bs : List Addr, PyData.canLayAll0 (bs.map (pD H)) = true ∧ PyData.depthAll (bs.map (pD H)) ≤ 1 ∧ PyData.plainAll (bs.map (pD H)) = true
  | [] => ⟨rfl, Nat.zero_le _, rfl⟩
  | b :: r => by
    obtain ⟨h1, h2, h3⟩ := pD_lay (H := H) r
    refine ⟨?_, ?_, ?_⟩
    · rw [List.map_cons, PyData.canLayAll0, h1, pD, PyData.canLay0, PyData.canLayAll0, PyData.canLayAll0, PyData.canLayAll0, PyData.canLay0, PyData.canLay0]
      rfl
    · rw [List.map_cons, PyData.depthAll]
      have : PyData.depth (pD H b) = 1 := rfl
      rw [this]
      exact Nat.max_le.mpr ⟨Nat.le_refl _, h2⟩
    · rw [List.map_cons, PyData.plainAll, h3]
      rfl
theorem pD_shaped {H : Hp} (bs : List Addr) : SeqAt.shaped (.list (bs.map (pD H))) = true := shaped_refs (pD_lay bs).1 (pD_lay bs).2.1
theorem pD_shape {H : Hp} (b : Addr) : SeqAt.shaped (pD H b) = true := by
  unfold SeqAt.shaped
  rw [Bool.and_eq_true]
  have e1 : (pD H b).depth = 1 := rfl
  refine ⟨?_, decide_eq_true (by rw [e1]; omega)⟩
  rw [pD, PyData.canLay0, PyData.canLayAll0, PyData.canLayAll0, PyData.canLayAll0, PyData.canLay0, PyData.canLay0]
  rfl
theorem pD_eqv {H : Hp} (b : Addr) : PyData.eqv (pD H b) (pD H b) = true := by
  simp [pD, PyData.eqv, PyData.eqvAll]
abbrev psOI : List Str := ["kind", "items", "given", "told"]
def GvOk (H : Hp) (gv : V) : Prop := gv = .non ∨ ∃ g k m, gv = .ref g ∧ H g = some (.tup [.int k, .int m])
def spOI (K : PySem.W.Frag) : Sp := fun vs H Q _ => ∃ (kd : Str) (l t : Addr) (as : List Addr) (gv : V), vs = [.str kd, .ref l, gv, .ref t] ∧ H l = some (.lst (itV as)) ∧ ItP H as ∧ as.length ≤ 900 ∧ t ∈ as ∧ GvOk H gv ∧
  ∀ H' r bs, Same H H' → H' r = some (.lst (bs.map V.ref)) → ItP H' bs → Q (.ref r) H'
theorem map_erase {α β : Type} (f : α → β) : ∀ (xs : List α) (j : Nat), (xs.map f).eraseIdx j = (xs.eraseIdx j).map f
  | [], _ => rfl
  | x :: xs, 0 => rfl
  | x :: xs, j + 1 => by
    rw [List.map_cons, List.eraseIdx_cons_succ, List.eraseIdx_cons_succ, List.map_cons, map_erase f xs j]
theorem ok_oi {f aT : Addr} (T0 : FT K mg "owed_items" s_owed_items psOI f) (lst : mg "list" = none) (srt : mg "sorted" = none) (cT : TupT K mg "WITH_TOLD" aT (toldW.map V.str)) :
    ∃ fd, Fun K "owed_items" "owed_items" s_owed_items f fd ∧ Binds K fd psOI [] ∧ FnOk P w K mg base CX0 1 f fd psOI (spOI K) := by
  obtain ⟨fd, F, b⟩ := T0.fn
  refine ⟨fd, F, b, F.ok c_owed_items (fun vs H Q E h => ?_) (fun cdv A outer s H vs Q E hr h => ?_)⟩
  · obtain ⟨kd, l, t, as, gv, rfl, _⟩ := h
    rfl
  obtain ⟨kd, l, t, as, gv, rfl, hl, hp, hn, hta, hg, q⟩ := h
  have hu := u65 hr
  refine ⟨_, Evl.pss_cut (ps_set (i := 4) c_owed_items.nd rfl (Or.inl rfl) (pe_ifExp (pt_cmp (pc_isN (pv 2))) (pe_callTy call_list_of (by rfl) lst (by decide +kernel) (pa_cons (pv 1) pa_nil)) (pe_op op_cat (pe_callTy call_list_of (by rfl) lst (by decide +kernel) (pa_cons (pv 1) pa_nil)) (pe_lst (pa_cons (pv 2) pa_nil))))) <|
    Evl.pss_cut (ps_if (pt_cmpR op_in_seq (pv 0) (pe_glob (v := .ref aT) rfl cT.g rfl) rfl)
      (pss_cons (ps_if (pt_cmpR (op_notInD hu) (pv 3) (pv 4) rfl) (pss_one ps_never) pss_nil) <|
       pss_one (ps_expr (pe_bm PySem.F.plainAttrs_list PySem.F.slot_list_remove PySem.F.type_list_remove (mt_removeD hu) (pv 4) (pa_cons (pv 3) pa_nil)))) pss_nil) <|
    pss_one (ps_ret (pe_callB cr_sortedP (by rfl) srt (by decide +kernel) (pa_cons (pv 4) pa_nil))), ?_⟩
  refine ⟨fun σ G => ∃ (wl : Addr) (bs : List Addr), σ = [some (.str kd), some (.ref l), some gv, some (.ref t), some (.ref wl)] ∧ Same H G ∧ H wl = none ∧ G wl = some (.lst (bs.map V.ref)) ∧ ItP G bs ∧ t ∈ bs, ?_, ?_⟩
  · rcases hg with rfl | ⟨g, k, m, rfl, eg⟩
    · refine ⟨_, rfl, _, rfl, iteBT (by decide) ?_⟩
      refine ⟨_, rfl, l, _, rfl, .inl (SqL.of hl), fun wl nwl => ?_⟩
      exact ⟨wl, as, rfl, new_same nwl, nwl, upd_same, hp.keep (new_same nwl), hta⟩
    · refine ⟨_, rfl, _, rfl, iteBF (decide_eq_false (by intro z; cases z)) ?_⟩
      refine ⟨_, rfl, l, _, rfl, .inl (SqL.of hl), fun w1 nw1 => ?_⟩
      refine ⟨_, rfl, (by show 1 ≤ sizeLine; decide), fun w2 nw2 => ?_⟩
      refine ⟨w1, w2, _, _, rfl, rfl, (new_same nw2) _ _ upd_same, upd_same, ?_, fun wl nwl => ?_⟩
      · unfold itV
        rw [List.length_map]
        exact Nat.le_of_lt (big (by show _ + 1 ≤ _; omega))
      · have s1 := new_same (o := .lst (itV as)) nw1
        have s2 := same_new (o := .lst [.ref g]) s1 nw2
        have s3 := same_new (o := .lst (itV as ++ [.ref g])) s2 nwl
        refine ⟨wl, as ++ [g], rfl, s3, free_same s2 nwl, ?_, fun b hb => ?_, List.mem_append_left _ hta⟩
        · rw [upd_same]
          unfold itV
          rw [List.map_append]
          rfl
        · rcases List.mem_append.mp hb with hb | hb
          · exact hp.keep s3 b hb
          · rw [List.mem_singleton.mp hb]
            exact ⟨k, m, s3 _ _ eg⟩
  rintro σ G ⟨wl, bs, rfl, sG, nwl, ewl, hbs, htb⟩
  refine ⟨fun σ G => ∃ (bs : List Addr), σ = [some (.str kd), some (.ref l), some gv, some (.ref t), some (.ref wl)] ∧ Same H G ∧ G wl = some (.lst (bs.map V.ref)) ∧ ItP G bs, ?_, ?_⟩
  · refine ⟨_, rfl, aT, _, rfl, .inr (cT.s _), rfl, flat_strs _, _, rfl, iteB (fun h1 => ?_) (fun h1 => ?_)⟩
    · have hany : ((bs.map (pD G)).any fun z => PyData.eqv z (pD G t)) = true := by
        rw [List.any_map, List.any_eq_true]
        exact ⟨t, htb, pD_eqv t⟩
      refine ⟨_, rfl, _, rfl, pD G t, bs.map (pD G), pD_dp (hbs t htb), .lst (SqL.of ewl) (pD_all hbs), pD_shape t, pD_shaped bs, _, rfl, ?_⟩
      rw [hany]
      refine iteF ?_
      obtain ⟨j, hj⟩ : ∃ j, SeqAt.dataPlace (bs.map (pD G)) (pD G t) = some j := by
        cases e : SeqAt.dataPlace (bs.map (pD G)) (pD G t) with
        | some j => exact ⟨j, rfl⟩
        | none =>
          have := List.findIdx?_eq_none_iff.mp e (pD G t) (List.mem_map.mpr ⟨t, htb, rfl⟩)
          rw [pD_eqv] at this
          cases this
      refine ⟨_, rfl, .inl ⟨rfl, _, SqL.of ewl⟩, _, rfl, wl, _, _, bs.map (pD G), pD G t, j, rfl, rfl, ewl, pD_all hbs, pD_dp (hbs t htb), (pD_lay bs).2.2, rfl, (by show 1 ≤ 60; decide), hj, ?_⟩
      refine ⟨bs.eraseIdx j, rfl, fun c o z => by rw [upd_ne (ne_of_none z nwl)]; exact sG _ _ z, by rw [upd_same, map_erase], fun b hb => ?_⟩
      obtain ⟨k, m, e⟩ := hbs b (List.mem_of_mem_eraseIdx hb)
      exact ⟨k, m, by rw [upd_ne (ne_of e ewl (by intro z; cases z))]; exact e⟩
    · exact ⟨bs, rfl, sG, ewl, hbs⟩
  rintro σ G ⟨bs, rfl, sG, ewl, hbs⟩
  refine ⟨_, rfl, wl, _, rfl, SqL.of ewl, fun x hx => ?_, fun ys r hperm nr => ?_⟩
  · obtain ⟨b, hb, rfl⟩ := List.mem_map.mp hx
    obtain ⟨k, m, e⟩ := hbs b hb
    exact ⟨b, k, m, rfl, e⟩
  · obtain ⟨cs, hcs, hcb⟩ : ∃ cs : List Addr, ys = cs.map V.ref ∧ ∀ c ∈ cs, c ∈ bs := by
      have hall : ∀ y ∈ ys, ∃ b ∈ bs, y = .ref b := fun y hy => by
        obtain ⟨b, hb, e⟩ := List.mem_map.mp (hperm.mem_iff.mp hy)
        exact ⟨b, hb, e.symm⟩
      clear hperm
      induction ys with
      | nil => exact ⟨[], rfl, fun c hc => by cases hc⟩
      | cons y r ih =>
        obtain ⟨cs, e1, e2⟩ := ih fun z hz => hall z (List.mem_cons_of_mem _ hz)
        obtain ⟨b, hb, e3⟩ := hall y List.mem_cons_self
        refine ⟨b :: cs, by rw [e1, e3]; rfl, fun c hc => ?_⟩
        rcases List.mem_cons.mp hc with rfl | hc
        · exact hb
        · exact e2 c hc
    refine q _ r cs (same_new sG nr) (by rw [upd_same, hcs]) fun c hc => ?_
    obtain ⟨k, m, e⟩ := hbs c (hcb c hc)
    exact ⟨k, m, (new_same nr) _ _ e⟩
end
end H2
namespace H2
open PySem PySem.Spec PyProof.Rows L2 Hx Nd Dun
section
variable {P : Program} {w : World} {K : PySem.W.Frag} {mg : Str → Option Value} {base : Heap} {D : Addr}
/-! ### keeps_items and its like -/
theorem op_eqDk {X : Cx} {K' : PySem.W.Frag} (hk : X.K = K') (hu : X.A.units + 64 < cLine) : OpR X (compareOp .Eq) (rEqD K') := by subst hk; exact op_eqD hu
theorem ItP.at {H : Hp} {as : List Addr} (h : ItP H as) {i : Nat} (hi : i < as.length) : ∃ a, atI (itV as) (i : Int) = some (.ref a) ∧ a ∈ as ∧ ∃ k m : Int, H a = some (.tup [.int k, .int m]) :=
  ⟨as[i], at_of (j := i) rfl (by unfold itV; rw [List.getElem?_map, List.getElem?_eq_getElem hi]; rfl), List.getElem_mem hi, h _ (List.getElem_mem hi)⟩
theorem len_it (as : List Addr) : (itV as).length = as.length := by unfold itV; rw [List.length_map]
theorem perm_refs {H : Hp} {as : List Addr} {ys : List V} (h : ys.Perm (as.map V.ref)) (hp : ItP H as) : ∃ cs : List Addr, ys = cs.map V.ref ∧ ItP H cs := by
  have hall : ∀ y ∈ ys, ∃ b ∈ as, y = .ref b := fun y hy => by
    obtain ⟨b, hb, e⟩ := List.mem_map.mp (h.mem_iff.mp hy)
    exact ⟨b, hb, e.symm⟩
  clear h
  induction ys with
  | nil => exact ⟨[], rfl, fun c hc => by cases hc⟩
  | cons y r ih =>
    obtain ⟨cs, e1, e2⟩ := ih fun z hz => hall z (List.mem_cons_of_mem _ hz)
    obtain ⟨b, hb, e3⟩ := hall y List.mem_cons_self
    refine ⟨b :: cs, by rw [e1, e3]; rfl, fun c hc => ?_⟩
    rcases List.mem_cons.mp hc with rfl | hc
    · exact hp _ hb
    · exact e2 c hc
abbrev psKI : List Str := ["kind", "width", "items", "start", "given", "left", "told"]
def spKI (K : PySem.W.Frag) : Sp := fun vs H Q _ => ∃ (kd : Str) (w : Nat) (l row t : Addr) (as : List Addr) (sv gv : V), vs = [.str kd, .int (w : Int), .ref l, sv, gv, .ref row, .ref t] ∧ WdN w ∧ H l = some (.lst (itV as)) ∧ H row = some (.lst (itV as)) ∧ ItP H as ∧ as.length ≤ 900 ∧ t ∈ as ∧ GvOk H gv ∧ (kd = "tree" → ∃ s : Nat, sv = .int (s : Int) ∧ s < as.length) ∧
  ∀ H' b, Same H H' → Q (.bl b) H'
theorem ok_ki {f g1 g2 : Addr} (T0 : FT K mg "keeps_items" s_keeps_items psKI f) (len : mg "len" = none) (all : mg "all" = none) (srt : mg "sorted" = none) (enu : mg "enumerate" = none) {d1 d2 : FuncData}
    (F1 : Fun K "owed_items" "owed_items" s_owed_items g1 d1) (b1 : Binds K d1 psOI []) (m1 : mg "owed_items" = some (.ref g1)) (G1 : FnOk P w K mg base CX0 1 g1 d1 psOI (spOI K))
    (F2 : Fun K "tree_of" "tree_of" s_tree_of g2 d2) (b2 : Binds K d2 psTO []) (m2 : mg "tree_of" = some (.ref g2)) (G2 : FnOk P w K mg base CX0 2 g2 d2 psTO spTO) :
    ∃ fd, Fun K "keeps_items" "keeps_items" s_keeps_items f fd ∧ Binds K fd psKI [] ∧ FnOk P w K mg base CX0 3 f fd psKI (spKI K) := by
  obtain ⟨fd, F, b⟩ := T0.fn
  refine ⟨fd, F, b, F.ok c_keeps_items (fun vs H Q E h => ?_) (fun cdv A outer s H vs Q E hr h => ?_)⟩
  · obtain ⟨kd, w, l, row, t, as, sv, gv, rfl, _⟩ := h
    rfl
  obtain ⟨kd, wn, l, row, t, as, sv, gv, rfl, hw, hl, hrow, hp, hn, hta, hg, htr, q⟩ := h
  have hu := hr.units
  refine ⟨_, pss_cons (ps_if (pt_cmpR (op_neD hu) (pe_callB cr_sortedP (by rfl) srt (by decide +kernel) (pa_cons (pv 5) pa_nil)) (pe_call G1 (hr.mono (by decide)) rfl m1 F1.kp b1 .nil pass0 (pa_cons (pv 0) (pa_cons (pv 2) (pa_cons (pv 4) (pa_cons (pv 6) pa_nil))))) (nomark _)) (pss_one (ps_ret pe_bl)) pss_nil) <|
    pss_cons (ps_if (pt_cmpR op_ne (pv 0) pe_str (nomark _)) (pss_one (ps_ret pe_bl)) pss_nil) <|
    pss_cons (ps_set (i := 7) c_keeps_items.nd rfl (Or.inr rfl) (pe_call G2 (hr.mono (by decide)) rfl m2 F2.kp b2 .nil pass0 (pa_cons (pv 3) (pa_cons (pv 1) (pa_cons (pe_callB call_len_seq (by rfl) len PySem.boot_len (pa_cons (pv 2) pa_nil)) pa_nil))))) <|
    pss_one (ps_ret (pe_callB (cr_all rfl) (by rfl) all (by decide +kernel) (pa_cons
      (pe_lc (own := [("place", 8), ("item", 9)]) (g := gTup K 2 (gCons (gName 8) (gCons (gName 9) gNil))) rfl c_keeps_items.nd (pi_enum (by rfl) enu (pa_cons (pv 2) pa_nil)) (blkOk_by (own := [("place", 8), ("item", 9)]) (N := n_keeps_items) (sc := defScope s_keeps_items) (by decide +kernel))
        (fun _ _ _ _ _ => pg_tup rfl (pgs_cons (pg_name (i := 8) c_keeps_items.nd rfl (Or.inl rfl)) (pgs_cons (pg_name (i := 9) c_keeps_items.nd rfl (Or.inl rfl)) pgs_nil))) (fun _ _ _ _ _ => pts_one (pt_cmp (pc_dnotin (hu_of hr) (pv 8) (pv 7)))) (fun _ _ _ _ _ => pe_cmpR (op_eqDk (K' := K) rfl hu) (pe_ix (ix_listk (K' := K) rfl) (pv 5) (pv 8) (fun _ _ => rfl)) (pv 9) (nomark _))) pa_nil))), ?_⟩
  refine ⟨_, rfl, row, _, rfl, SqL.of hrow, fun x hx => ?_, fun ys r hperm nr => ?_⟩
  · obtain ⟨b, hb, rfl⟩ := List.mem_map.mp hx
    obtain ⟨k, m, e⟩ := hp b hb
    exact ⟨b, k, m, rfl, e⟩
  obtain ⟨cs, rfl, hcs⟩ := perm_refs hperm hp
  have s1 := new_same (o := .lst (cs.map V.ref)) nr
  have gv1 : GvOk (upd H r (.lst (cs.map V.ref))) gv := by
    rcases hg with rfl | ⟨g, k, m, rfl, e⟩
    · exact .inl rfl
    · exact .inr ⟨g, k, m, rfl, s1 _ _ e⟩
  refine ⟨_, rfl, _, rfl, _, rfl, _, rfl, kd, l, t, as, gv, rfl, s1 _ _ hl, hp.keep s1, hn, hta, gv1, fun H2 r2 bs s2 e2 hbs => ?_⟩
  have s12 := s1.trans s2
  refine ⟨.list (cs.map (pD H2)), .list (bs.map (pD H2)), .lst (SqL.of (s2 _ _ upd_same)) (pD_all (hcs.keep s12)), .lst (SqL.of e2) (pD_all hbs), pD_shaped cs, pD_shaped bs, _, rfl, iteB (fun _ => q _ _ s12) (fun _ => ?_)⟩
  refine ⟨_, rfl, rfl, _, rfl, iteB (fun _ => q _ _ s12) (fun h2 => ?_)⟩
  have hk : kd = "tree" := by
    have h4 : decide (V.str kd = V.str "tree") = true := by simpa using h2
    exact of_decide_eq_true (str_dec.symm.trans h4)
  obtain ⟨st, rfl, hst⟩ := htr hk
  refine ⟨_, rfl, _, rfl, _, rfl, l, _, rfl, .inl (SqL.of (s12 _ _ hl)), st, wn, as.length, by rw [len_it]; rfl, hw, hn, hst, fun H3 d kvs s3 ed hkv hkl => ?_⟩
  have s13 := s12.trans s3
  refine ⟨_, rfl, l, _, rfl, SqL.of (s13 _ _ hl), fun D nD => lc_it (walk_enum (xs := itV as)) (fun i G => Same H3 G ∧ ∃ bs : List Bool, G D = some (.lst (bs.map V.bl)) ∧ bs.length ≤ i) ⟨new_same nD, [], upd_same, Nat.le_refl _⟩ ?_ ?_ ?_⟩
  · rintro i G _ ⟨sG, _⟩
    exact SqL.of (sG _ _ (s13 _ _ hl))
  · rintro i x G G' hi ⟨sG, bs', eD, hbl⟩ ⟨Tn, k, v, rfl, nT, rfl, hk1, hk2⟩
    obtain ⟨a, e1, rfl⟩ := itV_at hk2
    cases hk1
    have hil : i < as.length := by rw [← len_it as]; exact hi
    have sT := same_new (o := .tup [.int (i : Nat), .ref a]) sG nT
    have sA : Same H (upd G Tn (.tup [.int (i : Nat), .ref a])) := fun c o z => sT _ _ (s13 _ _ z)
    obtain ⟨a2, f1, f2, f3⟩ := (hp.keep sA).at hil
    refine ⟨Tn, _, rfl, SqT.of upd_same, rfl, _, _, rfl, _, _, rfl, rfl, rfl, ?_⟩
    refine ⟨_, rfl, _, rfl, d, _, rfl, DGet.k (k := Sum.inl (i : Int)) (sT _ _ ed), _, rfl, iteB (fun _ => ?_) (fun _ => ⟨sT, bs', (new_same nT) _ _ eD, by omega⟩)⟩
    refine ⟨_, rfl, _, rfl, row, _, _, _, rfl, rfl, SqL.of (sA _ _ hrow), f1, _, rfl, pD _ a2, pD _ a, pD_dp f3, pD_dp ((hp.keep sA) a (List.mem_of_getElem? e1)), pD_shape a2, pD_shape a, ?_⟩
    refine ⟨_, (new_same nT) _ _ eD, by rw [List.length_map]; exact big (by omega), same_out sT nD, bs' ++ [_], by rw [upd_same, List.map_append]; rfl, by rw [List.length_append]; show _ + 1 ≤ _; omega⟩
  · rintro G ⟨sG, bs', eD, _⟩
    exact ⟨D, bs', rfl, SqL.of eD, q _ _ (fun c o z => sG _ _ (s13 _ _ z))⟩
end
end H2
namespace H2
open PySem PySem.Spec PyProof.Rows L2 Hx Nd Dun
section
variable {P : Program} {w : World} {K : PySem.W.Frag} {mg : Str → Option Value} {base : Heap} {D : Addr}
/-! ### keeps_order, keeps_told, keeps_places -/
abbrev psKO : List Str := ["kind", "width", "start", "left"]
/-- the pairs and their keys and marks -/
theorem ItP.its {H : Hp} : ∀ {as : List Addr}, ItP H as → ∃ its, ItA H as its
  | [], _ => ⟨[], rfl, fun i a p h => by cases h⟩
  | a :: r, h => by
    obtain ⟨its, h1, h2⟩ := ItP.its (as := r) fun b hb => h b (List.mem_cons_of_mem _ hb)
    obtain ⟨k, m, e⟩ := h a List.mem_cons_self
    refine ⟨(k, m) :: its, by rw [List.length_cons, List.length_cons, h1], fun i b p e1 e2 => ?_⟩
    cases i with
    | zero =>
      cases e1
      cases e2
      exact e
    | succ i => exact h2 i b p e1 e2
def spKO (K : PySem.W.Frag) : Sp := fun vs H Q _ => ∃ (kd : Str) (w : Nat) (row : Addr) (as : List Addr) (sv : V), vs = [.str kd, .int (w : Int), sv, .ref row] ∧ WdN w ∧ H row = some (.lst (itV as)) ∧ ItP H as ∧ as.length ≤ 900 ∧ (kd = "tree" → ∃ s : Nat, sv = .int (s : Int) ∧ s < as.length) ∧
  ∀ H' b, Same H H' → Q (.bl b) H'
theorem ok_ko {f g1 g2 g3 : Addr} (T0 : ∃ fd, Fun K "keeps_order" "keeps_order" s_keeps_orderP f fd ∧ Binds K fd psKO []) (len : mg "len" = none) (all : mg "all" = none) {d1 d2 d3 : FuncData}
    (F1 : Fun K "is_heap" "is_heap" s_is_heap g1 d1) (b1 : Binds K d1 psIW []) (m1 : mg "is_heap" = some (.ref g1)) (G1 : FnOk P w K mg base CX0 3 g1 d1 psIW (spHeap K))
    (F2 : Fun K "tree_of" "tree_of" s_tree_of g2 d2) (b2 : Binds K d2 psTO []) (m2 : mg "tree_of" = some (.ref g2)) (G2 : FnOk P w K mg base CX0 2 g2 d2 psTO spTO)
    (F3 : Fun K "parent" "parent" s_parent g3 d3) (b3 : Binds K d3 psPW []) (m3 : mg "parent" = some (.ref g3)) (G3 : FnOk P w K mg base CX0 1 g3 d3 psPW spParent) :
    ∃ fd, Fun K "keeps_order" "keeps_order" s_keeps_orderP f fd ∧ Binds K fd psKO [] ∧ FnOk P w K mg base CX0 4 f fd psKO (spKO K) := by
  obtain ⟨fd, F, b⟩ := T0
  refine ⟨fd, F, b, F.ok c_keeps_orderP (fun vs H Q E h => ?_) (fun cdv A outer s H vs Q E hr h => ?_)⟩
  · obtain ⟨kd, w, row, as, sv, rfl, _⟩ := h
    rfl
  obtain ⟨kd, wn, row, as, sv, rfl, hw, hrow, hp, hn, htr, q⟩ := h
  refine ⟨_, pss_cons (ps_if (pt_cmpR op_ne (pv 0) pe_str (nomark _)) (pss_one (ps_ret (pe_call G1 (hr.mono (by decide)) rfl m1 F1.kp b1 .nil pass0 (pa_cons (pv 3) (pa_cons (pv 1) pa_nil))))) pss_nil) <|
    pss_cons (ps_set (i := 4) c_keeps_orderP.nd rfl (Or.inl rfl) (pe_call G2 (hr.mono (by decide)) rfl m2 F2.kp b2 .nil pass0 (pa_cons (pv 2) (pa_cons (pv 1) (pa_cons (pe_callB call_len_seq (by rfl) len PySem.boot_len (pa_cons (pv 3) pa_nil)) pa_nil))))) <|
    pss_one (ps_ret (pe_callB (cr_all rfl) (by rfl) all (by decide +kernel) (pa_cons
      (pe_lock (pe_lc (own := [("place", 5)]) (g := gName 5) rfl c_keeps_orderP.nd (pi_keys (pv 4)) (blkOk_by (own := [("place", 5)]) (N := n_keeps_orderP) (sc := defScope s_keeps_orderP) (by decide +kernel))
        (fun _ _ _ _ _ => pg_name (i := 5) c_keeps_orderP.nd rfl (Or.inl rfl)) (fun _ _ _ _ _ => pts_one (pt_cmpR op_ne (pv 5) (pv 2) (nomark _)))
        (fun _ _ _ _ _ => pe_cmpR op_le (pe_ix (ix_tupk (K' := K) rfl) (pe_ix (ix_listk (K' := K) rfl) (pv 3) (pe_call G3 (hr.mono (by decide)) rfl m3 F3.kp b3 .nil pass0 (pa_cons (pv 5) (pa_cons (pv 1) pa_nil))) (fun _ _ => rfl)) pe_int (fun _ _ => rfl)) (pe_ix (ix_tupk (K' := K) rfl) (pe_ix (ix_listk (K' := K) rfl) (pv 3) (pv 5) (fun _ _ => rfl)) pe_int (fun _ _ => rfl)) (nomark _)))) pa_nil))), ?_⟩
  obtain ⟨its, hia⟩ := hp.its
  refine ⟨_, rfl, rfl, _, rfl, iteB (fun _ => ?_) (fun h2 => ?_)⟩
  · exact ⟨_, rfl, _, rfl, row, as, its, wn, rfl, SqL.of hrow, hia, hw, by rw [← hia.1]; exact hn, q _ _ (Same.refl _)⟩
  have hk : kd = "tree" := by
    have h4 : decide (V.str kd = V.str "tree") = true := by simpa using h2
    exact of_decide_eq_true (str_dec.symm.trans h4)
  obtain ⟨st, rfl, hst⟩ := htr hk
  refine ⟨_, rfl, _, rfl, _, rfl, row, _, rfl, .inl (SqL.of hrow), st, wn, as.length, by rw [len_it]; rfl, hw, hn, hst, fun H1 d kvs s1 ed hkv hkl => ?_⟩
  refine ⟨d, _, ed, trivial, fun od => ?_⟩
  have ndrow : row ≠ d := ne_of (s1 _ _ hrow) ed (by intro z; cases z)
  have sB : ∀ {c o}, H1 c = some o → (∀ kvs', o ≠ .dK kvs') → (upd H1 d (.frz od (.dK kvs))) c = some o := fun h1 h2 => by
    rw [upd_ne (ne_of h1 ed (by intro z; exact h2 _ z))]
    exact h1
  have hrow1 : (upd H1 d (.frz od (.dK kvs))) row = some (.lst (itV as)) := sB (s1 _ _ hrow) (fun _ z => by cases z)
  have hp1 : ItP (upd H1 d (.frz od (.dK kvs))) as := fun b hb => by
    obtain ⟨k, m, e⟩ := hp b hb
    exact ⟨k, m, sB (s1 _ _ e) (fun _ z => by cases z)⟩
  refine ⟨_, rfl, d, od, rfl, .inl ⟨kvs, upd_same, fun D nD => lc_it walk_keys (fun i G => Same (upd H1 d (.frz od (.dK kvs))) G ∧ ∃ bs : List Bool, G D = some (.lst (bs.map V.bl)) ∧ bs.length ≤ i) ⟨new_same nD, [], upd_same, Nat.le_refl _⟩ ?_ ?_ ?_⟩⟩
  · rintro i G _ ⟨sG, _⟩
    exact sG _ _ upd_same
  · rintro i x G G' hi ⟨sG, bs', eD, hbl⟩ ⟨rfl, k, v, hkv2, rfl⟩
    obtain ⟨j, hj, hj1, hj2⟩ := hkv _ (List.mem_of_getElem? hkv2)
    dsimp only at hj
    subst hj
    refine ⟨rfl, ?_⟩
    refine ⟨_, rfl, _, rfl, rfl, _, rfl, iteB (fun h3 => ?_) (fun _ => ⟨sG, bs', eD, by omega⟩)⟩
    have hne : j ≠ st := fun z => by
      subst z
      have : (!decide (V.int (j : Int) = V.int (j : Int))) = true := h3
      simp at this
    have hpl := paN_lt (w := wn) (i := j) (by omega)
    have hpG := hp1.keep sG
    obtain ⟨a, a1, _, ka, ma, a2⟩ := hpG.at (i := paN wn j) (by omega)
    obtain ⟨c, c1, _, kc, mc, c2⟩ := hpG.at (i := j) hj2
    refine ⟨_, rfl, _, rfl, _, rfl, j, wn, rfl, hw, ?_⟩
    rw [if_neg (by omega)]
    refine ⟨row, _, _, _, rfl, rfl, SqL.of (sG _ _ hrow1), a1, a, _, _, _, rfl, rfl, SqT.of a2, rfl, ?_⟩
    refine ⟨_, rfl, _, rfl, row, _, _, _, rfl, rfl, SqL.of (sG _ _ hrow1), c1, c, _, _, _, rfl, rfl, SqT.of c2, rfl, _, _, rfl, rfl, ?_⟩
    exact ⟨_, eD, by rw [List.length_map]; exact big (by omega), same_out sG nD, bs' ++ [_], by rw [upd_same, List.map_append]; rfl, by rw [List.length_append]; show _ + 1 ≤ _; omega⟩
  · rintro G ⟨sG, bs', eD, _⟩
    refine ⟨sG _ _ upd_same, ?_⟩
    have nDd : D ≠ d := ne_of eD (sG _ _ upd_same) (by intro z; cases z)
    refine ⟨D, bs', rfl, SqL.of (by rw [upd_ne nDd]; exact eD), q _ _ (fun c o z => same_unlock ed sG _ _ (s1 _ _ z))⟩
abbrev psKT : List Str := ["kind", "items", "start", "told"]
def spKT (K : PySem.W.Frag) : Sp := fun vs H Q _ => ∃ (kd : Str) (l t : Addr) (as : List Addr) (sv : V), vs = [.str kd, .ref l, sv, .ref t] ∧ H l = some (.lst (itV as)) ∧ ItP H as ∧ as.length ≤ 900 ∧ t ∈ as ∧ (kd = "out" → ∃ s : Nat, sv = .int (s : Int) ∧ s < as.length) ∧ ∀ H' b, Same H H' → Q (.bl b) H'
theorem ok_kt {f aT : Addr} (T0 : FT K mg "keeps_told" s_keeps_told psKT f) (mn : mg "min" = none) (cT : TupT K mg "WITH_TOLD" aT (toldW.map V.str)) :
    ∃ fd, Fun K "keeps_told" "keeps_told" s_keeps_told f fd ∧ Binds K fd psKT [] ∧ FnOk P w K mg base CX0 1 f fd psKT (spKT K) := by
  obtain ⟨fd, F, b⟩ := T0.fn
  refine ⟨fd, F, b, F.ok c_keeps_told (fun vs H Q E h => ?_) (fun cdv A outer s H vs Q E hr h => ?_)⟩
  · obtain ⟨kd, l, t, as, sv, rfl, _⟩ := h
    rfl
  obtain ⟨kd, l, t, as, sv, rfl, hl, hp, hn, hta, hout, q⟩ := h
  have hu := u65 hr
  refine ⟨_, pss_cons (ps_if (pt_cmpR op_eq (pv 0) pe_str (nomark _)) (pss_one (ps_ret (pe_cmpR (op_eqD hr.units) (pv 3) (pe_ix ix_list (pv 1) (pv 2) (fun _ _ => rfl)) (nomark _)))) pss_nil) <|
    pss_cons (ps_if (pt_cmpR op_in_seq (pv 0) (pe_glob (v := .ref aT) rfl cT.g rfl) rfl) (pss_one (ps_ret (pe_and (pe_cmpR (op_inD hu) (pv 3) (pv 1) rfl) (pe_one (pe_cmpR op_eq (pe_ix ix_tup (pv 3) pe_int (fun _ _ => rfl)) (pe_callB (cr_min rfl) (by rfl) mn boot_min (pa_cons
      (pe_lc (own := [("key", 4), ("_", 5)]) (g := gTup K 2 (gCons (gName 4) (gCons (gName 5) gNil))) (tt := tYes) rfl c_keeps_told.nd (pi_list (pv 1)) (blkOk_by (own := [("key", 4), ("_", 5)]) (N := n_keeps_told) (sc := defScope s_keeps_told) (by decide +kernel))
        (fun _ _ _ _ _ => pg_tup rfl (pgs_cons (pg_name (i := 4) c_keeps_told.nd rfl (Or.inl rfl)) (pgs_cons (pg_name (i := 5) c_keeps_told.nd rfl (Or.inl rfl)) pgs_nil))) (fun _ _ _ _ _ => pts_nil) (fun _ _ _ _ _ => pv 4)) pa_nil)) (nomark _)))))) pss_nil) <|
    pss_one (ps_ret pe_bl), ?_⟩
  have htp := hp t hta
  refine ⟨_, rfl, rfl, _, rfl, iteB (fun h1 => ?_) (fun _ => ?_)⟩
  · obtain ⟨st, rfl, hst⟩ := hout (of_decide_eq_true (str_dec.symm.trans h1))
    obtain ⟨a, a1, _, a2⟩ := hp.at hst
    exact ⟨_, rfl, _, rfl, _, rfl, l, _, _, _, rfl, rfl, SqL.of hl, a1, pD H t, pD H a, pD_dp htp, pD_dp a2, pD_shape t, pD_shape a, q _ _ (Same.refl _)⟩
  refine ⟨_, rfl, aT, _, rfl, .inr (cT.s _), rfl, flat_strs _, _, rfl, iteB (fun _ => ?_) (fun _ => q _ _ (Same.refl _))⟩
  refine ⟨_, rfl, _, rfl, pD H t, as.map (pD H), pD_dp htp, .lst (SqL.of hl) (pD_all hp), pD_shape t, pD_shaped as, _, rfl, ?_⟩
  cases (as.map (pD H)).any fun z => PyData.eqv z (pD H t) with
  | false => exact q _ _ (Same.refl _)
  | true =>
    obtain ⟨kt, mt, et⟩ := htp
    obtain ⟨its, hia⟩ := hp.its
    have hil : its.length = as.length := hia.1.symm
    refine ⟨_, rfl, t, _, _, _, rfl, rfl, SqT.of et, rfl, ?_⟩
    refine ⟨_, rfl, l, rfl, ⟨_, SqL.of hl⟩, fun D nD => lc_map (ys := (its.map (·.1)).map V.int) (SqL.of hl) nD (by rw [len_it, List.length_map, List.length_map, hil]) (by rw [List.length_map, List.length_map]; omega) ?_ ?_⟩
    · intro i x y G Z hx hy sG hz
      obtain ⟨b, e1, rfl⟩ := itV_at hx
      obtain ⟨hi2, e2⟩ := hia.get e1
      refine ⟨b, _, rfl, SqT.of (sG _ _ e2), rfl, _, _, rfl, _, _, rfl, rfl, rfl, _, rfl, ?_⟩
      have : y = .int (kyA its i) := by
        rw [List.getElem?_map, List.getElem?_map, List.getElem?_eq_getElem hi2] at hy
        cases hy
        unfold kyA
        rw [List.getD_eq_getElem?_getD, List.getElem?_eq_getElem hi2]
        rfl
      rw [← this]
      exact hz G (Same.refl G)
    · intro G sG eG
      have hpos : 0 < its.length := by
        rw [hil]
        exact List.length_pos_of_mem hta
      exact ⟨D, its.map (·.1), rfl, SqL.of eG, by rw [List.length_map]; exact hpos, fun m _ _ => ⟨rfl, q _ _ sG⟩⟩
abbrev psKP : List Str := ["left", "entries", "noted"]
def spKP (K : PySem.W.Frag) : Sp := fun vs H Q _ => ∃ (row en no : Addr) (as : List Addr) (kvs kns : List (Key × V)), vs = [.ref row, .ref en, .ref no] ∧ H row = some (.lst (itV as)) ∧ ItP H as ∧ as.length ≤ 900 ∧ H en = some (.dK kvs) ∧ (∀ kv ∈ kvs, ∃ n : Int, kv.2 = .int n) ∧ H no = some (.dK kns) ∧ (∀ kv ∈ kns, ∃ n : Int, kv.2 = .int n) ∧ ∀ H' b, Same H H' → Q (.bl b) H'
theorem valV_int {kvs : List (Key × V)} {k : Key} {n : Int} (h : ∀ kv ∈ kvs, ∃ n : Int, kv.2 = .int n) : scal ((valV kvs k).getD .non) (.int n) = true := by
  unfold valV
  cases e : kvs.find? fun kv => decide (kv.1 = k) with
  | none => rfl
  | some kv =>
    obtain ⟨m, hm⟩ := h kv (List.mem_of_find?_eq_some e)
    show scal kv.2 _ = true
    rw [hm]
    rfl
theorem valV_int2 {kvs kns : List (Key × V)} {k : Key} {n : Int} (h : ∀ kv ∈ kvs, ∃ n : Int, kv.2 = .int n) (h2 : ∀ kv ∈ kns, ∃ n : Int, kv.2 = .int n) : scal ((valV kns k).getD ((valV kvs k).getD .non)) (.int n) = true := by
  unfold valV
  cases e : kns.find? fun kv => decide (kv.1 = k) with
  | none => exact valV_int (k := k) h
  | some kv =>
    obtain ⟨m, hm⟩ := h2 kv (List.mem_of_find?_eq_some e)
    show scal kv.2 _ = true
    rw [hm]
    rfl
theorem ok_kp {f : Addr} (T0 : FT K mg "keeps_places" s_keeps_places psKP f) (all : mg "all" = none) (enu : mg "enumerate" = none) :
    ∃ fd, Fun K "keeps_places" "keeps_places" s_keeps_places f fd ∧ Binds K fd psKP [] ∧ FnOk P w K mg base CX0 1 f fd psKP (spKP K) := by
  obtain ⟨fd, F, b⟩ := T0.fn
  refine ⟨fd, F, b, F.ok c_keeps_places (fun vs H Q E h => ?_) (fun cdv A outer s H vs Q E hr h => ?_)⟩
  · obtain ⟨row, en, no, as, kvs, kns, rfl, _⟩ := h
    rfl
  obtain ⟨row, en, no, as, kvs, kns, rfl, hrow, hp, hn, hen, hfl, hno, hfn, q⟩ := h
  refine ⟨_, pss_one (ps_ret (pe_callB (cr_all rfl) (by rfl) all (by decide +kernel) (pa_cons
      (pe_lc (own := [("place", 3), ("_", 4), ("mark", 5)]) (g := gTup K 2 (gCons (gName 3) (gCons (gTup K 2 (gCons (gName 4) (gCons (gName 5) gNil))) gNil))) (tt := tYes) rfl c_keeps_places.nd (pi_enum (by rfl) enu (pa_cons (pv 0) pa_nil)) (blkOk_by (own := [("place", 3), ("_", 4), ("mark", 5)]) (N := n_keeps_places) (sc := defScope s_keeps_places) (by decide +kernel))
        (fun _ _ _ _ _ => pg_tup rfl (pgs_cons (pg_name (i := 3) c_keeps_places.nd rfl (Or.inl rfl)) (pgs_cons (pg_tup rfl (pgs_cons (pg_name (i := 4) c_keeps_places.nd rfl (Or.inl rfl)) (pgs_cons (pg_name (i := 5) c_keeps_places.nd rfl (Or.inl rfl)) pgs_nil))) pgs_nil))) (fun _ _ _ _ _ => pts_nil)
        (fun _ _ _ _ _ => pe_cmpR op_eq (pe_dget2 (hu_of hr) (pv 2) (pv 5) (pe_dget1 (hu_of hr) (pv 1) (pv 5) ⟨rfl, rfl, rfl, rfl⟩) ⟨rfl, rfl, rfl, rfl⟩) (pv 3) (nomark _))) pa_nil))), ?_⟩
  refine ⟨_, rfl, row, _, rfl, SqL.of hrow, fun D nD => lc_it (walk_enum (xs := itV as)) (fun i G => Same H G ∧ ∃ bs : List Bool, G D = some (.lst (bs.map V.bl)) ∧ bs.length ≤ i) ⟨new_same nD, [], upd_same, Nat.le_refl _⟩ ?_ ?_ ?_⟩
  · rintro i G _ ⟨sG, _⟩
    exact SqL.of (sG _ _ hrow)
  · rintro i x G G' hi ⟨sG, bs', eD, hbl⟩ ⟨Tn, k, v, rfl, nT, rfl, hk1, hk2⟩
    obtain ⟨a, e1, rfl⟩ := itV_at hk2
    cases hk1
    have hil : i < as.length := by rw [← len_it as]; exact hi
    have sT := same_new (o := .tup [.int (i : Nat), .ref a]) sG nT
    obtain ⟨ka, ma, e2⟩ := (hp.keep sT) a (List.mem_of_getElem? e1)
    refine ⟨Tn, _, rfl, SqT.of upd_same, rfl, _, _, rfl, _, _, rfl, a, _, rfl, SqT.of e2, rfl, _, _, rfl, _, _, rfl, rfl, rfl, ?_⟩
    have sA : Same H (upd G Tn (.tup [.int (i : Nat), .ref a])) := sT
    unfold tYes
    dsimp only
    rw [if_pos rfl]
    refine ⟨rfl, ?_⟩
    refine ⟨_, rfl, no, rfl, .inl ⟨kns, .inl (sA _ _ hno)⟩, _, rfl, _, rfl, en, rfl, .inl ⟨kvs, .inl (sA _ _ hen)⟩, _, rfl, _, DGet.k (k := Sum.inl ma) (sA _ _ hen), _, DGet.k (k := Sum.inl ma) (sA _ _ hno), _, rfl, valV_int2 hfl hfn, ?_⟩
    exact ⟨_, (new_same nT) _ _ eD, by rw [List.length_map]; exact big (by omega), same_out sA nD, bs' ++ [_], by rw [upd_same, List.map_append]; rfl, by rw [List.length_append]; show _ + 1 ≤ _; omega⟩
  · rintro G ⟨sG, bs', eD, _⟩
    exact ⟨D, bs', rfl, SqL.of eD, q _ _ sG⟩
end
end H2
namespace H2
open PySem PySem.Spec PyProof.Rows L2 Hx Nd Dun
section
variable {P : Program} {w : World} {K : PySem.W.Frag} {mg : Str → Option Value} {base : Heap} {D : Addr}
/-! ### broken_at_end, broken_by, Play, play -/
abbrev psBE : List Str := ["code", "items", "start", "given", "player", "entries"]
/-- the start and the kind go together -/
def StOk (kd : Str) (sv : V) (n : Nat) : Prop := kd ∈ startW → ∃ s : Nat, sv = .int (s : Int) ∧ s < n
def PlEnd (PC : Addr) (H : Hp) (p row no : Addr) (told ended : V) : Prop := ∃ dx fs, H p = some (.ins PC dx fs) ∧ fs.lookup ("row" : Str) = some (V.ref row) ∧ fs.lookup ("noted" : Str) = some (V.ref no) ∧ fs.lookup ("told" : Str) = some told ∧ fs.lookup ("ended" : Str) = some ended
theorem PlEnd.keep {PC p row en : Addr} {H H' : Hp} {told ended : V} (h : PlEnd PC H p row en told ended) (e : Same H H') : PlEnd PC H' p row en told ended := by
  obtain ⟨dx, fs, h1, h2⟩ := h
  exact ⟨dx, fs, e _ _ h1, h2⟩
def spBE (C PC : Addr) : Sp := fun vs H Q _ => ∃ (c l p row en no t fl : Addr) (as : List Addr) (kvs kns : List (Key × V)) (kd : Str) (w : Nat) (sv gv ended : V), vs = [.ref c, .ref l, sv, gv, .ref p, .ref en] ∧ CodH C H c kd w fl ∧ WdN w ∧ H l = some (.lst (itV as)) ∧ H row = some (.lst (itV as)) ∧ ItP H as ∧ as.length ≤ 900 ∧ t ∈ as ∧ GvOk H gv ∧ StOk kd sv as.length ∧ PlEnd PC H p row no (.ref t) ended ∧
  H en = some (.dK kvs) ∧ (∀ kv ∈ kvs, ∃ n : Int, kv.2 = .int n) ∧ H no = some (.dK kns) ∧ (∀ kv ∈ kns, ∃ n : Int, kv.2 = .int n) ∧ ∀ H' v, Same H H' → Q v H'
theorem GvOk.keep {H H' : Hp} {gv : V} (h : GvOk H gv) (e : Same H H') : GvOk H' gv := by
  rcases h with rfl | ⟨g, k, m, rfl, h1⟩
  · exact .inl rfl
  · exact .inr ⟨g, k, m, rfl, e _ _ h1⟩
theorem ok_be {f g1 g2 g3 g4 C PC : Addr} {mp : Nat → Addr} (T0 : FT K mg "broken_at_end" s_broken_at_end psBE f) (CA : CodA K C) (TP : PlT K mg PC mp) (tup : mg "tuple" = none) {d1 d2 d3 d4 : FuncData}
    (F1 : Fun K "keeps_items" "keeps_items" s_keeps_items g1 d1) (b1 : Binds K d1 psKI []) (m1 : mg "keeps_items" = some (.ref g1)) (G1 : FnOk P w K mg base CX0 3 g1 d1 psKI (spKI K))
    (F2 : Fun K "keeps_order" "keeps_order" s_keeps_orderP g2 d2) (b2 : Binds K d2 psKO []) (m2 : mg "keeps_order_promises" = some (.ref g2)) (G2 : FnOk P w K mg base CX0 4 g2 d2 psKO (spKO K))
    (F3 : Fun K "keeps_told" "keeps_told" s_keeps_told g3 d3) (b3 : Binds K d3 psKT []) (m3 : mg "keeps_told" = some (.ref g3)) (G3 : FnOk P w K mg base CX0 1 g3 d3 psKT (spKT K))
    (F4 : Fun K "keeps_places" "keeps_places" s_keeps_places g4 d4) (b4 : Binds K d4 psKP []) (m4 : mg "keeps_places" = some (.ref g4)) (G4 : FnOk P w K mg base CX0 1 g4 d4 psKP (spKP K)) :
    ∃ fd, Fun K "broken_at_end" "broken_at_end" s_broken_at_end f fd ∧ Binds K fd psBE [] ∧ FnOk P w K mg base CX0 5 f fd psBE (spBE C PC) := by
  obtain ⟨fd, F, b⟩ := T0.fn
  refine ⟨fd, F, b, F.ok c_broken_at_end (fun vs H Q E h => ?_) (fun cdv A outer s H vs Q E hr h => ?_)⟩
  · obtain ⟨c, l, p, row, en, no, t, fl, as, kvs, kns, kd, w, sv, gv, ended, rfl, _⟩ := h
    rfl
  obtain ⟨c, l, p, row, en, no, t, fl, as, kvs, kns, kd, wn, sv, gv, ended, rfl, hc, hw, hl, hrow, hp, hn, hta, hg, hst, hpl, hen, hkv, hno, hkn, q⟩ := h
  refine ⟨_, pss_cons (ps_set (i := 6) c_broken_at_end.nd rfl (Or.inl rfl) (pe_fld (pv 4) rfl)) <|
    pss_cons (ps_if (pt_not (pt_val (pe_call G1 (hr.mono (by decide)) rfl m1 F1.kp b1 .nil pass0 (pa_cons (pe_fld (pv 0) rfl) (pa_cons (pe_fld (pv 0) rfl) (pa_cons (pv 1) (pa_cons (pv 2) (pa_cons (pv 3) (pa_cons (pv 6) (pa_cons (pe_fld (pv 4) rfl) pa_nil)))))))))) (pss_one (ps_ret (pe_tup (pa_cons pe_str pa_nil)))) pss_nil) <|
    pss_cons (ps_set (i := 7) c_broken_at_end.nd rfl (Or.inl rfl) (pe_lst pa_nil)) <|
    Evl.pss_cut (ps_if (pt_not (pt_val (pe_call G2 (hr.mono (by decide)) rfl m2 F2.kp b2 .nil pass0 (pa_cons (pe_fld (pv 0) rfl) (pa_cons (pe_fld (pv 0) rfl) (pa_cons (pv 2) (pa_cons (pv 6) pa_nil))))))) (pss_one (ps_expr (pe_bm PySem.F.plainAttrs_list PySem.F.slot_list_append PySem.F.type_list_append mt_append (pv 7) (pa_cons pe_str pa_nil)))) pss_nil) <|
    Evl.pss_cut (ps_if (pt_not (pt_val (pe_call G3 (hr.mono (by decide)) rfl m3 F3.kp b3 .nil pass0 (pa_cons (pe_fld (pv 0) rfl) (pa_cons (pv 1) (pa_cons (pv 2) (pa_cons (pe_fld (pv 4) rfl) pa_nil))))))) (pss_one (ps_expr (pe_bm PySem.F.plainAttrs_list PySem.F.slot_list_append PySem.F.type_list_append mt_append (pv 7) (pa_cons pe_str pa_nil)))) pss_nil) <|
    Evl.pss_cut (ps_if (pt_not (pt_val (pe_call G4 (hr.mono (by decide)) rfl m4 F4.kp b4 .nil pass0 (pa_cons (pv 6) (pa_cons (pv 5) (pa_cons (pe_fld (pv 4) rfl) pa_nil)))))) (pss_one (ps_expr (pe_bm PySem.F.plainAttrs_list PySem.F.slot_list_append PySem.F.type_list_append mt_append (pv 7) (pa_cons pe_str pa_nil)))) pss_nil) <|
    pss_one (ps_ret (pe_callTy call_tuple_of (by rfl) tup (by decide +kernel) (pa_cons (pv 7) pa_nil))), ?_⟩
  obtain ⟨dxc, fsc, o1, l1, l2, l3⟩ := id hc
  obtain ⟨dxp, fsp, p1, p2, p3, p4, p5⟩ := id hpl
  refine ⟨_, rfl, p, PC, dxp, fsp, _, rfl, p1, TP.cl, TP.n _ (by simp), p2, ?_⟩
  refine ⟨_, rfl, c, C, dxc, fsc, _, rfl, o1, CA.cl, CA.nk, l1, _, rfl, c, C, dxc, fsc, _, rfl, o1, CA.cl, CA.nw, l2, _, rfl, _, rfl, _, rfl, _, rfl, _, rfl, p, PC, dxp, fsp, _, rfl, p1, TP.cl, TP.n _ (by simp), p4, ?_⟩
  refine ⟨kd, wn, l, row, t, as, sv, gv, rfl, hw, hl, hrow, hp, hn, hta, hg, fun z => hst (by rw [z]; decide +kernel), fun H1 b1 s1 => ⟨b1, rfl, ?_⟩⟩
  cases b1 with
  | false => exact iteT ⟨(by show 1 ≤ sizeLine; decide), fun u nu => q _ _ (same_new s1 nu)⟩
  | true =>
    refine iteF ⟨Nat.zero_le _, fun br nbr => ?_⟩
    have s2 := same_new (o := .lst []) s1 nbr
    have nbrH := free_same s1 nbr
    -- three times the same
    have app : ∀ {G : Hp} {ys : List V} {x : Str}, Same H G → G br = some (.lst ys) → Same H (upd G br (.lst (ys ++ [.str x]))) ∧ ∃ zs : List V, (upd G br (.lst (ys ++ [.str x]))) br = some (.lst zs) ∧ zs.length = ys.length + 1 := fun {G ys x} s _ => ⟨fun c o z => by rw [upd_ne (ne_of_none z nbrH)]; exact s _ _ z, _, upd_same, by rw [List.length_append]; rfl⟩
    refine ⟨fun σ G => σ = [some (.ref c), some (.ref l), some sv, some gv, some (.ref p), some (.ref en), some (.ref row), some (.ref br)] ∧ Same H G ∧ ∃ ys, G br = some (.lst ys) ∧ ys.length ≤ 1, ?_, ?_⟩
    · refine ⟨_, rfl, c, C, dxc, fsc, _, rfl, s2 _ _ o1, CA.cl, CA.nk, l1, _, rfl, c, C, dxc, fsc, _, rfl, s2 _ _ o1, CA.cl, CA.nw, l2, _, rfl, _, rfl, ?_⟩
      refine ⟨kd, wn, row, as, sv, rfl, hw, s2 _ _ hrow, hp.keep s2, hn, fun z => hst (by rw [z]; decide +kernel), fun H3 b3 s3 => ⟨b3, rfl, ?_⟩⟩
      have s23 := s2.trans s3
      have eb := s3 _ _ (upd_same : (upd H1 br (.lst [])) br = some (.lst []))
      cases b3 with
      | true => exact iteF ⟨rfl, s23, [], eb, Nat.zero_le _⟩
      | false =>
        refine iteT ⟨_, rfl, .inl ⟨rfl, _, SqL.of eb⟩, br, _, _, rfl, rfl, eb, (by show 0 < sizeLine; decide), ?_⟩
        obtain ⟨a1, zs, a2, a3⟩ := app (x := "order") s23 eb
        exact ⟨rfl, a1, zs, a2, by rw [a3]; exact Nat.le_refl _⟩
    rintro σ G ⟨rfl, sG, ys, eb, hy⟩
    refine ⟨fun σ G => σ = [some (.ref c), some (.ref l), some sv, some gv, some (.ref p), some (.ref en), some (.ref row), some (.ref br)] ∧ Same H G ∧ ∃ ys, G br = some (.lst ys) ∧ ys.length ≤ 2, ?_, ?_⟩
    · refine ⟨_, rfl, c, C, dxc, fsc, _, rfl, sG _ _ o1, CA.cl, CA.nk, l1, _, rfl, _, rfl, _, rfl, p, PC, dxp, fsp, _, rfl, sG _ _ p1, TP.cl, TP.n _ (by simp), p4, ?_⟩
      refine ⟨kd, l, t, as, sv, rfl, sG _ _ hl, hp.keep sG, hn, hta, fun z => hst (by rw [z]; decide +kernel), fun H3 b3 s3 => ⟨b3, rfl, ?_⟩⟩
      have s23 := sG.trans s3
      have eb3 := s3 _ _ eb
      cases b3 with
      | true => exact iteF ⟨rfl, s23, ys, eb3, by omega⟩
      | false =>
        refine iteT ⟨_, rfl, .inl ⟨rfl, _, SqL.of eb3⟩, br, _, _, rfl, rfl, eb3, big (by omega), ?_⟩
        obtain ⟨a1, zs, a2, a3⟩ := app (x := "told") s23 eb3
        exact ⟨rfl, a1, zs, a2, by omega⟩
    rintro σ G ⟨rfl, sG, ys, eb, hy⟩
    refine ⟨fun σ G => σ = [some (.ref c), some (.ref l), some sv, some gv, some (.ref p), some (.ref en), some (.ref row), some (.ref br)] ∧ Same H G ∧ ∃ ys, G br = some (.lst ys) ∧ ys.length ≤ 3, ?_, ?_⟩
    · refine ⟨_, rfl, _, rfl, _, rfl, p, PC, dxp, fsp, _, rfl, sG _ _ p1, TP.cl, TP.n _ (by simp), p3, ?_⟩
      refine ⟨row, en, no, as, kvs, kns, rfl, sG _ _ hrow, hp.keep sG, hn, sG _ _ hen, hkv, sG _ _ hno, hkn, fun H3 b3 s3 => ⟨b3, rfl, ?_⟩⟩
      have s23 := sG.trans s3
      have eb3 := s3 _ _ eb
      cases b3 with
      | true => exact iteF ⟨rfl, s23, ys, eb3, by omega⟩
      | false =>
        refine iteT ⟨_, rfl, .inl ⟨rfl, _, SqL.of eb3⟩, br, _, _, rfl, rfl, eb3, big (by omega), ?_⟩
        obtain ⟨a1, zs, a2, a3⟩ := app (x := "places") s23 eb3
        exact ⟨rfl, a1, zs, a2, by omega⟩
    rintro σ G ⟨rfl, sG, ys, eb, hy⟩
    exact ⟨_, rfl, br, _, rfl, .inl ⟨SqL.of eb, fun u nu => q _ _ (same_new sG nu)⟩⟩
def spBB (C PC : Addr) : Sp := fun vs H Q _ => ∃ (c l p row en no fl : Addr) (as : List Addr) (kvs kns : List (Key × V)) (kd : Str) (w i : Nat) (sv gv told ended : V), vs = [.ref c, .ref l, sv, gv, .ref p, .ref en] ∧ CodH C H c kd w fl ∧ WdN w ∧ H l = some (.lst (itV as)) ∧ H row = some (.lst (itV as)) ∧ ItP H as ∧ as.length ≤ 900 ∧ GvOk H gv ∧ StOk kd sv as.length ∧ PlEnd PC H p row no told ended ∧ RunEnd as i told ended ∧
  H en = some (.dK kvs) ∧ (∀ kv ∈ kvs, ∃ n : Int, kv.2 = .int n) ∧ H no = some (.dK kns) ∧ (∀ kv ∈ kns, ∃ n : Int, kv.2 = .int n) ∧ ∀ H' v, Same H H' → Q v H'
theorem ok_bb {f g1 C PC : Addr} {mp : Nat → Addr} (T0 : FT K mg "broken_by" s_broken_by psBE f) (TP : PlT K mg PC mp) {d1 : FuncData}
    (F1 : Fun K "broken_at_end" "broken_at_end" s_broken_at_end g1 d1) (b1 : Binds K d1 psBE []) (m1 : mg "broken_at_end" = some (.ref g1)) (G1 : FnOk P w K mg base CX0 5 g1 d1 psBE (spBE C PC)) :
    ∃ fd, Fun K "broken_by" "broken_by" s_broken_by f fd ∧ Binds K fd psBE [] ∧ FnOk P w K mg base CX0 6 f fd psBE (spBB C PC) := by
  obtain ⟨fd, F, b⟩ := T0.fn
  refine ⟨fd, F, b, F.ok c_broken_by (fun vs H Q E h => ?_) (fun cdv A outer s H vs Q E hr h => ?_)⟩
  · obtain ⟨c, l, p, row, en, no, fl, as, kvs, kns, kd, w, i, sv, gv, told, ended, rfl, _⟩ := h
    rfl
  obtain ⟨c, l, p, row, en, no, fl, as, kvs, kns, kd, wn, i, sv, gv, told, ended, rfl, hc, hw, hl, hrow, hp, hn, hg, hst, hpl, hre, hen, hkv, hno, hkn, q⟩ := h
  refine ⟨_, pss_cons (ps_if (pt_cmpR op_eq (pe_fld (pv 4) rfl) pe_str (nomark _)) (pss_one (ps_ret (pe_tup (pa_cons pe_str pa_nil)))) pss_nil) <|
    pss_cons (ps_if (pt_cmpR op_eq (pe_fld (pv 4) rfl) pe_str (nomark _)) (pss_one (ps_ret (pe_tup (pa_cons pe_str pa_nil)))) pss_nil) <|
    pss_one (ps_ret (pe_call G1 hr rfl m1 F1.kp b1 .nil pass0 (pa_cons (pv 0) (pa_cons (pv 1) (pa_cons (pv 2) (pa_cons (pv 3) (pa_cons (pv 4) (pa_cons (pv 5) pa_nil)))))))), ?_⟩
  obtain ⟨dxp, fsp, p1, p2, p3, p4, p5⟩ := id hpl
  rcases hre with ⟨a, ha, rfl, rfl⟩ | ⟨_, _, rfl⟩
  · refine ⟨_, rfl, p, PC, dxp, fsp, _, rfl, p1, TP.cl, TP.n _ (by simp), p5, rfl, _, rfl, iteBF (by decide +kernel) ?_⟩
    refine ⟨_, rfl, p, PC, dxp, fsp, _, rfl, p1, TP.cl, TP.n _ (by simp), p5, rfl, _, rfl, iteBF (by decide +kernel) ?_⟩
    exact ⟨_, rfl, _, rfl, _, rfl, _, rfl, _, rfl, _, rfl, c, l, p, row, en, no, a, fl, as, kvs, kns, kd, wn, sv, gv, _, rfl, hc, hw, hl, hrow, hp, hn, List.mem_of_getElem? ha, hg, hst, hpl, hen, hkv, hno, hkn, q⟩
  · refine ⟨_, rfl, p, PC, dxp, fsp, _, rfl, p1, TP.cl, TP.n _ (by simp), p5, rfl, _, rfl, iteBT (by decide +kernel) ?_⟩
    exact ⟨(by show 1 ≤ sizeLine; decide), fun u nu => q _ _ (new_same nu)⟩
abbrev psFP : List Str := ["kind", "count", "start"]
def spFP : Sp := fun vs H Q _ => ∃ (kd : Str) (n : Nat) (sv v : V), vs = [.str kd, .int (n : Int), sv] ∧ ((kd ∈ startW ∧ v = sv) ∨ (kd ∉ startW ∧ v = .int (if kd = "put" then (n : Int) else 0))) ∧ Q v H
theorem ok_fp {f aS : Addr} (T0 : FT K mg "first_place" s_first_place psFP f) (cS : TupT K mg "WITH_START" aS (startW.map V.str)) : ∃ fd, Fun K "first_place" "first_place" s_first_place f fd ∧ Binds K fd psFP [] ∧ FnOk P w K mg base CX0 1 f fd psFP spFP := by
  obtain ⟨fd, F, b⟩ := T0.fn
  refine ⟨fd, F, b, F.ok c_first_place (fun vs H Q E h => ?_) (fun cdv A outer s H vs Q E hr h => ?_)⟩
  · obtain ⟨kd, n, sv, v, rfl, _⟩ := h
    rfl
  obtain ⟨kd, n, sv, v, rfl, hv, q⟩ := h
  refine ⟨_, pss_cons (ps_if (pt_cmpR op_in_seq (pv 0) (pe_glob (v := .ref aS) rfl cS.g rfl) rfl) (pss_one (ps_ret (pv 2))) pss_nil) <|
    pss_one (ps_ret (pe_ifExp (pt_cmpR op_eq (pv 0) pe_str (nomark _)) (pv 1) pe_int)), ?_⟩
  refine ⟨_, rfl, aS, _, rfl, .inr (cS.s _), rfl, flat_strs _, _, rfl, iteB (fun h1 => ?_) (fun h1 => ?_)⟩
  · have h1 := of_decide_eq_true (inV_strs.symm.trans h1)
    rcases hv with ⟨_, rfl⟩ | ⟨h, _⟩
    · exact ⟨_, rfl, q⟩
    · exact absurd h1 h
  · have h1 := of_decide_eq_false (inV_strs.symm.trans h1)
    rcases hv with ⟨h, _⟩ | ⟨_, rfl⟩
    · exact absurd h h1
    · refine ⟨_, rfl, rfl, _, rfl, iteB (fun h2 => ?_) (fun h2 => ?_)⟩
      · rw [if_pos (of_decide_eq_true (str_dec.symm.trans h2))] at q
        exact ⟨_, rfl, q⟩
      · rw [if_neg (of_decide_eq_false (str_dec.symm.trans h2))] at q
        exact q
end
end H2
namespace H2
open PySem PySem.Spec PyProof.Rows L2 Hx Nd Dun
section
variable {P : Program} {w : World} {K : PySem.W.Frag} {mg : Str → Option Value} {base : Heap} {D : Addr}
/-! ### Table -/
structure TbT (K : PySem.W.Frag) (mg : Str → Option Value) (C m : Addr) : Prop where
  g : mg "Table" = some (.ref C)
  mak : Mk K C m
  cl : Cls K C
  n : ∀ x ∈ (["older", "entries", "depth"] : List Str), NoAttr K C x
  f0 : ∃ fd, Fun K "__init__" "Table.__init__" s_Table_init m fd ∧ Binds K fd ["self", "older", "entries"] []
/-- the older table: none, or one with its depth -/
def OldT (C : Addr) (H : Hp) (ov : V) : Prop := ov = .non ∨ ∃ (o dx : Addr) (fs : List (Str × V)) (d : Int), ov = .ref o ∧ H o = some (.ins C dx fs) ∧ fs.lookup ("depth" : Str) = some (V.int d)
theorem OldT.keep {C : Addr} {H H' : Hp} {ov : V} (h : OldT C H ov) (e : Same H H') : OldT C H' ov := by
  rcases h with h | ⟨o, dx, fs, d, h1, h2, h3⟩
  · exact .inl h
  · exact .inr ⟨o, dx, fs, d, h1, e _ _ h2, h3⟩
theorem same_made_but {H A H' : Hp} {t d C : Addr} (s : Same H A) (nt : A t = none) (nd : A d = none) (ne : d ≠ t) (b : But t (upd (upd A d (.own t)) t (.ins C d [])) H') : Same H H' := fun a o z => b _ _ (ne_of_none (s _ _ z) nt) (made_row (C := C) (o := .ins C d []) s nt nd ne _ _ z)
abbrev psTb : List Str := ["self", "older", "entries"]
def spTb (C : Addr) : Sp := fun vs H Q _ => ∃ (t dx : Addr) (ov ev : V), vs = [.ref t, ov, ev] ∧ H t = some (.ins C dx []) ∧ OldT C H ov ∧ ov ≠ .ref t ∧ ∀ H' (d : Int), But t H H' → H' t = some (.ins C dx [("older", ov), ("entries", ev), ("depth", .int d)]) → Q .non H'
theorem ok_tb {C m : Addr} (T : TbT K mg C m) : ∃ fd, Fun K "__init__" "Table.__init__" s_Table_init m fd ∧ Binds K fd psTb [] ∧ FnOk P w K mg base CX0 1 m fd psTb (spTb C) := by
  obtain ⟨fd, F, b⟩ := T.f0
  refine ⟨fd, F, b, F.ok c_Table_init (fun vs H Q E h => ?_) (fun cdv A outer s H vs Q E hr h => ?_)⟩
  · obtain ⟨t, dx, ov, ev, rfl, _⟩ := h
    rfl
  obtain ⟨t, dx, ov, ev, rfl, ht, ho, hne, q⟩ := h
  refine ⟨_, pss_cons (ps_fld (pv 0) (pv 1) rfl) <| pss_cons (ps_fld (pv 0) (pv 2) rfl) <| pss_one (ps_fld (pv 0) (pe_ifExp (pt_cmp (pc_isN (pv 1))) pe_int (pe_op op_add (pe_fld (pv 1) rfl) pe_int)) rfl), ?_⟩
  refine ⟨_, rfl, _, rfl, t, C, dx, _, rfl, ht, T.cl, T.n _ (by simp), (by show 0 < 1000; decide), ?_⟩
  refine ⟨_, rfl, _, rfl, t, C, dx, _, rfl, upd_same, T.cl, T.n _ (by simp), (by show 1 < 1000; decide), ?_⟩
  rw [upd_upd]
  rcases ho with rfl | ⟨o, dxo, fso, d, rfl, h2, h3⟩
  · refine ⟨_, rfl, _, rfl, iteBT (by decide) ?_⟩
    refine ⟨_, rfl, t, C, dx, _, rfl, upd_same, T.cl, T.n _ (by simp), (by show 2 < 1000; decide), ?_⟩
    rw [upd_upd]
    exact q _ 0 But.upd upd_same
  · refine ⟨_, rfl, _, rfl, iteBF (decide_eq_false (by intro z; cases z)) ?_⟩
    have not_ : o ≠ t := fun z => hne (by rw [z])
    refine ⟨_, rfl, o, C, dxo, fso, _, rfl, by rw [upd_ne not_]; exact h2, T.cl, T.n _ (by simp), h3, _, _, rfl, rfl, ?_⟩
    refine ⟨_, rfl, t, C, dx, _, rfl, upd_same, T.cl, T.n _ (by simp), (by show 2 < 1000; decide), ?_⟩
    rw [upd_upd]
    exact q _ _ But.upd upd_same
end
end H2
namespace H2
open PySem PySem.Spec PyProof.Rows L2 Hx Nd Dun
section
variable {P : Program} {w : World} {K : PySem.W.Frag} {mg : Str → Option Value} {base : Heap} {D : Addr}
/-! ### Play, play -/
structure PyT (K : PySem.W.Frag) (mg : Str → Option Value) (C m : Addr) : Prop where
  g : mg "Play" = some (.ref C)
  mak : Mk K C m
  cl : Cls K C
  n : ∀ x ∈ (["ended", "left", "told", "compares", "broken", "_table", "_lines", "_sides", "_stations"] : List Str), NoAttr K C x
  f0 : ∃ fd, Fun K "__init__" "Play.__init__" s_Play_init m fd ∧ Binds K fd ["self", "player", "broken", "table"] []
theorem putF_len (f : Str) (v : V) : ∀ fs : List (Str × V), (putF f v fs).length ≤ fs.length + 1
  | [] => by simp [putF]
  | (g, u) :: r => by
    have := putF_len f v r
    simp only [putF]
    split
    · exact Nat.le_succ _
    · rw [List.length_cons, List.length_cons]
      omega
abbrev psPI : List Str := ["self", "player", "broken", "table"]
def spPI (C PC : Addr) : Sp := fun vs H Q _ => ∃ (q0 dx p dxp fl row en met us sd sm : Addr) (w : Nat) (st gv told ended br tb : V) (at' : Int) (as : List Addr), vs = [.ref q0, .ref p, br, tb] ∧ H q0 = some (.ins C dx []) ∧ H p = some (.ins PC dxp (plF fl w row st gv en told ended at' met us sd sm)) ∧ q0 ≠ p ∧
  H row = some (.lst (itV as)) ∧ H us = some (.dK [(Sum.inl 1, .bl true)]) ∧ H sd = some (.dK []) ∧ (∃ xs, H sm = some (.lst xs)) ∧ ∀ H', But q0 H H' → Q .non H'
theorem ok_pi {C PC m : Addr} {mp : Nat → Addr} (T : PyT K mg C m) (TP : PlT K mg PC mp) (tup : mg "tuple" = none) (srt : mg "sorted" = none) :
    ∃ fd, Fun K "__init__" "Play.__init__" s_Play_init m fd ∧ Binds K fd psPI [] ∧ FnOk P w K mg base CX0 1 m fd psPI (spPI C PC) := by
  obtain ⟨fd, F, b⟩ := T.f0
  refine ⟨fd, F, b, F.ok c_Play_init (fun vs H Q E h => ?_) (fun cdv A outer s H vs Q E hr h => ?_)⟩
  · obtain ⟨q0, dx, p, dxp, fl, row, en, met, us, sd, sm, w, st, gv, told, ended, br, tb, at', as, rfl, _⟩ := h
    rfl
  obtain ⟨q0, dx, p, dxp, fl, row, en, met, us, sd, sm, wn, st, gv, told, ended, br, tb, at', as, rfl, hq, hp, hne, hrow, hus, hsd, ⟨xs, hsm⟩, q⟩ := h
  refine ⟨_, pss_cons (ps_fld (pv 0) (pe_fld (pv 1) rfl) rfl) <| pss_cons (ps_fld (pv 0) (pe_callTy call_tuple_of (by rfl) tup (by decide +kernel) (pa_cons (pe_fld (pv 1) rfl) pa_nil)) rfl) <| pss_cons (ps_fld (pv 0) (pe_fld (pv 1) rfl) rfl) <| pss_cons (ps_fld (pv 0) (pe_fld (pv 1) rfl) rfl) <| pss_cons (ps_fld (pv 0) (pv 2) rfl) <|
    pss_cons (ps_fld (pv 0) (pv 3) rfl) <|
    pss_cons (ps_fld (pv 0) (pe_callTy call_tuple_of (by rfl) tup (by decide +kernel) (pa_cons (pe_callB (call_sortedDI rfl) (by rfl) srt (by decide +kernel) (pa_cons (pe_fld (pv 1) rfl) pa_nil)) pa_nil)) rfl) <|
    pss_cons (ps_fld (pv 0) (pe_callTy call_tuple_of (by rfl) tup (by decide +kernel) (pa_cons (pe_callB (call_sortedDI rfl) (by rfl) srt (by decide +kernel) (pa_cons (pe_fld (pv 1) rfl) pa_nil)) pa_nil)) rfl) <|
    pss_one (ps_fld (pv 0) (pe_callTy call_tuple_of (by rfl) tup (by decide +kernel) (pa_cons (pe_fld (pv 1) rfl) pa_nil)) rfl), ?_⟩
  have keep : ∀ {a : Addr} {o : HO} {G : Hp}, a ≠ q0 → H a = some o → But q0 H G → G a = some o := fun n h b => b _ _ n h
  have np : p ≠ q0 := fun z => hne z.symm
  have nrow : row ≠ q0 := ne_of hrow hq (by intro z; cases z)
  have nus : us ≠ q0 := ne_of hus hq (by intro z; cases z)
  have nsd : sd ≠ q0 := ne_of hsd hq (by intro z; cases z)
  have nsm : sm ≠ q0 := ne_of hsm hq (by intro z; cases z)
  have b0 : But q0 H H := But.refl _ _
  have q0' : H q0 = some (.ins C dx ([] : List (Str × V))) := hq
  have n0 : ([] : List (Str × V)).length ≤ 0 := Nat.le_refl _
  refine ⟨_, rfl, p, PC, dxp, _, _, rfl, keep np hp b0, TP.cl, TP.n _ (by simp), rfl, _, rfl, q0, C, dx, _, rfl, q0', T.cl, T.n _ (by simp), (by show 0 < 1000; decide), ?_⟩
  have b1 : But q0 H (upd H q0 (.ins C dx (putF "ended" ended []))) := (b0).trans But.upd
  have q1 : ∃ fs : List (Str × V), (upd H q0 (.ins C dx (putF "ended" ended []))) q0 = some (.ins C dx fs) ∧ fs.length ≤ 1 := ⟨_, upd_same, Nat.le_trans (putF_len _ _ _) (by omega)⟩
  generalize upd H q0 (.ins C dx (putF "ended" ended [])) = G1 at b1 q1 ⊢
  obtain ⟨f1, q1', n1⟩ := q1
  refine ⟨_, rfl, p, PC, dxp, _, _, rfl, keep np hp b1, TP.cl, TP.n _ (by simp), rfl, row, _, rfl, .inl ⟨SqL.of (keep nrow hrow b1), fun a2 na2 => ⟨_, rfl, q0, C, dx, _, rfl, (new_same na2) _ _ q1', T.cl, T.n _ (by simp), (by omega), ?_⟩⟩⟩
  have b2 : But q0 H (upd (upd G1 a2 (.tup (itV as))) q0 (.ins C dx (putF "left" (.ref a2) f1))) := (b1.trans (Same.but (new_same na2))).trans But.upd
  have q2 : ∃ fs : List (Str × V), (upd (upd G1 a2 (.tup (itV as))) q0 (.ins C dx (putF "left" (.ref a2) f1))) q0 = some (.ins C dx fs) ∧ fs.length ≤ 2 := ⟨_, upd_same, Nat.le_trans (putF_len _ _ _) (by omega)⟩
  generalize upd (upd G1 a2 (.tup (itV as))) q0 (.ins C dx (putF "left" (.ref a2) f1)) = G2 at b2 q2 ⊢
  obtain ⟨f2, q2', n2⟩ := q2
  refine ⟨_, rfl, p, PC, dxp, _, _, rfl, keep np hp b2, TP.cl, TP.n _ (by simp), rfl, _, rfl, q0, C, dx, _, rfl, q2', T.cl, T.n _ (by simp), (by omega), ?_⟩
  have b3 : But q0 H (upd G2 q0 (.ins C dx (putF "told" told f2))) := (b2).trans But.upd
  have q3 : ∃ fs : List (Str × V), (upd G2 q0 (.ins C dx (putF "told" told f2))) q0 = some (.ins C dx fs) ∧ fs.length ≤ 3 := ⟨_, upd_same, Nat.le_trans (putF_len _ _ _) (by omega)⟩
  generalize upd G2 q0 (.ins C dx (putF "told" told f2)) = G3 at b3 q3 ⊢
  obtain ⟨f3, q3', n3⟩ := q3
  refine ⟨_, rfl, p, PC, dxp, _, _, rfl, keep np hp b3, TP.cl, TP.n _ (by simp), rfl, _, rfl, q0, C, dx, _, rfl, q3', T.cl, T.n _ (by simp), (by omega), ?_⟩
  have b4 : But q0 H (upd G3 q0 (.ins C dx (putF "compares" (.int 0) f3))) := (b3).trans But.upd
  have q4 : ∃ fs : List (Str × V), (upd G3 q0 (.ins C dx (putF "compares" (.int 0) f3))) q0 = some (.ins C dx fs) ∧ fs.length ≤ 4 := ⟨_, upd_same, Nat.le_trans (putF_len _ _ _) (by omega)⟩
  generalize upd G3 q0 (.ins C dx (putF "compares" (.int 0) f3)) = G4 at b4 q4 ⊢
  obtain ⟨f4, q4', n4⟩ := q4
  refine ⟨_, rfl, _, rfl, q0, C, dx, _, rfl, q4', T.cl, T.n _ (by simp), (by omega), ?_⟩
  have b5 : But q0 H (upd G4 q0 (.ins C dx (putF "broken" br f4))) := (b4).trans But.upd
  have q5 : ∃ fs : List (Str × V), (upd G4 q0 (.ins C dx (putF "broken" br f4))) q0 = some (.ins C dx fs) ∧ fs.length ≤ 5 := ⟨_, upd_same, Nat.le_trans (putF_len _ _ _) (by omega)⟩
  generalize upd G4 q0 (.ins C dx (putF "broken" br f4)) = G5 at b5 q5 ⊢
  obtain ⟨f5, q5', n5⟩ := q5
  refine ⟨_, rfl, _, rfl, q0, C, dx, _, rfl, q5', T.cl, T.n _ (by simp), (by omega), ?_⟩
  have b6 : But q0 H (upd G5 q0 (.ins C dx (putF "_table" tb f5))) := b5.trans But.upd
  have q6 : ∃ fs : List (Str × V), (upd G5 q0 (.ins C dx (putF "_table" tb f5))) q0 = some (.ins C dx fs) ∧ fs.length ≤ 6 := ⟨_, upd_same, Nat.le_trans (putF_len _ _ _) (by omega)⟩
  generalize upd G5 q0 (.ins C dx (putF "_table" tb f5)) = G6 at b6 q6 ⊢
  obtain ⟨f6, q6', n6⟩ := q6
  refine ⟨_, rfl, p, PC, dxp, _, _, rfl, keep np hp b6, TP.cl, TP.n _ (by simp), rfl, us, _, [1], rfl, .inl (keep nus hus b6), rfl, by decide, fun ys r7 _ _ nr7 => ⟨r7, _, rfl, .inl ⟨SqL.of upd_same, fun a7 na7 => ⟨_, rfl, q0, C, dx, _, rfl, (new_same na7) _ _ ((new_same nr7) _ _ q6'), T.cl, T.n _ (by simp), (by omega), ?_⟩⟩⟩⟩
  have b7 : But q0 H (upd (upd (upd G6 r7 (.lst (ys.map V.int))) a7 (.tup (ys.map V.int))) q0 (.ins C dx (putF "_lines" (.ref a7) f6))) := (b6.trans (Same.but ((new_same nr7).trans (new_same na7)))).trans But.upd
  have q7 : ∃ fs : List (Str × V), (upd (upd (upd G6 r7 (.lst (ys.map V.int))) a7 (.tup (ys.map V.int))) q0 (.ins C dx (putF "_lines" (.ref a7) f6))) q0 = some (.ins C dx fs) ∧ fs.length ≤ 7 := ⟨_, upd_same, Nat.le_trans (putF_len _ _ _) (by omega)⟩
  generalize upd (upd (upd G6 r7 (.lst (ys.map V.int))) a7 (.tup (ys.map V.int))) q0 (.ins C dx (putF "_lines" (.ref a7) f6)) = G7 at b7 q7 ⊢
  obtain ⟨f7, q7', n7⟩ := q7
  refine ⟨_, rfl, p, PC, dxp, _, _, rfl, keep np hp b7, TP.cl, TP.n _ (by simp), rfl, sd, _, [], rfl, .inl (keep nsd hsd b7), rfl, by decide, fun zs r8 _ _ nr8 => ⟨r8, _, rfl, .inl ⟨SqL.of upd_same, fun a8 na8 => ⟨_, rfl, q0, C, dx, _, rfl, (new_same na8) _ _ ((new_same nr8) _ _ q7'), T.cl, T.n _ (by simp), (by omega), ?_⟩⟩⟩⟩
  have b8 : But q0 H (upd (upd (upd G7 r8 (.lst (zs.map V.int))) a8 (.tup (zs.map V.int))) q0 (.ins C dx (putF "_sides" (.ref a8) f7))) := (b7.trans (Same.but ((new_same nr8).trans (new_same na8)))).trans But.upd
  have q8 : ∃ fs : List (Str × V), (upd (upd (upd G7 r8 (.lst (zs.map V.int))) a8 (.tup (zs.map V.int))) q0 (.ins C dx (putF "_sides" (.ref a8) f7))) q0 = some (.ins C dx fs) ∧ fs.length ≤ 8 := ⟨_, upd_same, Nat.le_trans (putF_len _ _ _) (by omega)⟩
  generalize upd (upd (upd G7 r8 (.lst (zs.map V.int))) a8 (.tup (zs.map V.int))) q0 (.ins C dx (putF "_sides" (.ref a8) f7)) = G8 at b8 q8 ⊢
  obtain ⟨f8, q8', n8⟩ := q8
  refine ⟨_, rfl, p, PC, dxp, _, _, rfl, keep np hp b8, TP.cl, TP.n _ (by simp), rfl, sm, _, rfl, .inl ⟨SqL.of (keep nsm hsm b8), fun a9 na9 => ⟨_, rfl, q0, C, dx, _, rfl, (new_same na9) _ _ q8', T.cl, T.n _ (by simp), (by omega), ?_⟩⟩⟩
  exact q _ ((b8.trans (Same.but (new_same na9))).trans But.upd)
end
end H2
namespace H2
open PySem PySem.Spec PyProof.Rows L2 Hx Nd Dun
section
variable {P : Program} {w : World} {K : PySem.W.Frag} {mg : Str → Option Value} {base : Heap} {D : Addr}
/-! ### x = {k: v for ..} -/
theorem ps_setDc {X : Cx} {i : Nat} {y : Str} {py : Pos} {kx vx tg iter : Expr} {ifs : List Expr} {scope : Scope} {own : List (Str × Nat)} {pos spos : Pos} {wi : TI} {g : TG} {tt : TT} {tk tv : TE} (hc : X.calm = true) (hN : X.N.Nodup) (hy : X.N[i]? = some y) (hyl : X.env.scope.names.lookup y = some .local)
    (hsw : swapsWith (.DictComp kx vx [⟨tg, iter, ifs, 0⟩] scope pos) (some (.Name y py)) spos.line X.env = pure true) (hi : PI X tg iter wi) (ok : BlkOk X.N X.env.scope scope own)
    (hg : ∀ (s : Shared) (H : Hp) (C : Addr) (cl : List (Str × Addr)) (fp : List Addr), PG (X.blk s H scope (compEnvC scope cl C X.env) fp) tg g)
    (ht : ∀ (s : Shared) (H : Hp) (C : Addr) (cl : List (Str × Addr)) (fp : List Addr), PTs (X.blk s H scope (compEnvC scope cl C X.env) fp) ifs tt)
    (hk : ∀ (s : Shared) (H : Hp) (C : Addr) (cl : List (Str × Addr)) (fp : List Addr), PE (X.blk s H scope (compEnvC scope cl C X.env) fp) kx tk)
    (hv : ∀ (s : Shared) (H : Hp) (C : Addr) (cl : List (Str × Addr)) (fp : List Addr), PE (X.blk s H scope (compEnvC scope cl C X.env) fp) vx tv) (hs : ∀ x, foldedSetIterable iter X.env x = pure x := by intro _; rfl) :
    PS X (.Assign [.Name y py] (.DictComp kx vx [⟨tg, iter, ifs, 0⟩] scope pos) spos) (tAsg (tDc wi g tt tk tv (own.map (·.2))) (gName i)) := by
  constructor
  intro pins s σ H D I h
  rw [exec_Assign_Name_used y py (.DictComp kx vx [⟨tg, iter, ifs, 0⟩] scope pos) spos hsw]
  refine wpAny_bind (wpAny_standAt (wpAny_bind ?_))
  refine wpAny_bind (thn (dc_core hc hN I hi ok hg ht hk hv hs h fun L C s' m H' I' q hn f => ?_) fun x s' hq => wpAny_pure (wpAny_pure hq))
  refine wpAny_assign_Name (store_ok2 (v := V.ref L) I' hN hy (Or.inl hyl) rfl (fun s2 I2 x => ?_) (Or.inr hyl))
  obtain ⟨a, sb, ha⟩ := x
  obtain ⟨f0, f1, f2, f3, f4, f5⟩ := f
  have haC : C ≠ a := by
    rcases ha with z | z
    · rw [z]; exact f1
    · exact fun e => f4 y a z e.symm
  exact ⟨m, Heap.Ns.sameBut hn sb haC, fun h3 sb3 => ⟨σ.set i (some (V.ref L)), H', I2.turned (fun b o hb e => (sb3.2 b hb).trans e) f0 f1 f3 f4 f5, q⟩⟩
theorem sw_trueD {kx vx : Expr} {gs : List Comprehension} {scope : Scope} {pos py : Pos} {y : Str} {l : Nat} {env : Env} (h1 : env.scope.kind = ScopeKind.function) (h2 : env.scope.names.lookup y = some NameKind.local) (h3 : (py.line == pos.line) = true)
    (h4 : (scope.names.any fun x => match x with | (n, k) => n == y && (k == NameKind.local || k == NameKind.cell)) = false) : swapsWith (.DictComp kx vx gs scope pos) (some (.Name y py)) l env = pure true := by
  have e : swapsWith (.DictComp kx vx gs scope pos) (some (.Name y py)) l env = swapsWith (.ListComp kx gs scope pos) (some (.Name y py)) l env := rfl
  rw [e]
  exact sw_true h1 h2 h3 h4
end
end H2
namespace H2
open PySem PySem.Spec PyProof.Rows L2 Hx Nd Dun
section
variable {P : Program} {w : World} {K : PySem.W.Frag} {mg : Str → Option Value} {base : Heap} {D : Addr}
/-! ### play -/
theorem dc_enum {K : PySem.W.Frag} {a : Addr} {xs : List V} {g : TG} {tt : TT} {tk tv : TE} {vs : List Nat} {σ : L2.St} {H1 : Hp} {D : Addr} {Qd : Hp → Prop} (Pv : Nat → Hp → Prop) (h0 : Pv 0 (upd H1 D (.dK []))) (hl : ∀ i H, i ≤ xs.length → Pv i H → SqL K H a xs)
    (hs : ∀ i x H T, xs[i]? = some x → Pv i H → H T = none → g (.ref T) (wipe σ vs) (upd H T (.tup [.int (i : Nat), x])) fun σ2 H2 => wipe σ2 vs = wipe σ vs ∧ tt σ2 H2 fun b H3 =>
      if b = true then tk σ2 H3 fun y H4 => tv σ2 H4 fun z H5 => ∃ (kvs : List (Key × V)) (k : Key), y = kV k ∧ H5 D = some (.dK kvs) ∧ kvs.length < sizeLine ∧ Pv (i + 1) (upd H5 D (.dK (putK kvs k z))) else Pv (i + 1) H3) (hd : ∀ H, Pv xs.length H → Qd H) :
    ∃ W : Nat → Nat → Hp → Prop, (∃ m, W 0 m (upd H1 D (.dK []))) ∧ ∀ i m H, W i m H →
      ((Ite K a).stop i H ∧ Qd H) ∨ ((Ite K a).go i H ∧ ∃ Nx : Hp → Prop, (∀ H', Nx H' → ∃ m', m' < m ∧ W (i + 1) m' H') ∧ ∀ x H', (Ite K a).yld i H x H' → g x (wipe σ vs) H' fun σ2 H2 => wipe σ2 vs = wipe σ vs ∧ tt σ2 H2 fun b H3 =>
        if b = true then tk σ2 H3 fun y H4 => tv σ2 H4 fun z H5 => ∃ (kvs : List (Key × V)) (k : Key), y = kV k ∧ H5 D = some (.dK kvs) ∧ kvs.length < sizeLine ∧ Nx (upd H5 D (.dK (putK kvs k z))) else Nx H3) := by
  refine ⟨fun i m H => m = xs.length - i ∧ i ≤ xs.length ∧ Pv i H, ⟨_, rfl, Nat.zero_le _, h0⟩, ?_⟩
  rintro i m H ⟨rfl, hi, p⟩
  have q := hl i H hi p
  rcases Nat.lt_or_ge i xs.length with hlt | hge
  · refine .inr ⟨⟨xs, xs[i], q, List.getElem?_eq_getElem hlt⟩, Pv (i + 1), fun H' p' => ⟨xs.length - (i + 1), by omega, rfl, hlt, p'⟩, fun x H' y => ?_⟩
    obtain ⟨T, z, rfl, nT, rfl, y⟩ := y
    exact hs i z H T (y xs q) p nT
  · have e : i = xs.length := Nat.le_antisymm hi hge
    subst e
    exact .inl ⟨⟨xs, q, Nat.le_refl _⟩, hd H p⟩
abbrev psPy : List Str := ["code", "items", "start", "given"]
def CaseOk (K : PySem.W.Frag) (H : Hp) (kd : Str) (w : Nat) (its : List (Int × Int)) (sv gv : V) : Prop := MkNd its ∧ WdN w ∧ its.length ≤ 900 ∧ StartV K H kd its.length sv true ∧ GivV K H kd its gv true ∧ GvOk H gv ∧ StOk kd sv its.length ∧ (kd ∈ startW ∨ kd ∈ heapsW)
def spPlay (K : PySem.W.Frag) (C CF CR CB : Addr) : Sp := fun vs H Q E => ∃ (c l : Addr) (as : List Addr) (its : List (Int × Int)) (kd : Str) (w : Nat) (sv gv : V) (fb : Bool), vs = [.ref c, .ref l, sv, gv] ∧ CodD K C CF CR H c kd w ∧ H l = some (.lst (itV as)) ∧ ItA H as its ∧ CaseOk K H kd w its sv gv ∧ FitV kd w its sv fb ∧
  (fb = false → ∀ H', Same H H' → err1 CB "what" (.str "items") H' E) ∧ (fb = true → ∀ H' v, Same H H' → Q v H')
theorem ok_play {f g1 g2 g3 C CF CR PC YC ym BC bm : Addr} {mp : Nat → Addr} {EC : Nat → Addr} {fd : FuncData} (F : FunD K "play" "play" (defArgs s_play) (defBody s_play) (defScope s_play) [.non, .non] [] f fd) (CA : CodA K C) (TP : PlT K mg PC mp) (TY : PyT K mg YC ym) (TB : TbT K mg BC bm) (len : mg "len" = none) (enu : mg "enumerate" = none) {d1 d2 d3 pd rd yd td : FuncData}
    (F1 : Fun K "check_case" "check_case" s_check_case g1 d1) (b1 : Binds K d1 psCC []) (m1 : mg "check_case" = some (.ref g1)) (G1 : FnOk P w K mg base (L2.CX P w) 5 g1 d1 psCC (spCheck K C (EC 6)))
    (F2 : Fun K "first_place" "first_place" s_first_place g2 d2) (b2 : Binds K d2 psFP []) (m2 : mg "first_place" = some (.ref g2)) (G2 : FnOk P w K mg base CX0 1 g2 d2 psFP spFP)
    (F3 : Fun K "broken_by" "broken_by" s_broken_by g3 d3) (b3 : Binds K d3 psBE []) (m3 : mg "broken_by" = some (.ref g3)) (G3 : FnOk P w K mg base CX0 6 g3 d3 psBE (spBB C PC))
    (bP : Binds K pd psPlr []) (GP : FnOk P w K mg base CX0 1 (mp 0) pd psPlr (spPl K PC C))
    (bR : Binds K rd ["self"] []) (GR : FnOk P w K mg base CX0 4 (mp 4) rd ["self"] (spRun7 K PC CF CR))
    (bT : Binds K td psTb []) (GT : FnOk P w K mg base CX0 1 bm td psTb (spTb BC))
    (bY : Binds K yd psPI []) (GY : FnOk P w K mg base CX0 1 ym yd psPI (spPI YC PC)) :
    FnOk P w K mg base (L2.CX P w) 7 f fd psPy (spPlay K C CF CR (EC 6)) := by
  refine F.ok (CX := L2.CX P w) c_play (fun vs H Q E h => ?_) (fun cdv A outer s H vs Q E hr h => ?_)
  · obtain ⟨c, l, as, its, kd, w, sv, gv, fb, rfl, _⟩ := h
    rfl
  obtain ⟨c, l, as, its, kd, wn, sv, gv, fb, rfl, hc, hl, ha, ⟨hm, hw, hn, hs, hg, hgo, hst, hkd⟩, hf, q1, q2⟩ := h
  have tk : Takes (cxOf (L2.CX P w) P w K mg base n_play "play" (defScope s_play) f cdv A outer s H E) (fun cls d _ G => E cls d G) := takes_of rfl rfl rfl rfl
  refine ⟨_, pss_cons (ps_expr (pe_callS G1 (hr.mono (by decide)) rfl m1 F1.kp b1 (fun σ => passAt tk σ) (pa_cons (pv 0) (pa_cons (pv 1) (pa_cons (pv 2) (pa_cons (pv 3) pa_nil)))))) <|
    pss_cons (ps_setDc (i := 4) (own := [("place", 5), ("item", 6)]) (g := gTup K 2 (gCons (gName 5) (gCons (gName 6) gNil))) (tt := tYes) rfl c_play.nd rfl rfl (sw_trueD rfl rfl rfl (by decide +kernel)) (pi_enum (by rfl) enu (pa_cons (pv 1) pa_nil)) (blkOk_by (own := [("place", 5), ("item", 6)]) (N := n_play) (sc := defScope s_play) (by decide +kernel))
      (fun _ _ _ _ _ => pg_tup rfl (pgs_cons (pg_name (i := 5) c_play.nd rfl (Or.inl rfl)) (pgs_cons (pg_name (i := 6) c_play.nd rfl (Or.inl rfl)) pgs_nil))) (fun _ _ _ _ _ => pts_nil) (fun _ _ _ _ _ => pe_ix (ix_tupk (K' := K) rfl) (pv 6) pe_int (fun _ _ => rfl)) (fun _ _ _ _ _ => pv 5)) <|
    pss_cons (ps_set (i := 7) c_play.nd rfl (Or.inl rfl) (pe_make TP.mak GP (hr.mono (by decide)) rfl TP.g bP .nil pass0 (pa_cons (pv 0) (pa_cons (pv 1) (pa_cons (pe_call G2 (hr.mono (by decide)) rfl m2 F2.kp b2 .nil pass0 (pa_cons (pe_fld (pv 0) rfl) (pa_cons (pe_callB call_len_seq (by rfl) len PySem.boot_len (pa_cons (pv 1) pa_nil)) (pa_cons (pv 2) pa_nil)))) (pa_cons (pv 3) pa_nil)))))) <|
    pss_cons (ps_expr (pe_meth0 (pv 7) TP.cl TP.f4.m GR (hr.mono (by decide)) bR .nil pass0)) <|
    pss_cons (ps_set (i := 8) c_play.nd rfl (Or.inl rfl) (pe_call G3 (hr.mono (by decide)) rfl m3 F3.kp b3 .nil pass0 (pa_cons (pv 0) (pa_cons (pv 1) (pa_cons (pv 2) (pa_cons (pv 3) (pa_cons (pv 7) (pa_cons (pv 4) pa_nil)))))))) <|
    pss_one (ps_ret (pe_make TY.mak GY (hr.mono (by decide)) rfl TY.g bY .nil pass0 (pa_cons (pv 7) (pa_cons (pv 8) (pa_cons (pe_make TB.mak GT (hr.mono (by decide)) rfl TB.g bT .nil pass0 (pa_cons (pe_make TB.mak GT (hr.mono (by decide)) rfl TB.g bT .nil pass0 (pa_cons pe_non (pa_cons (pv 4) pa_nil))) (pa_cons (pe_fld (pv 7) rfl) pa_nil))) pa_nil))))), ?_⟩
  obtain ⟨fl, r0, hcod, hfl, hrow0⟩ := id hc
  refine ⟨_, rfl, _, rfl, _, rfl, _, rfl, c, fl, l, as, its, sv, gv, kd, wn, true, rfl, hcod, SqL.of hl, ha, hm, hw, hn, hs, fun z => Bool.noConfusion z, fun _ => ⟨true, hg, fun z => Bool.noConfusion z, fun _ => ⟨fb, hf, q1, fun hfb H1 s1 => ?_⟩⟩⟩
  have hasl : as.length = its.length := ha.1
  -- the entries
  have hl1 := s1 _ _ hl
  refine ⟨_, rfl, l, _, rfl, SqL.of hl1, fun en nen => dc_enum (xs := itV as) (fun i G => Same H1 G ∧ ∃ kvs : List (Key × V), G en = some (.dK kvs) ∧ kvs.length ≤ i ∧ ∀ kv ∈ kvs, ∃ n : Int, kv.2 = .int n) ⟨new_same nen, [], upd_same, Nat.le_refl _, fun _ h => by cases h⟩ ?_ ?_ ?_⟩
  · rintro i G _ ⟨sG, _⟩
    exact SqL.of (sG _ _ hl1)
  · rintro i x G T hx ⟨sG, kvs, een, hkl, hkv⟩ nT
    obtain ⟨a, e1, rfl⟩ := itV_at hx
    obtain ⟨hil, e2⟩ := ha.get e1
    have sT := same_new (o := .tup [.int (i : Nat), .ref a]) sG nT
    have e3 := sT _ _ (s1 _ _ e2)
    refine ⟨T, _, rfl, SqT.of upd_same, rfl, _, _, rfl, _, _, rfl, rfl, ?_⟩
    unfold tYes
    dsimp only
    rw [if_pos rfl]
    refine ⟨rfl, ?_⟩
    refine ⟨_, rfl, a, _, _, _, rfl, rfl, SqT.of e3, rfl, _, rfl, kvs, Sum.inl (mkA its i), rfl, (new_same nT) _ _ een, big (by omega), same_out sT nen, _, upd_same, Nat.le_trans put_len (by omega), fun kv h => ?_⟩
    rcases mem_put h with h | h
    · exact hkv kv h
    · rw [h]
      exact ⟨_, rfl⟩
  rintro H2 ⟨s2, kvs, een, hkl, hkv⟩
  have s12 : Same H H2 := fun c o z => s2 _ _ (s1 _ _ z)
  -- the player
  obtain ⟨dxc, fsc, o1, l1, l2, l3⟩ := id hcod
  obtain ⟨i, hi⟩ : ∃ i : Nat, (kd ∈ startW → sv = .int (i : Int)) ∧ (kd ∉ startW → (if kd = "put" then ((its.length : Nat) : Int) else 0) = (i : Int)) := by
    by_cases h : kd ∈ startW
    · obtain ⟨s0, e, _⟩ := hst h
      exact ⟨s0, fun _ => e, fun z => absurd h z⟩
    · by_cases h2 : kd = "put"
      · exact ⟨its.length, fun z => absurd z h, fun _ => by rw [if_pos h2]⟩
      · exact ⟨0, fun z => absurd z h, fun _ => by rw [if_neg h2]; rfl⟩
  refine ⟨_, rfl, _, rfl, _, rfl, c, C, dxc, fsc, _, rfl, s12 _ _ o1, CA.cl, CA.nk, l1, _, rfl, l, _, rfl, .inl (SqL.of (s12 _ _ hl)), _, rfl, kd, its.length, sv, .int (i : Int), by rw [len_it, hasl]; rfl, ?_, ?_⟩
  · by_cases h : kd ∈ startW
    · exact .inl ⟨h, (hi.1 h).symm⟩
    · exact .inr ⟨h, by rw [hi.2 h]⟩
  refine ⟨_, rfl, fun p dx np nd ne => ?_⟩
  have sM := made_row (C := PC) (o := .ins PC dx []) (Same.refl H2) np nd ne
  have ncp : c ≠ p := ne_of_none (s12 _ _ o1) np
  refine ⟨p, dx, c, l, fl, as, kd, wn, .int (i : Int), gv, rfl, upd_same, hcod.keep (fun a o z => sM _ _ (s12 _ _ z)), sM _ _ (s12 _ _ hl), ncp, fun H3 row no met us sd sm b3 hp3 hrow hno hus hsd hsm nrow nus nussd nonus => ⟨rfl, ?_⟩⟩
  have s23 : Same H2 H3 := fun a o z => b3 _ _ (ne_of_none z np) (sM _ _ z)
  have s13 : Same H H3 := fun a o z => s23 _ _ (s12 _ _ z)
  have nrowH : H row = none := free_same (fun a o z => sM _ _ (s12 _ _ z)) nrow
  have nusH : H us = none := free_same (fun a o z => sM _ _ (s12 _ _ z)) nus
  have npH : H p = none := free_same s12 np
  -- the run
  refine ⟨_, rfl, p, dx, _, rfl, hp3, rfl, p, dx, r0, fl, row, no, met, us, sd, sm, wn, i, gv, as, rfl, hp3, hrow, by rw [hasl]; exact hn, hus, hrow0.keep s13, hfl.keep s13, fun H4 told ended at' hre hd => ?_⟩
  obtain ⟨s4, hp4, hus4⟩ := id hd
  have s34 : ∀ {a o}, H3 a = some o → a ≠ p → a ≠ us → H4 a = some o := fun z n1 n2 => s4 _ _ n1 n2 z
  have sH4 : Same H H4 := fun a o z => s34 (s13 _ _ z) (ne_of_none z npH) (ne_of_none z nusH)
  have hrow4 := s34 hrow (ne_of hrow hp3 (by intro z; cases z)) (ne_of hrow hus (by intro z; cases z))
  have een3 := s23 _ _ een
  have nenus : en ≠ us := fun z => by
    rw [z] at een
    have := sM _ _ een
    rw [nus] at this
    cases this
  have een4 := s34 een3 (ne_of een3 hp3 (by intro z; cases z)) nenus
  have hno4 := s34 hno (ne_of hno hp3 (by intro z; cases z)) nonus
  have hsd4 := s34 hsd (ne_of hsd hp3 (by intro z; cases z)) nussd.symm
  have hsm4 := s34 hsm (ne_of hsm hp3 (by intro z; cases z)) (ne_of hsm hus (by intro z; cases z))
  refine ⟨_, rfl, _, rfl, _, rfl, _, rfl, _, rfl, _, rfl, c, l, p, row, en, no, fl, as, kvs, [], kd, wn, i, sv, gv, told, ended, rfl, hcod.keep sH4, hw, sH4 _ _ hl, hrow4, ha.p.keep sH4, by rw [hasl]; exact hn, hgo.keep sH4, by rw [hasl]; exact hst, ⟨dx, _, hp4, rfl, rfl, rfl, rfl⟩, hre, een4, hkv, hno4, (fun kv h => by cases h), fun H5 v5 s5 => ?_⟩
  refine ⟨_, rfl, _, rfl, _, rfl, fun t1 e1 nt1 ne1 net1 => ⟨t1, e1, .non, .ref en, rfl, upd_same, .inl rfl, (by intro z; cases z), fun H6 dp1 b6 ht1 => ⟨rfl, ?_⟩⟩⟩
  have s6 := same_made_but s5 nt1 ne1 net1 b6
  refine ⟨_, rfl, p, PC, dx, _, _, rfl, s6 _ _ hp4, TP.cl, TP.n _ (by simp), rfl, fun t2 e2 nt2 ne2 net2 => ⟨t2, e2, .ref t1, .ref no, rfl, upd_same, ?_, ?_, fun H7 dp2 b7 ht2 => ⟨rfl, ?_⟩⟩⟩
  · exact .inr ⟨t1, e1, _, dp1, rfl, (made_row (C := BC) (o := .ins BC e2 []) (Same.refl H6) nt2 ne2 net2) _ _ ht1, rfl⟩
  · intro z
    cases z
    rw [ht1] at nt2
    cases nt2
  have s7 := same_made_but s6 nt2 ne2 net2 b7
  refine fun q0 dq nq ndq neq => ?_
  have s8 := made_row (C := YC) (o := .ins YC dq []) s7 nq ndq neq
  have nqp : q0 ≠ p := (ne_of_none (s7 _ _ hp4) nq).symm
  refine ⟨q0, dq, p, dx, fl, row, no, met, us, sd, sm, wn, .int (i : Int), gv, told, ended, v5, .ref t2, at', as, rfl, upd_same, s8 _ _ hp4, nqp, s8 _ _ hrow4, s8 _ _ hus4, s8 _ _ hsd4, ⟨_, s8 _ _ hsm4⟩, fun H9 b9 => ⟨rfl, ?_⟩⟩
  refine q2 hfb H9 _ fun a o z => b9 _ _ (ne_of_none (s7 _ _ (sH4 _ _ z)) nq) (s8 _ _ (sH4 _ _ z))
end
end H2
namespace H2
open PySem PySem.Spec PyProof.Rows L2 Hx Nd Dun
section
variable {P : Program} {w : World} {K : PySem.W.Frag} {mg : Str → Option Value} {base : Heap} {D : Addr}
/-! ### _law_told -/
theorem passN {X : Cx} : Passes (L2.CX X.prog X.w) X E0 := by
  rintro pins σ H s e s' _ ⟨a, B, H', cls, d, _, _, _, _, _, _, _, z⟩
  exact z.elim
theorem look1 {f : Str} {a : V} : List.lookup f [(f, a)] = some a := by simp [List.lookup]
abbrev psTd : List Str := ["_law_code", "_law_row", "_law_start", "_law_given"]
def spTold7 (K : PySem.W.Frag) (C CF CR : Addr) : Sp := fun vs H Q _ => ∃ (c l : Addr) (as : List Addr) (its : List (Int × Int)) (kd : Str) (w : Nat) (sv gv : V) (fb : Bool), vs = [.ref c, .ref l, sv, gv] ∧ CodD K C CF CR H c kd w ∧ H l = some (.lst (itV as)) ∧ ItA H as its ∧ CaseOk K H kd w its sv gv ∧ FitV kd w its sv fb ∧
  ∀ H', Same H H' → Q (.str (if fb = true then "taken" else "items")) H'
theorem ok_told7 {f g1 C CF CR DB : Addr} {EC EI : Nat → Addr} (T0 : FT K mg "_law_told" s_Ltold psTd f) (ET : ErrC K mg DB EC EI) (ex6 : PySem.W.exmOne K (.ref (EC 6)) (.ref (EC 6)) = some true) {d1 : FuncData}
    (m1 : mg "play" = some (.ref g1)) (k1 : PySem.W.keepIn K (.ref g1) = true) (b1 : Binds K d1 psPy []) (G1 : FnOk P w K mg base (L2.CX P w) 7 g1 d1 psPy (spPlay K C CF CR (EC 6))) :
    ∃ fd, Fun K "_law_told" "_law_told" s_Ltold f fd ∧ Binds K fd psTd [] ∧ FnOk P w K mg base CX0 8 f fd psTd (spTold7 K C CF CR) := by
  obtain ⟨fd, F, b⟩ := T0.fn
  refine ⟨fd, F, b, F.ok c_Ltold (fun vs H Q E h => ?_) (fun cdv A outer s H vs Q E hr h => ?_)⟩
  · obtain ⟨c, l, as, its, kd, w, sv, gv, fb, rfl, _⟩ := h
    rfl
  obtain ⟨c, l, as, its, kd, wn, sv, gv, fb, rfl, hc, hl, ha, hk, hf, q⟩ := h
  refine ⟨_, pss_cons (ps_try_any (Wout := fun _ _ _ _ => False) (tb := fun W => tDrop (tCallS (spPlay K C CF CR (EC 6)) (fun σ cls d H' => W cls d σ H') (tCons (tVar 0) (tCons (tVar 1) (tCons (tVar 2) (tCons (tVar 3) tNil)))))) rfl rfl takes0
        (fun W pn xe tk _ => pss_one (ps_expr (pe_callS G1 hr rfl m1 k1 b1 (fun σ => passAt tk σ) (pa_cons (pv 0) (pa_cons (pv 1) (pa_cons (pv 2) (pa_cons (pv 3) pa_nil)))))))
        (.as (i := 4) c_Ltold.nd rfl rfl ⟨rfl, by decide, .inl ET.t6.ex.gC⟩ (fun a oe cls d pn hz hf => pss_one (ps_ret (pe_xf ET.t6.xf (ET.t6.nf _ (by simp)) hz hf (pv 4)))) .nil)) <|
    pss_one (ps_ret pe_str), ?_⟩
  refine ⟨_, rfl, _, rfl, _, rfl, _, rfl, c, l, as, its, kd, wn, sv, gv, fb, rfl, hc, hl, ha, hk, hf, fun hfb H' s' d nd => ?_, fun hfb H' v s' => ?_⟩
  · rw [hfb] at q
    refine ⟨true, ex6, fun _ a na => ?_, fun z => Bool.noConfusion z⟩
    exact ⟨_, rfl, rfl, rfl, d, _, _, rfl, upd_same, look1, q _ (same_new s' nd)⟩
  · rw [hfb] at q
    exact q _ s'
end
end H2
namespace H2
open PySem PySem.Spec PyProof.Rows L2 Hx Nd Dun
section
variable {P : Program} {w : World} {K : PySem.W.Frag} {mg : Str → Option Value} {base : Heap} {D : Addr}
/-! ### the law: helpers -/
theorem CodD.butD {C CF CR c p : Addr} {H H' : Hp} {kd : Str} {w : Nat} (h : CodD K C CF CR H c kd w) (b : But p H H') (hp : ∃ kvs, H p = some (.dK kvs)) : CodD K C CF CR H' c kd w := by
  obtain ⟨kvs, hk⟩ := hp
  have tu : Nd.Tups H H' := fun b' xs r => by
    rcases r with r | ⟨o, r⟩
    · exact .inl (b _ _ (ne_of r hk (by intro z; cases z)) r)
    · exact .inr ⟨o, b _ _ (ne_of r hk (by intro z; cases z)) r⟩
  obtain ⟨fl, r, ⟨dx, fs, h1, h2⟩, ⟨dxf, gs, tr, ta, tb, f1, f2, f3, f4, f5, f6, f7, f8⟩, ⟨dxr, tt, nu, r1, r2, r3⟩⟩ := h
  exact ⟨fl, r, ⟨dx, fs, b _ _ (ne_of h1 hk (by intro z; cases z)) h1, h2⟩, ⟨dxf, gs, tr, ta, tb, b _ _ (ne_of f1 hk (by intro z; cases z)) f1, f2, f3, f4, f5, sqt_tups tu f6, sqt_tups tu f7, sqt_tups tu f8⟩, ⟨dxr, tt, nu, b _ _ (ne_of r1 hk (by intro z; cases z)) r1, (fun z => by rcases z with z | z <;> cases z), fun z => sqt_tups tu (r3 z)⟩⟩
/-- while a list changes -/
theorem CodD.lst {C CF CR c r : Addr} {H : Hp} {kd : Str} {w : Nat} {xs : List V} {o : HO} (h : CodD K C CF CR H c kd w) (hr : H r = some (.lst xs)) : CodD K C CF CR (upd H r o) c kd w := by
  have tu : Nd.Tups H (upd H r o) := tups_lst hr
  obtain ⟨fl, r', ⟨dx, fs, h1, h2⟩, ⟨dxf, gs, tr, ta, tb, f1, f2, f3, f4, f5, f6, f7, f8⟩, ⟨dxr, tt, nu, r1, r2, r3⟩⟩ := h
  have k : ∀ {a C dx : Addr} {fs : List (Str × V)}, H a = some (.ins C dx fs) → (upd H r o) a = some (.ins C dx fs) := fun z => by rw [upd_ne (ne_of z hr (by intro z; cases z))]; exact z
  exact ⟨fl, r', ⟨dx, fs, k h1, h2⟩, ⟨dxf, gs, tr, ta, tb, k f1, f2, f3, f4, f5, sqt_tups tu f6, sqt_tups tu f7, sqt_tups tu f8⟩, ⟨dxr, tt, nu, k r1, (fun z => by rcases z with z | z <;> cases z), fun z => sqt_tups tu (r3 z)⟩⟩
theorem ItA.set {H : Hp} {as : List Addr} {its : List (Int × Int)} (h : ItA H as its) {t : Addr} {j : Nat} {k m : Int} (ht : H t = some (.tup [.int k, .int m])) : ItA H (as.set j t) (its.set j (k, m)) := by
  refine ⟨by rw [List.length_set, List.length_set]; exact h.1, fun i a p h1 h2 => ?_⟩
  by_cases e : j = i
  · subst e
    rw [List.getElem?_set] at h1 h2
    rw [if_pos rfl] at h1 h2
    split at h1
    · cases h1
      split at h2
      · cases h2
        exact ht
      · cases h2
    · cases h1
  · rw [List.getElem?_set_ne e] at h1 h2
    exact h.2 i a p h1 h2
theorem mk_set {its : List (Int × Int)} {j : Nat} {k : Int} (i : Nat) : mkA (its.set j (k, mkA its j)) i = mkA its i := by
  unfold mkA
  rw [List.getD_eq_getElem?_getD, List.getD_eq_getElem?_getD, List.getD_eq_getElem?_getD]
  by_cases e : j = i
  · subst e
    rw [List.getElem?_set, if_pos rfl]
    split
    · rfl
    · rename_i h
      rw [List.getElem?_eq_none (by omega)]
  · rw [List.getElem?_set_ne e]
theorem map_set_ref (as : List Addr) (j : Nat) (t : Addr) : (itV as).set j (.ref t) = itV (as.set j t) := by
  unfold itV
  rw [List.map_set]
/-- what one start of the law is -/
def StS (kd : Str) (n : Nat) (sv : V) : Prop := (kd ∈ (["put", "take", "top"] : List Str) ∧ sv = .non) ∨ (kd ∉ (["put", "take", "top"] : List Str) ∧ ∃ s : Nat, sv = .int (s : Int) ∧ s < n)
def GvS (H : Hp) (kd : Str) (gv : V) : Prop := (kd ∈ givenW ∧ ∃ g, gv = .ref g ∧ H g = some (.tup [.int 1, .int 900])) ∨ (kd ∉ givenW ∧ gv = .non)
theorem kd_cases {kd : Str} (h : kd ∈ kdW) : kd = "put" ∨ kd = "take" ∨ kd = "top" ∨ kd = "out" ∨ kd = "either" ∨ kd = "above" ∨ kd = "below" ∨ kd = "tree" := by
  unfold kdW at h
  simpa using h
theorem stS_ok {H : Hp} {kd : Str} {w : Nat} {its : List (Int × Int)} {sv gv : V} (hkd : kd ∈ kdW) (hw : WdN w) (hn0 : 0 < its.length) (hn : its.length ≤ 900) (hm : MkNd its) (hlt : ∀ j, j < its.length → mkA its j < 900) (h : StS kd its.length sv) (hg : GvS H kd gv) :
    ∃ s : Nat, CaseOk K H kd w its sv gv ∧ FitV kd w its sv (lawB kd w its s) ∧ (kd ∈ heapsW ∨ (sv = .int (s : Int) ∧ s < its.length)) := by
  have hsplit : (kd ∈ startW ↔ kd ∉ (["put", "take", "top"] : List Str)) ∧ (kd ∈ startW ∨ kd ∈ heapsW) ∧ (kd ∈ heapsW ∨ kd = "tree" ∨ kd = "either" ∨ kd = "above" ∨ kd = "below") := by
    rcases kd_cases hkd with rfl | rfl | rfl | rfl | rfl | rfl | rfl | rfl <;> decide +kernel
  obtain ⟨hs1, hs2, hs3⟩ := hsplit
  have hgiv : GivV K H kd its gv true ∧ GvOk H gv := by
    rcases hg with ⟨h1, g, rfl, eg⟩ | ⟨h1, rfl⟩
    · refine ⟨.inl ⟨h1, .inr ⟨g, 1, 900, rfl, eg, ?_⟩⟩, .inr ⟨g, 1, 900, rfl, eg⟩⟩
      rw [eq_comm, Bool.not_eq_true', decide_eq_false_iff_not]
      intro hmem
      obtain ⟨p, hp, e⟩ := List.mem_map.mp hmem
      obtain ⟨j, hj⟩ := List.getElem?_of_mem hp
      have hjl := (List.getElem?_eq_some_iff.mp hj).1
      have := hlt j hjl
      unfold mkA at this
      rw [List.getD_eq_getElem?_getD, hj] at this
      have e2 : p.2 = 900 := e
      have : p.2 < 900 := this
      omega
    · exact ⟨.inr ⟨h1, rfl⟩, .inl rfl⟩
  rcases h with ⟨h1, rfl⟩ | ⟨h1, s, rfl, hs⟩
  · have hst : kd ∉ startW := fun z => hs1.mp z h1
    have hhp : kd ∈ heapsW := hs2.resolve_left hst
    refine ⟨0, ⟨hm, hw, hn, .inr ⟨hst, rfl⟩, hgiv.1, hgiv.2, fun z => absurd z hst, hs2⟩, .inl ⟨hhp, ?_⟩, .inl hhp⟩
    rw [law_fit hw hn0 hs3]
    unfold fitB
    rw [if_pos hhp]
  · have hst : kd ∈ startW := hs1.mpr h1
    refine ⟨s, ⟨hm, hw, hn, .inl ⟨hst, true, intV_int _, fun z => Bool.noConfusion z, fun _ => ⟨s, rfl, ?_⟩⟩, hgiv.1, hgiv.2, fun _ => ⟨s, rfl, hs⟩, hs2⟩, ?_, .inr ⟨rfl, hs⟩⟩
    · rw [decide_eq_true (by omega)]
    · rw [law_fit hw hs hs3]
      by_cases hh : kd ∈ heapsW
      · refine .inl ⟨hh, ?_⟩
        unfold fitB
        rw [if_pos hh]
      · refine .inr ⟨hh, s, rfl, hs, ?_⟩
        unfold fitB
        rw [if_neg hh]
end
end H2
namespace H2
open PySem PySem.Spec PyProof.Rows L2 Hx Nd Dun
section
variable {P : Program} {w : World} {K : PySem.W.Frag} {mg : Str → Option Value} {base : Heap} {D : Addr}
/-! ### the law -/
def tHead : Nat := 0
theorem u17 : (17179869184 : Int) < 2 ^ 62 := by decide
/-- a row of the law at r -/
def RowL (K : PySem.W.Frag) (C CF CR : Addr) (G : Hp) (p l r c : Addr) (as : List Addr) (its : List (Int × Int)) (kd : Str) (wn n n' : Nat) : Prop := BagL G p l n' ∧ r ≠ l ∧ G r = some (.lst (itV as)) ∧ ItA G as its ∧ its.length = n ∧ MkNd its ∧ (∀ j, j < n → mkA its j < 900) ∧ CodD K C CF CR G c kd wn
theorem RowL.draw {C CF CR p l r c : Addr} {G G' : Hp} {as : List Addr} {its : List (Int × Int)} {kd : Str} {wn n n' m : Nat} (h : RowL K C CF CR G p l r c as its kd wn n n') (b : But p G G') (hb : BagL G' p l m) : RowL K C CF CR G' p l r c as its kd wn n m := by
  obtain ⟨h1, h2, h3, h4, h5, h6, h7, h8⟩ := h
  exact ⟨hb, h2, lst_but b h1.dk h3, h4.butD b h1.dk, h5, h6, h7, h8.butD b h1.dk⟩
theorem RowL.keep {C CF CR p l r c : Addr} {G G' : Hp} {as : List Addr} {its : List (Int × Int)} {kd : Str} {wn n n' : Nat} (h : RowL K C CF CR G p l r c as its kd wn n n') (e : Same G G') : RowL K C CF CR G' p l r c as its kd wn n n' := by
  obtain ⟨h1, h2, h3, h4, h5, h6, h7, h8⟩ := h
  exact ⟨h1.keep e, h2, e _ _ h3, h4.keep e, h5, h6, h7, h8.keep e⟩
def spLaw7 (K : PySem.W.Frag) : Sp := fun vs H Q _ => ∃ (a : Addr) (xs : List Int), vs = [.ref a] ∧ SqL K H a (xs.map V.int) ∧ xs.length ≤ 63 ∧ ∀ H', Q (.bl true) H'
theorem ok_law7 {f gb gd gi gl gt C CF CR m0 : Addr} {fd : FuncData} (F : Fun K "law" "law" s_law f fd) (BT : BltT mg) (rng : mg "range" = none) (lst : mg "list" = none) (TC : CodeX K mg C m0) {bd dd itd ld td cd : FuncData}
    (FB : Fun K "_law_bag" "_law_bag" sBag gb bd) (bB : Binds K bd ["_law_script"] []) (mB : mg "_law_bag" = some (.ref gb))
    (FD : Fun K "_law_draw" "_law_draw" sDraw gd dd) (bD : Binds K dd ["_law_bag_here", "_law_limit"] []) (mD : mg "_law_draw" = some (.ref gd))
    (FI : Fun K "_law_items" "_law_items" s_Litems gi itd) (bI : Binds K itd psIT []) (mI : mg "_law_items" = some (.ref gi)) (GI : FnOk P w K mg base CX0 2 gi itd psIT (spItems K))
    (FL : Fun K "_law_is_list" "_law_is_list" s_Lis_list gl ld) (bL : Binds K ld psLI []) (mL : mg "_law_is_list" = some (.ref gl)) (GL : FnOk P w K mg base CX0 3 gl ld psLI (spLI K))
    (FT' : Fun K "_law_told" "_law_told" s_Ltold gt td) (bT : Binds K td psTd []) (mT : mg "_law_told" = some (.ref gt)) (GT : FnOk P w K mg base CX0 8 gt td psTd (spTold7 K C CF CR))
    (bC : Binds K cd psCD []) (GC : FnOk P w K mg base (L2.CX P w) 7 m0 cd psCD (spCode7 K C CF CR)) :
    FnOk P w K mg base CX0 9 f fd ["_law_script"] (spLaw7 K) := by
  have GD : FnOk P w K mg base CX0 1 gd dd ["_law_bag_here", "_law_limit"] spDrawL := ok_drawL FD BT
  have GB : FnOk P w K mg base CX0 1 gb bd ["_law_script"] (spBag K) := ok_bag FB BT
  refine F.ok c_law (fun vs H Q E h => ?_) (fun cdv A outer s H vs Q E hr h => ?_)
  · obtain ⟨a, xs, rfl, _⟩ := h
    rfl
  obtain ⟨a, xs, rfl, ha, hxs, q⟩ := h
  have hr1 : Room 1 _ := hr.mono (by decide)
  have hr2 : Room 2 _ := hr.mono (by decide)
  have hr3 : Room 3 _ := hr.mono (by decide)
  have hr8 : Room 8 _ := hr
  refine ⟨_, pss_cons (ps_set (i := 1) c_law.nd rfl (Or.inr rfl) (pe_call GB hr1 rfl mB FB.kp bB .nil pass0 (pa_cons (pv 0) pa_nil))) <|
    pss_cons (ps_for PassesOwn.never rfl (pi_range1 rfl rng (pa_cons pe_int pa_nil)) (pg_name (i := 2) c_law.nd rfl (Or.inl rfl))
      (pss_cons (ps_set (i := 3) c_law.nd rfl (Or.inl rfl) (pe_ix ix_list (pe_lst (pa_cons pe_str (pa_cons pe_str (pa_cons pe_str (pa_cons pe_str (pa_cons pe_str (pa_cons pe_str (pa_cons pe_str (pa_cons pe_str pa_nil))))))))) (pe_call GD hr1 rfl mD FD.kp bD .nil pass0 (pa_cons (pv 1) (pa_cons pe_int pa_nil))) (fun _ _ => rfl))) <|
       pss_cons (ps_set (i := 4) c_law.nd rfl (Or.inl rfl) (pe_op op_add pe_int (pe_call GD hr1 rfl mD FD.kp bD .nil pass0 (pa_cons (pv 1) (pa_cons pe_int pa_nil))))) <|
       pss_cons (ps_set (i := 5) c_law.nd rfl (Or.inl rfl) (pe_make TC.mak GC hr8 rfl TC.g bC .nil passN (pa_cons (pv 3) (pa_cons (pv 4) (pa_cons pe_str pa_nil))))) <|
       pss_cons (ps_set (i := 6) c_law.nd rfl (Or.inl rfl) (pe_op op_add pe_int (pe_call GD hr1 rfl mD FD.kp bD .nil pass0 (pa_cons (pv 1) (pa_cons pe_int pa_nil))))) <|
       pss_cons (ps_set (i := 7) c_law.nd rfl (Or.inl rfl) (pe_call GI hr2 rfl mI FI.kp bI .nil pass0 (pa_cons (pv 1) (pa_cons (pv 6) (pa_cons (pv 4) pa_nil))))) <|
       pss_cons (ps_for PassesOwn.never rfl (pi_range1 rfl rng (pa_cons (pe_call GD hr1 rfl mD FD.kp bD .nil pass0 (pa_cons (pv 1) (pa_cons pe_int pa_nil))) pa_nil)) (pg_name (i := 8) c_law.nd rfl (Or.inl rfl))
         (pss_cons (ps_set (i := 9) c_law.nd rfl (Or.inl rfl) (pe_call GD hr1 rfl mD FD.kp bD .nil pass0 (pa_cons (pv 1) (pa_cons (pv 6) pa_nil)))) <|
          pss_one (ps_asg (pe_tup (pa_cons (pe_op op_sub (pe_op op_add (pe_ix ix_tup (pe_ix ix_list (pv 7) (pe_call GD hr1 rfl mD FD.kp bD .nil pass0 (pa_cons (pv 1) (pa_cons (pv 6) pa_nil))) (fun _ _ => rfl)) pe_int (fun _ _ => rfl)) (pe_call GD hr1 rfl mD FD.kp bD .nil pass0 (pa_cons (pv 1) (pa_cons pe_int pa_nil)))) pe_int)
            (pa_cons (pe_ix ix_tup (pe_ix ix_list (pv 7) (pv 9) (fun _ _ => rfl)) pe_int (fun _ _ => rfl)) pa_nil))) (pg_sub (pv 7) (pv 9) set_list)))) <|
       Evl.pss_cut (ps_if (pt_cmpR op_eq (pe_call GD hr1 rfl mD FD.kp bD .nil pass0 (pa_cons (pv 1) (pa_cons pe_int pa_nil))) pe_int (nomark _))
         (pss_one (ps_setLc (i := 7) (own := [("_law_j", 8)]) (g := gName 8) (tt := tYes) rfl c_law.nd rfl rfl (sw_true rfl rfl rfl (by decide +kernel)) (pi_range1 rfl rng (pa_cons (pv 6) pa_nil)) (blkOk_by (own := [("_law_j", 8)]) (N := n_law) (sc := defScope s_law) (by decide +kernel))
           (fun _ _ _ _ _ => pg_name (i := 8) c_law.nd rfl (Or.inl rfl)) (fun _ _ _ _ _ => pts_nil) (fun _ _ _ _ _ => pe_tup (pa_cons (pe_call GD hr1 rfl mD FD.kp bD .nil pass0 (pa_cons (pv 1) (pa_cons pe_int pa_nil))) (pa_cons (pv 8) pa_nil))))) pss_nil) <|
       Evl.pss_cut (ps_set (i := 10) c_law.nd rfl (Or.inl rfl) (pe_ifExp (pt_cmpR op_in_seq (pv 3) (pe_lst (pa_cons pe_str (pa_cons pe_str pa_nil))) rfl) (pe_tup (pa_cons pe_int (pa_cons pe_int pa_nil))) pe_non)) <|
       Evl.pss_cut (ps_set (i := 11) c_law.nd rfl (Or.inl rfl) (pe_ifExp (pt_cmpR op_in_seq (pv 3) (pe_lst (pa_cons pe_str (pa_cons pe_str (pa_cons pe_str pa_nil)))) rfl) (pe_lst (pa_cons pe_non pa_nil)) (pe_listRg rfl rfl lst (prg_1 rfl rng (pv 6))))) <|
       pss_one (ps_for PassesOwn.never rfl (pi_list (pv 11)) (pg_name (i := 12) c_law.nd rfl (Or.inl rfl))
         (pss_cons (ps_set (i := 13) c_law.nd rfl (Or.inl rfl) (pe_ifExp (pt_val (pe_call GL hr3 rfl mL FL.kp bL .nil pass0 (pa_cons (pv 3) (pa_cons (pv 4) (pa_cons (pv 7) (pa_cons (pv 12) pa_nil)))))) pe_str pe_str)) <|
          pss_one (ps_if (pt_cmpR op_ne (pe_call GT hr8 rfl mT FT'.kp bT .nil pass0 (pa_cons (pv 5) (pa_cons (pv 7) (pa_cons (pv 12) (pa_cons (pv 10) pa_nil))))) (pv 13) (nomark _)) (pss_one (ps_ret pe_bl)) pss_nil))))) <|
    pss_one (ps_ret pe_bl), ?_⟩
  refine ⟨_, rfl, a, xs, rfl, ha, hxs, fun p H0 _ s0 b0 => ?_⟩
  obtain ⟨l, b0⟩ : ∃ l, BagL H0 p l 0 := b0
  refine ⟨8, rfl, by decide, by decide, for_range (n := 8) (fun i σ G => ∃ (n' : Nat) (v2 v3 v4 v5 v6 v7 v8 v9 v10 v11 v12 v13 : Option V), σ = [some (.ref a), some (.ref p), v2, v3, v4, v5, v6, v7, v8, v9, v10, v11, v12, v13] ∧ BagL G p l n' ∧ n' ≤ 100 * i) ⟨0, _, _, _, _, _, _, _, _, _, _, _, _, rfl, b0, Nat.zero_le _⟩ ?_ (fun σ G _ => q G)⟩
  rintro i σ G hi ⟨n', v2, v3, v4, v5, v6, v7, v8, v9, v10, v11, v12, v13, rfl, bg, hn'⟩
  have hi8 : i < 8 := hi
  clear b0 s0
  -- kind
  refine ⟨(by show 8 ≤ sizeLine; decide), fun t1 nt1 => ?_⟩
  have s1 := new_same (o := .lst (kdW.map V.str)) nt1
  refine ⟨_, rfl, p, n', 8, l, rfl, bg.keep s1, by omega, by decide, small16 (by decide) (by decide), fun r1 G1 a1 a2 bg1 u1 => ?_⟩
  have et1 := lst_but u1 (bg.keep s1).dk (show (upd G t1 (.lst (kdW.map V.str))) t1 = some (.lst (kdW.map V.str)) from upd_same)
  have hr1l : r1.toNat < kdW.length := by show r1.toNat < 8; omega
  obtain ⟨kd, hkd, ekd⟩ : ∃ kd, kd ∈ kdW ∧ kdW[r1.toNat]? = some kd := ⟨kdW[r1.toNat], List.getElem_mem hr1l, List.getElem?_eq_getElem hr1l⟩
  refine ⟨t1, _, _, .str kd, rfl, rfl, SqL.of et1, at_of (j := r1.toNat) (by omega) (by rw [List.getElem?_map, ekd]; rfl), ?_⟩
  -- width
  refine ⟨_, rfl, p, n' + 1, 3, l, rfl, bg1, by omega, by decide, small16 (by decide) (by decide), fun r2 G2 a3 a4 bg2 u2 => ?_⟩
  obtain ⟨wn, hwn, hw⟩ : ∃ wn : Nat, (2 : Int) + r2 = (wn : Int) ∧ WdN wn := by
    refine ⟨2 + r2.toNat, by omega, ?_⟩
    have : r2.toNat = 0 ∨ r2.toNat = 1 ∨ r2.toNat = 2 := by omega
    rcases this with h | h | h <;> rw [h]
    · exact .inl rfl
    · exact .inr (.inl rfl)
    · exact .inr (.inr rfl)
  refine ⟨_, _, rfl, rfl, ?_⟩
  dsimp only
  rw [hwn]
  -- code
  refine ⟨_, rfl, _, rfl, fun c dx nc nd ne => ?_⟩
  have sM := made_row (C := C) (o := .ins C dx []) (Same.refl G2) nc nd ne
  refine ⟨c, dx, kd, wn, rfl, upd_same, hkd, hw, fun G3 bc hcod => ⟨rfl, ?_⟩⟩
  have s23 : Same G2 G3 := fun x o z => bc _ _ (ne_of_none z nc) (sM _ _ z)
  have bg3 := bg2.keep s23
  -- n
  refine ⟨_, rfl, p, n' + 1 + 1, 12, l, rfl, bg3, by omega, by decide, small16 (by decide) (by decide), fun r4 G4 a5 a6 bg4 u4 => ?_⟩
  have hcod4 := hcod.butD u4 bg3.dk
  obtain ⟨n, hn, hn1⟩ : ∃ n : Nat, (1 : Int) + r4 = (n : Int) ∧ 1 ≤ n ∧ n ≤ 12 := ⟨1 + r4.toNat, by omega, by omega⟩
  refine ⟨_, _, rfl, rfl, ?_⟩
  dsimp only
  rw [hn]
  -- row
  refine ⟨_, rfl, _, rfl, _, rfl, p, l, n' + 1 + 1 + 1, n, wn, rfl, bg4, by omega, hn1.2, hw, fun G5 r5 as its n5 u5 nr5 er5 hia hil hmk hlt bg5 hn5 => ?_⟩
  have nrl : r5 ≠ l := fun z => by
    obtain ⟨ys, hy⟩ := bg4.lst
    rw [← z, nr5] at hy
    cases hy
  have R5 : RowL K C CF CR G5 p l r5 c as its kd wn n n5 := ⟨bg5, nrl, er5, hia, hil, hmk, hlt, hcod4.butD u5 bg4.dk⟩
  clear hcod4 hcod
  -- the changes
  refine ⟨_, rfl, p, n5, 3, l, rfl, bg5, by omega, by decide, small16 (by decide) (by decide), fun r6 G6 a7 a8 bg6 u6 => ?_⟩
  have R6 := R5.draw u6 bg6
  refine ⟨r6, rfl, by omega, by omega, for_range (n := r6.toNat) (fun j σ G => ∃ (as : List Addr) (its : List (Int × Int)) (m : Nat) (v8 v9 : Option V), σ = [some (.ref a), some (.ref p), some (.int (i : Int)), some (.str kd), some (.int (wn : Int)), some (.ref c), some (.int (n : Int)), some (.ref r5), v8, v9, v10, v11, v12, v13] ∧ RowL K C CF CR G p l r5 c as its kd wn n m ∧ m ≤ n' + 30 + 4 * j)
    ⟨as, its, n5 + 1, _, _, by rw [Int.zero_add]; rfl, R6, by omega⟩ ?_ ?_⟩
  · rintro j σ G hj ⟨as, its, m, v8, v9, rfl, R, hm⟩
    have hj3 : j < 3 := by omega
    refine ⟨_, rfl, _, rfl, p, m, (n : Int), l, rfl, R.1, by omega, by omega, small16 (by omega) (by omega), fun at0 Ga b1 b2 bga ua => ?_⟩
    have Ra := R.draw ua bga
    refine ⟨_, rfl, _, rfl, _, rfl, p, m + 1, (n : Int), l, rfl, bga, by omega, by omega, small16 (by omega) (by omega), fun k0 Gb c1 c2 bgb ub => ?_⟩
    have Rb := Ra.draw ub bgb
    obtain ⟨k1, rfl⟩ : ∃ k : Nat, k0 = (k : Int) := ⟨k0.toNat, by omega⟩
    obtain ⟨at1, rfl⟩ : ∃ k : Nat, at0 = (k : Int) := ⟨at0.toNat, by omega⟩
    obtain ⟨_, _, erb, hib, hlb, _, _, _⟩ := id Rb
    obtain ⟨x, x1, _, x2⟩ := hib.at (i := k1) (by omega)
    refine ⟨r5, _, _, _, rfl, rfl, SqL.of erb, x1, x, _, _, _, rfl, rfl, SqT.of x2, rfl, ?_⟩
    refine ⟨_, rfl, p, m + 1 + 1, 5, l, rfl, bgb, by omega, by decide, small16 (by decide) (by decide), fun d0 Gc e1 e2 bgc uc => ?_⟩
    have Rc := Rb.draw uc bgc
    obtain ⟨_, nrl', erc, hic, hlc, hmc, hltc, hcc⟩ := id Rc
    obtain ⟨y, y1, _, y2⟩ := hic.at (i := at1) (by omega)
    refine ⟨_, _, rfl, rfl, _, _, rfl, rfl, ?_⟩
    refine ⟨_, rfl, _, rfl, r5, _, _, _, rfl, rfl, SqL.of erc, y1, y, _, _, _, rfl, rfl, SqT.of y2, rfl, (by show 2 ≤ sizeLine; decide), fun t nt => ?_⟩
    have sT := new_same (o := .tup [.int (kyA its k1 + d0 - 2), .int (mkA its at1)]) nt
    have Rt := Rc.keep sT
    refine ⟨_, rfl, _, rfl, r5, _, _, at1, rfl, rfl, sT _ _ erc, ?_, ?_⟩
    · unfold ixN
      rw [len_it, hic.1, hlc]
      rw [if_pos (by omega), if_pos (by omega), Int.toNat_natCast]
    · obtain ⟨bgt, _, ert, hit, hlt2, _, _, hct⟩ := id Rt
      rw [map_set_ref]
      have ntr : t ≠ r5 := (ne_of_none erc nt).symm
      refine ⟨as.set at1 t, its.set at1 (kyA its k1 + d0 - 2, mkA its at1), m + 1 + 1 + 1, _, _, rfl, ⟨bgt.out ⟨_, ert⟩ nrl', nrl', upd_same, ?_, by rw [List.length_set]; exact hlc, fun i1 i2 h1 h2 h3 => ?_, fun i1 h1 => by rw [mk_set]; exact hltc i1 h1, hct.lst ert⟩, by omega⟩
      · refine ItA.set ⟨hit.1, fun i1 b1 q1 h1 h2 => ?_⟩ (by rw [upd_ne ntr, upd_same])
        have h3 := hit.2 i1 b1 q1 h1 h2
        rw [upd_ne (ne_of h3 ert (by intro z; cases z))]
        exact h3
      · rw [mk_set, mk_set] at h3
        rw [List.length_set] at h1 h2
        exact hmc i1 i2 h1 h2 h3
  rintro σ G7 ⟨as7, its7, m7, w8, w9, rfl, R7, hm7⟩
  have hm7' : m7 ≤ n' + 50 := by omega
  clear R5 R6 hm7 hia hil hmk hlt er5 bg5 bg6 bg4 bg3 bg2 bg1
  -- keys from a few
  refine ⟨fun σ G => ∃ (r : Addr) (as : List Addr) (its : List (Int × Int)) (m : Nat) (v8 v9 : Option V), σ = [some (.ref a), some (.ref p), some (.int (i : Int)), some (.str kd), some (.int (wn : Int)), some (.ref c), some (.int (n : Int)), some (.ref r), v8, v9, v10, v11, v12, v13] ∧ RowL K C CF CR G p l r c as its kd wn n m ∧ m ≤ n' + 70, ?_, ?_⟩
  · refine ⟨_, rfl, p, m7, 4, l, rfl, R7.1, by omega, by decide, small16 (by decide) (by decide), fun r8 G8 a9 a10 bg8 u8 => ?_⟩
    have R8 := R7.draw u8 bg8
    refine ⟨rfl, _, rfl, iteB (fun _ => ?_) (fun _ => ⟨r5, as7, its7, m7 + 1, _, _, rfl, R8, by omega⟩)⟩
    refine ⟨_, rfl, (n : Int), rfl, by omega, by omega, fun D nD => ?_⟩
    rw [Int.toNat_natCast]
    have nDl : D ≠ l := fun z => by
      obtain ⟨ys, hy⟩ := bg8.lst
      rw [← z, nD] at hy
      cases hy
    have sD := new_same (o := .lst []) nD
    refine lc_range (lo := 0) (n := n) (fun j G => ∃ (as : List Addr) (its : List (Int × Int)) (m : Nat), BagL G p l m ∧ m ≤ n' + 51 + j ∧ G D = some (.lst (itV as)) ∧ ItA G as its ∧ its.length = j ∧ (∀ k, k < j → mkA its k = (k : Int)) ∧ CodD K C CF CR G c kd wn)
      ⟨[], [], m7 + 1, bg8.keep sD, by omega, upd_same, ⟨rfl, fun i a p h1 h2 => by cases h1⟩, rfl, fun k hk => by omega, R8.2.2.2.2.2.2.2.keep sD⟩ ?_ ?_
    · rintro j G hj ⟨as, its, m, bgj, hm, eD, hia, hil, hmk, hcj⟩
      refine ⟨rfl, ?_⟩
      unfold tYes
      dsimp only
      rw [if_pos rfl]
      refine ⟨_, rfl, p, m, 3, l, rfl, bgj, by omega, by decide, small16 (by decide) (by decide), fun x Gx x1 x2 bgx ux => ?_⟩
      refine ⟨_, rfl, (by show 2 ≤ sizeLine; decide), fun t nt => ?_⟩
      rw [Int.zero_add]
      have eDx := lst_but ux bgj.dk eD
      have sT := new_same (o := .tup [.int x, .int (j : Int)]) nt
      have eDt := sT _ _ eDx
      have ntD : t ≠ D := (ne_of_none eDx nt).symm
      have hix := hia.butD ux bgj.dk
      refine ⟨itV as, eDt, by rw [len_it, hix.1, hil]; exact big (by omega), as ++ [t], its ++ [(x, (j : Int))], m + 1, (bgx.keep sT).out ⟨_, eDt⟩ nDl, by omega, by rw [upd_same]; unfold itV; rw [List.map_append]; rfl, ?_, by rw [List.length_append, hil]; rfl, fun k hk => ?_, ((hcj.butD ux bgj.dk).keep sT).lst eDt⟩
      · refine ItA.snoc ⟨hix.1, fun i1 b1 q1 h1 h2 => ?_⟩ (by rw [upd_ne ntD, upd_same])
        have h3 := sT _ _ (hix.2 i1 b1 q1 h1 h2)
        rw [upd_ne (ne_of h3 eDt (by intro z; cases z))]
        exact h3
      · by_cases e : k < its.length
        · rw [(ky_snoc e).2]
          exact hmk k (by omega)
        · have e2 : k = its.length := by omega
          subst e2
          rw [ky_last.2, hil]
    · rintro G ⟨as, its, m, bgj, hm, eD, hia, hil, hmk, hcj⟩
      refine ⟨D, as, its, m, _, _, rfl, ⟨bgj, nDl, eD, hia, hil, fun i1 i2 h1 h2 h3 => ?_, fun k hk => ?_, hcj⟩, by omega⟩
      · rw [hmk i1 (by omega), hmk i2 (by omega)] at h3
        omega
      · rw [hmk k hk]
        omega
  rintro σ G9 ⟨r9, as9, its9, m9, x8, x9, rfl, R9, hm9⟩
  clear R7
  -- given
  refine ⟨fun σ G => ∃ gv : V, σ = [some (.ref a), some (.ref p), some (.int (i : Int)), some (.str kd), some (.int (wn : Int)), some (.ref c), some (.int (n : Int)), some (.ref r9), x8, x9, some gv, v11, v12, v13] ∧ RowL K C CF CR G p l r9 c as9 its9 kd wn n m9 ∧ GvS G kd gv, ?_, ?_⟩
  · refine ⟨_, rfl, (by show 2 ≤ sizeLine; decide), fun u nu => ⟨u, _, rfl, .inl (SqL.of upd_same), rfl, rfl, _, rfl, ?_⟩⟩
    have su := new_same (o := .lst [.str "put", .str "top"]) nu
    refine iteB (fun h1 => ?_) (fun h1 => ?_)
    · have h1 : kd ∈ givenW := of_decide_eq_true ((inV_strs (os := givenW)).symm.trans h1)
      refine ⟨(by show 2 ≤ sizeLine; decide), fun t nt => ⟨_, rfl, (R9.keep su).keep (new_same nt), .inl ⟨h1, t, rfl, upd_same⟩⟩⟩
    · have h1 : ¬ kd ∈ givenW := of_decide_eq_false ((inV_strs (os := givenW)).symm.trans h1)
      exact ⟨_, rfl, R9.keep su, .inr ⟨h1, rfl⟩⟩
  rintro σ G10 ⟨gv, rfl, R10, hgv⟩
  -- starts
  refine ⟨fun σ G => ∃ (st : Addr) (svs : List V), σ = [some (.ref a), some (.ref p), some (.int (i : Int)), some (.str kd), some (.int (wn : Int)), some (.ref c), some (.int (n : Int)), some (.ref r9), x8, x9, some gv, some (.ref st), v12, v13] ∧ Same G10 G ∧ G st = some (.lst svs) ∧ ∀ sv ∈ svs, StS kd n sv, ?_, ?_⟩
  · refine ⟨_, rfl, (by show 3 ≤ sizeLine; decide), fun u nu => ⟨u, _, rfl, .inl (SqL.of upd_same), rfl, rfl, _, rfl, ?_⟩⟩
    have su := new_same (o := .lst [.str "put", .str "take", .str "top"]) nu
    refine iteB (fun h1 => ?_) (fun h1 => ?_)
    · have h1 : kd ∈ (["put", "take", "top"] : List Str) := of_decide_eq_true ((inV_strs (os := ["put", "take", "top"])).symm.trans h1)
      refine ⟨(by show 1 ≤ sizeLine; decide), fun t nt => ⟨t, _, rfl, same_new su nt, upd_same, fun sv h => ?_⟩⟩
      rw [List.mem_singleton.mp h]
      exact .inl ⟨h1, rfl⟩
    · have h1 : ¬ kd ∈ (["put", "take", "top"] : List Str) := of_decide_eq_false ((inV_strs (os := ["put", "take", "top"])).symm.trans h1)
      refine ⟨_, rfl, (n : Int), rfl, ⟨by omega, by omega, by omega, by omega, by omega⟩, fun t nt => ⟨t, _, rfl, same_new su nt, upd_same, fun sv h => ?_⟩⟩
      unfold rgV at h
      obtain ⟨j, hj, rfl⟩ := List.mem_map.mp h
      have hj := List.mem_range.mp hj
      exact .inr ⟨h1, j, by rw [Int.zero_add], by omega⟩
  rintro σ G11 ⟨st, svs, rfl, s11, est, hsv⟩
  -- each start
  refine ⟨_, rfl, st, rfl, ⟨_, SqL.of est⟩, for_list (K := K) (a := st) (xs := svs) (fun j σ G => Same G11 G ∧ ∃ v12 v13 : Option V, σ = [some (.ref a), some (.ref p), some (.int (i : Int)), some (.str kd), some (.int (wn : Int)), some (.ref c), some (.int (n : Int)), some (.ref r9), x8, x9, some gv, some (.ref st), v12, v13]) ⟨Same.refl _, _, _, rfl⟩ ?_ ?_ ?_⟩
  · rintro j σ G _ ⟨sG, _⟩
    exact SqL.of (sG _ _ est)
  · rintro j sv σ G hj ⟨sG, y12, y13, rfl⟩
    have sA : Same G10 G := fun x o z => sG _ _ (s11 _ _ z)
    obtain ⟨bgA, _, erA, hiA, hlA, hmA, hltA, hcA⟩ := R10.keep sA
    have hgA : GvS G kd gv := by
      rcases hgv with ⟨h1, g, h2, h3⟩ | h1
      · exact .inl ⟨h1, g, h2, sA _ _ h3⟩
      · exact .inr h1
    obtain ⟨s0, hcase, hfit, hcond⟩ := stS_ok (K := K) hkd hw (by omega) (by omega) hmA (by rw [hlA]; exact hltA) (by rw [hlA]; exact hsv sv (List.mem_of_getElem? hj)) hgA
    refine ⟨_, rfl, _, rfl, _, rfl, _, rfl, kd, wn, r9, as9, its9, sv, s0, rfl, SqL.of erA, hiA, hw, by omega, hkd, hcond, fun Gb sb => ⟨_, rfl, ?_⟩⟩
    have caseB : CaseOk K Gb kd wn its9 sv gv := by
      obtain ⟨c1, c2, c3, c4, c5, c6, c7, c8⟩ := hcase
      exact ⟨c1, c2, c3, c4.keep sb, c5.keep sb, c6.keep sb, c7, c8⟩
    have sGb : Same G11 Gb := fun x o z => sb _ _ (sG _ _ z)
    cases e : lawB kd wn its9 s0 with
    | true =>
      refine iteT ?_
      refine ⟨_, rfl, _, rfl, _, rfl, _, rfl, c, r9, as9, its9, kd, wn, sv, gv, lawB kd wn its9 s0, rfl, hcA.keep sb, sb _ _ erA, hiA.keep sb, caseB, hfit, fun Gc sc => ⟨_, rfl, rfl, _, rfl, iteBF (by rw [e]; decide +kernel) ⟨sGb.trans sc, _, _, rfl⟩⟩⟩
    | false =>
      refine iteF ?_
      refine ⟨_, rfl, _, rfl, _, rfl, _, rfl, c, r9, as9, its9, kd, wn, sv, gv, lawB kd wn its9 s0, rfl, hcA.keep sb, sb _ _ erA, hiA.keep sb, caseB, hfit, fun Gc sc => ⟨_, rfl, rfl, _, rfl, iteBF (by rw [e]; decide +kernel) ⟨sGb.trans sc, _, _, rfl⟩⟩⟩
  · rintro σ G ⟨sG, y12, y13, rfl⟩
    exact ⟨m9, _, _, _, _, _, _, _, _, _, _, _, _, rfl, (R10.keep (fun x o z => sG _ _ (s11 _ _ z))).1, by omega⟩
end
end H2
namespace H2
open PySem PySem.Spec PyProof.Rows L2 Hx Nd Dun
section
variable {P : Program} {w : World} {K : PySem.W.Frag} {mg : Str → Option Value} {base : Heap} {D : Addr}
def wayB (K : PySem.W.Frag) (a : Addr) : Bool := match K.lookup a with
  | some ⟨.type c, _, .seq its _, _⟩ => (match its.toList with
    | [.ref b, .int i _, .int j _, .ref d] => decide (c = "tuple") && (decide (its.size ≤ 1000) && (decide (i = 0) && (decide (j = 0) && (Hf.tupB K b [] && Hf.tupB K d []))))
    | _ => false)
  | _ => false
theorem way_of {K : PySem.W.Frag} {a : Addr} (b : wayB K a = true) : ∀ H, Wy K H (.ref a) := fun H => by
  unfold wayB at b
  split at b
  · rename_i c od its n sl e
    split at b
    · rename_i b1 i ti j tj d e2
      simp only [Bool.and_eq_true, decide_eq_true_eq] at b
      obtain ⟨rfl, h1, rfl, rfl, h2, h3⟩ := b
      refine wy_mk (b := b1) (c := d) (.inr ⟨_, its, n, e, rfl, rfl, Nat.le_trans h1 (by decide), ?_⟩) (Hf.tup_of h2 H) (Hf.tup_of h3 H)
      rw [e2]
      exact .cons rfl (.cons ⟨_, rfl⟩ (.cons ⟨_, rfl⟩ (.cons rfl .nil)))
    · cases b
  · cases b
/-! ### what the top has left -/
def dd0 : He.DefD := ⟨("BadKind", some "__init__"), "__init__", "BadKind.__init__", defArgs iBadKind, defBody iBadKind, defScope iBadKind, [], []⟩
def dd1 : He.DefD := ⟨("BadWidth", some "__init__"), "__init__", "BadWidth.__init__", defArgs iBadWidth, defBody iBadWidth, defScope iBadWidth, [], []⟩
def dd2 : He.DefD := ⟨("BadLine", some "__init__"), "__init__", "BadLine.__init__", defArgs iBadLine, defBody iBadLine, defScope iBadLine, [], []⟩
def dd3 : He.DefD := ⟨("Refused", some "__init__"), "__init__", "Refused.__init__", defArgs iRefused, defBody iRefused, defScope iRefused, [], []⟩
def dd4 : He.DefD := ⟨("BadItem", some "__init__"), "__init__", "BadItem.__init__", defArgs iBadItem, defBody iBadItem, defScope iBadItem, [], []⟩
def dd5 : He.DefD := ⟨("BadCase", some "__init__"), "__init__", "BadCase.__init__", defArgs iBadCase, defBody iBadCase, defScope iBadCase, [], []⟩
def dd6 : He.DefD := ⟨("TooMany", some "__init__"), "__init__", "TooMany.__init__", defArgs iTooMany, defBody iTooMany, defScope iTooMany, [], []⟩
def dd7 : He.DefD := ⟨("is_kind", none), "is_kind", "is_kind", defArgs s_is_kind, defBody s_is_kind, defScope s_is_kind, [], []⟩
def dd8 : He.DefD := ⟨("is_width", none), "is_width", "is_width", defArgs s_is_width, defBody s_is_width, defScope s_is_width, [], []⟩
def dd9 : He.DefD := ⟨("allows", none), "allows", "allows", defArgs s_allows, defBody s_allows, defScope s_allows, [], []⟩
def dd10 : He.DefD := ⟨("parent", none), "parent", "parent", defArgs s_parent, defBody s_parent, defScope s_parent, [], []⟩
def dd11 : He.DefD := ⟨("first_fault", none), "first_fault", "first_fault", defArgs s_first_fault, defBody s_first_fault, defScope s_first_fault, [], []⟩
def dd12 : He.DefD := ⟨("is_heap", none), "is_heap", "is_heap", defArgs s_is_heap, defBody s_is_heap, defScope s_is_heap, [], []⟩
def dd13 : He.DefD := ⟨("is_integer", none), "is_integer", "is_integer", defArgs s_is_integer, defBody s_is_integer, defScope s_is_integer, [], []⟩
def dd14 : He.DefD := ⟨("is_item", none), "is_item", "is_item", defArgs s_is_item, defBody s_is_item, defScope s_is_item, [], []⟩
def dd15 : He.DefD := ⟨("first_bad_item", none), "first_bad_item", "first_bad_item", defArgs s_first_bad_item, defBody s_first_bad_item, defScope s_first_bad_item, [], []⟩
def dd16 : He.DefD := ⟨("start_fits", none), "start_fits", "start_fits", defArgs s_start_fits, defBody s_start_fits, defScope s_start_fits, [], []⟩
def dd17 : He.DefD := ⟨("given_fits", none), "given_fits", "given_fits", defArgs s_given_fits, defBody s_given_fits, defScope s_given_fits, [], []⟩
def dd18 : He.DefD := ⟨("trees_are_heaps", none), "trees_are_heaps", "trees_are_heaps", defArgs s_trees_are_heaps, defBody s_trees_are_heaps, defScope s_trees_are_heaps, [], []⟩
def dd19 : He.DefD := ⟨("is_heap_but_for", none), "is_heap_but_for", "is_heap_but_for", defArgs s_is_heap_but_for, defBody s_is_heap_but_for, defScope s_is_heap_but_for, [], []⟩
def dd20 : He.DefD := ⟨("leans_right", none), "leans_right", "leans_right", defArgs s_leans_right, defBody s_leans_right, defScope s_leans_right, [], []⟩
def dd21 : He.DefD := ⟨("list_fits", none), "list_fits", "list_fits", defArgs s_list_fits, defBody s_list_fits, defScope s_list_fits, [], []⟩
def dd22 : He.DefD := ⟨("check_items", none), "check_items", "check_items", defArgs s_check_items, defBody s_check_items, defScope s_check_items, [], []⟩
def dd23 : He.DefD := ⟨("check_start_and_given", none), "check_start_and_given", "check_start_and_given", defArgs s_check_start_and_given, defBody s_check_start_and_given, defScope s_check_start_and_given, [], []⟩
def dd24 : He.DefD := ⟨("check_case", none), "check_case", "check_case", defArgs s_check_case, defBody s_check_case, defScope s_check_case, [], []⟩
def dd25 : He.DefD := ⟨("read_plain_part", none), "read_plain_part", "read_plain_part", defArgs s_read_plain_part, defBody s_read_plain_part, defScope s_read_plain_part, [], []⟩
def dd26 : He.DefD := ⟨("read_part", none), "read_part", "read_part", defArgs s_read_part, defBody s_read_part, defScope s_read_part, [], []⟩
def dd27 : He.DefD := ⟨("read_test", none), "read_test", "read_test", defArgs s_read_test, defBody s_read_test, defScope s_read_test, [], []⟩
def dd28 : He.DefD := ⟨("names_given", none), "names_given", "names_given", defArgs s_names_given, defBody s_names_given, defScope s_names_given, [], []⟩
def dd29 : He.DefD := ⟨("row_with_test", none), "row_with_test", "row_with_test", defArgs s_row_with_test, defBody s_row_with_test, defScope s_row_with_test, [], []⟩
def dd30 : He.DefD := ⟨("row_of_block_word", none), "row_of_block_word", "row_of_block_word", defArgs s_row_of_block_word, defBody s_row_of_block_word, defScope s_row_of_block_word, [], []⟩
def dd31 : He.DefD := ⟨("read_row", none), "read_row", "read_row", defArgs s_read_row, defBody s_read_row, defScope s_read_row, [], []⟩
def dd32 : He.DefD := ⟨("blocks_behind", none), "blocks_behind", "blocks_behind", defArgs s_blocks_behind, defBody s_blocks_behind, defScope s_blocks_behind, [], []⟩
def dd33 : He.DefD := ⟨("read_rows", none), "read_rows", "read_rows", defArgs s_read_rows, defBody s_read_rows, defScope s_read_rows, [], []⟩
def dd34 : He.DefD := ⟨("tell", none), "tell", "tell", defArgs s_tell, defBody s_tell, defScope s_tell, [], []⟩
def dd35 : He.DefD := ⟨("tree_of", none), "tree_of", "tree_of", defArgs s_tree_of, defBody s_tree_of, defScope s_tree_of, [], []⟩
def dd36 : He.DefD := ⟨("owed_items", none), "owed_items", "owed_items", defArgs s_owed_items, defBody s_owed_items, defScope s_owed_items, [], []⟩
def dd37 : He.DefD := ⟨("keeps_items", none), "keeps_items", "keeps_items", defArgs s_keeps_items, defBody s_keeps_items, defScope s_keeps_items, [], []⟩
def dd38 : He.DefD := ⟨("keeps_told", none), "keeps_told", "keeps_told", defArgs s_keeps_told, defBody s_keeps_told, defScope s_keeps_told, [], []⟩
def dd39 : He.DefD := ⟨("keeps_places", none), "keeps_places", "keeps_places", defArgs s_keeps_places, defBody s_keeps_places, defScope s_keeps_places, [], []⟩
def dd40 : He.DefD := ⟨("broken_at_end", none), "broken_at_end", "broken_at_end", defArgs s_broken_at_end, defBody s_broken_at_end, defScope s_broken_at_end, [], []⟩
def dd41 : He.DefD := ⟨("broken_by", none), "broken_by", "broken_by", defArgs s_broken_by, defBody s_broken_by, defScope s_broken_by, [], []⟩
def dd42 : He.DefD := ⟨("first_place", none), "first_place", "first_place", defArgs s_first_place, defBody s_first_place, defScope s_first_place, [], []⟩
def dd43 : He.DefD := ⟨("match_blocks", none), "match_blocks", "match_blocks", defArgs s_match_blocks, defBody s_match_blocks, defScope s_match_blocks, [], []⟩
def dd44 : He.DefD := ⟨("keeps_order", none), "keeps_order", "keeps_order", defArgs s_keeps_order, defBody s_keeps_order, defScope s_keeps_order, [], []⟩
def dd45 : He.DefD := ⟨("way_behind", none), "way_behind", "way_behind", defArgs s_way_behind, defBody s_way_behind, defScope s_way_behind, [], []⟩
def dd46 : He.DefD := ⟨("least_break", none), "least_break", "least_break", defArgs s_least_break, defBody s_least_break, defScope s_least_break, [], []⟩
def dd47 : He.DefD := ⟨("_law_bag", none), "_law_bag", "_law_bag", defArgs sBag, defBody sBag, defScope sBag, [], []⟩
def dd48 : He.DefD := ⟨("_law_draw", none), "_law_draw", "_law_draw", defArgs sDraw, defBody sDraw, defScope sDraw, [], []⟩
def dd49 : He.DefD := ⟨("_law_parent", none), "_law_parent", "_law_parent", defArgs s_Lparent, defBody s_Lparent, defScope s_Lparent, [], []⟩
def dd50 : He.DefD := ⟨("_law_faults", none), "_law_faults", "_law_faults", defArgs s_Lfaults, defBody s_Lfaults, defScope s_Lfaults, [], []⟩
def dd51 : He.DefD := ⟨("_law_under", none), "_law_under", "_law_under", defArgs s_Lunder, defBody s_Lunder, defScope s_Lunder, [], []⟩
def dd52 : He.DefD := ⟨("_law_is_list", none), "_law_is_list", "_law_is_list", defArgs s_Lis_list, defBody s_Lis_list, defScope s_Lis_list, [], []⟩
def dd53 : He.DefD := ⟨("_law_items", none), "_law_items", "_law_items", defArgs s_Litems, defBody s_Litems, defScope s_Litems, [], []⟩
def dd54 : He.DefD := ⟨("_law_told", none), "_law_told", "_law_told", defArgs s_Ltold, defBody s_Ltold, defScope s_Ltold, [], []⟩
def dd55 : He.DefD := ⟨("law", none), "law", "law", defArgs s_law, defBody s_law, defScope s_law, [], []⟩
def dd56 : He.DefD := ⟨("keeps_order_promises", none), "keeps_order", "keeps_order", defArgs s_keeps_orderP, defBody s_keeps_orderP, defScope s_keeps_orderP, [], []⟩
def dd57 : He.DefD := ⟨("play", none), "play", "play", defArgs s_play, defBody s_play, defScope s_play, [.non, .non], []⟩
def dd58 : He.DefD := ⟨("Row", some "__init__"), "__init__", "Row.__init__", defArgs s_Row_init, defBody s_Row_init, defScope s_Row_init, [.non, .adr (He.dflAt ("Row", some "__init__") 1)], []⟩
def dd59 : He.DefD := ⟨("Walk", some "__init__"), "__init__", "Walk.__init__", defArgs s_Walk_init, defBody s_Walk_init, defScope s_Walk_init, [], []⟩
def dd60 : He.DefD := ⟨("Walk", some "step"), "step", "Walk.step", defArgs s_Walk_step, defBody s_Walk_step, defScope s_Walk_step, [], []⟩
def dd61 : He.DefD := ⟨("Walk", some "fork"), "fork", "Walk.fork", defArgs s_Walk_fork, defBody s_Walk_fork, defScope s_Walk_fork, [], []⟩
def dd62 : He.DefD := ⟨("Walk", some "pass_line"), "pass_line", "Walk.pass_line", defArgs s_Walk_pass_line, defBody s_Walk_pass_line, defScope s_Walk_pass_line, [], []⟩
def dd63 : He.DefD := ⟨("Walk", some "end_ways"), "end_ways", "Walk.end_ways", defArgs s_Walk_end_ways, defBody s_Walk_end_ways, defScope s_Walk_end_ways, [], []⟩
def dd64 : He.DefD := ⟨("Flow", some "__init__"), "__init__", "Flow.__init__", defArgs s_Flow_init, defBody s_Flow_init, defScope s_Flow_init, [], []⟩
def dd65 : He.DefD := ⟨("Flow", some "landing"), "landing", "Flow.landing", defArgs s_Flow_landing, defBody s_Flow_landing, defScope s_Flow_landing, [], []⟩
def dd66 : He.DefD := ⟨("Flow", some "way_past"), "way_past", "Flow.way_past", defArgs s_Flow_way_past, defBody s_Flow_way_past, defScope s_Flow_way_past, [], []⟩
def dd67 : He.DefD := ⟨("Flow", some "find_loops"), "find_loops", "Flow.find_loops", defArgs s_Flow_find_loops, defBody s_Flow_find_loops, defScope s_Flow_find_loops, [], []⟩
def dd68 : He.DefD := ⟨("Player", some "__init__"), "__init__", "Player.__init__", defArgs s_Player_init, defBody s_Player_init, defScope s_Player_init, [], []⟩
def dd69 : He.DefD := ⟨("Player", some "item"), "item", "Player.item", defArgs s_Player_item, defBody s_Player_item, defScope s_Player_item, [], []⟩
def dd70 : He.DefD := ⟨("Player", some "run"), "run", "Player.run", defArgs s_Player_run, defBody s_Player_run, defScope s_Player_run, [], []⟩
def dd71 : He.DefD := ⟨("Player", some "step"), "step", "Player.step", defArgs s_Player_step, defBody s_Player_step, defScope s_Player_step, [], []⟩
def dd72 : He.DefD := ⟨("Play", some "__init__"), "__init__", "Play.__init__", defArgs s_Play_init, defBody s_Play_init, defScope s_Play_init, [], []⟩
def dd73 : He.DefD := ⟨("Table", some "__init__"), "__init__", "Table.__init__", defArgs s_Table_init, defBody s_Table_init, defScope s_Table_init, [], []⟩
def dd74 : He.DefD := ⟨("Code", some "__init__"), "__init__", "Code.__init__", defArgs s_Code_init, defBody s_Code_init, defScope s_Code_init, [], []⟩
def fa : List He.Fa :=
  .glo "HeapError" ::
  .glo "BadKind" ::
  .glo "BadWidth" ::
  .glo "BadLine" ::
  .glo "Refused" ::
  .glo "BadItem" ::
  .glo "BadCase" ::
  .glo "TooMany" ::
  .glo "is_kind" ::
  .glo "is_width" ::
  .glo "allows" ::
  .glo "parent" ::
  .glo "first_fault" ::
  .glo "is_heap" ::
  .glo "is_integer" ::
  .glo "is_item" ::
  .glo "first_bad_item" ::
  .glo "start_fits" ::
  .glo "given_fits" ::
  .glo "trees_are_heaps" ::
  .glo "is_heap_but_for" ::
  .glo "leans_right" ::
  .glo "list_fits" ::
  .glo "check_items" ::
  .glo "check_start_and_given" ::
  .glo "check_case" ::
  .glo "read_plain_part" ::
  .glo "read_part" ::
  .glo "read_test" ::
  .glo "names_given" ::
  .glo "row_with_test" ::
  .glo "row_of_block_word" ::
  .glo "read_row" ::
  .glo "blocks_behind" ::
  .glo "read_rows" ::
  .glo "tell" ::
  .glo "tree_of" ::
  .glo "owed_items" ::
  .glo "keeps_items" ::
  .glo "keeps_told" ::
  .glo "keeps_places" ::
  .glo "broken_at_end" ::
  .glo "broken_by" ::
  .glo "first_place" ::
  .glo "match_blocks" ::
  .glo "keeps_order" ::
  .glo "way_behind" ::
  .glo "least_break" ::
  .glo "_law_bag" ::
  .glo "_law_draw" ::
  .glo "_law_parent" ::
  .glo "_law_faults" ::
  .glo "_law_under" ::
  .glo "_law_is_list" ::
  .glo "_law_items" ::
  .glo "_law_told" ::
  .glo "law" ::
  .glo "keeps_order_promises" ::
  .glo "keeps_order_limits" ::
  .glo "play" ::
  .glo "Row" ::
  .glo "Walk" ::
  .glo "Flow" ::
  .glo "Player" ::
  .glo "Play" ::
  .glo "Table" ::
  .glo "Code" ::
  .free "int" ::
  .free "list" ::
  .free "len" ::
  .free "isinstance" ::
  .free "range" ::
  .free "str" ::
  .free "tuple" ::
  .free "any" ::
  .free "enumerate" ::
  .free "min" ::
  .free "bool" ::
  .free "all" ::
  .free "sorted" ::
  .glo "KINDS" ::
  .glo "WIDTHS" ::
  .glo "GIVEN" ::
  .glo "LOOPS" ::
  .glo "TOP_WORDS" ::
  .glo "ONCE" ::
  .glo "AHEAD_OF_LOOPS" ::
  .glo "WITH_START" ::
  .glo "WITH_GIVEN" ::
  .glo "WITH_TOLD" ::
  .glo "OF_HEAPS" ::
  .glo "FRESH" ::
  .int "MOST_LINES" 60 ::
  .glo "ALLOWED" ::
  .glo "ACTIONS" ::
  ([] : List He.Fa)
def fn0 : List He.DefD :=
  dd0 ::
  dd1 ::
  dd2 ::
  dd3 ::
  dd4 ::
  dd5 ::
  dd6 ::
  dd7 ::
  dd8 ::
  dd9 ::
  dd10 ::
  dd11 ::
  dd12 ::
  dd13 ::
  dd14 ::
  dd15 ::
  dd16 ::
  dd17 ::
  dd18 ::
  dd19 ::
  dd20 ::
  dd21 ::
  dd22 ::
  dd23 ::
  dd24 ::
  dd25 ::
  dd26 ::
  dd27 ::
  dd28 ::
  dd29 ::
  dd30 ::
  dd31 ::
  dd32 ::
  dd33 ::
  dd34 ::
  dd35 ::
  dd36 ::
  dd37 ::
  dd38 ::
  dd39 ::
  dd40 ::
  dd41 ::
  dd42 ::
  dd43 ::
  dd44 ::
  dd45 ::
  dd46 ::
  dd47 ::
  dd48 ::
  dd49 ::
  dd50 ::
  dd51 ::
  dd52 ::
  dd53 ::
  dd54 ::
  dd55 ::
  dd56 ::
  dd57 ::
  dd58 ::
  dd59 ::
  dd60 ::
  dd61 ::
  dd62 ::
  dd63 ::
  dd64 ::
  dd65 ::
  dd66 ::
  dd67 ::
  dd68 ::
  dd69 ::
  dd70 ::
  dd71 ::
  dd72 ::
  dd73 ::
  dd74 ::
  ([] : List He.DefD)
def ts : List He.Tab :=
  (fun K => He.ga K "ALLOWED", ["longer", "shorter", "grab last", "trade", "grab given", "given", "to start"]) ::
  (fun K => He.ga K "ACTIONS", ["tell", "grab", "grab last", "grab given", "lay", "longer", "shorter", "trade", "to start", "note", "note mate", "go", "pull", "swap", "pick"]) ::
  ([] : List He.Tab)
def ex0 : Hf.Tst := fun K => Hf.baseB K (He.ga K "HeapError")
def ex1 : Hf.Tst := fun K => (Hf.excB K (He.ga K "BadKind") (He.ga K "HeapError") && clsB K (He.ga K "BadKind") (He.ma K (He.ga K "BadKind") "__init__") ["kind"])
def ex2 : Hf.Tst := fun K => (Hf.excB K (He.ga K "BadWidth") (He.ga K "HeapError") && clsB K (He.ga K "BadWidth") (He.ma K (He.ga K "BadWidth") "__init__") ["width"])
def ex3 : Hf.Tst := fun K => (Hf.excB K (He.ga K "BadLine") (He.ga K "HeapError") && clsB K (He.ga K "BadLine") (He.ma K (He.ga K "BadLine") "__init__") ["line"])
def ex4 : Hf.Tst := fun K => (Hf.excB K (He.ga K "Refused") (He.ga K "HeapError") && clsB K (He.ga K "Refused") (He.ma K (He.ga K "Refused") "__init__") ["line"])
def ex5 : Hf.Tst := fun K => (Hf.excB K (He.ga K "BadItem") (He.ga K "HeapError") && clsB K (He.ga K "BadItem") (He.ma K (He.ga K "BadItem") "__init__") ["index"])
def ex6 : Hf.Tst := fun K => (Hf.excB K (He.ga K "BadCase") (He.ga K "HeapError") && clsB K (He.ga K "BadCase") (He.ma K (He.ga K "BadCase") "__init__") ["what"])
def ex7 : Hf.Tst := fun K => (Hf.excB K (He.ga K "TooMany") (He.ga K "HeapError") && clsB K (He.ga K "TooMany") (He.ma K (He.ga K "TooMany") "__init__") ["what", "many", "most"])
def ex8 : Hf.Tst := fun K => He.eqO (PySem.W.nsIn K mainGlobals "keeps_order_limits") (some (some (.ref (He.ga K "keeps_order"))))
def ex9 : Hf.Tst := fun K => Hf.clB K (He.ga K "Row") (He.ma K (He.ga K "Row") "__init__") ["word", "place", "number", "test"]
def ex10 : Hf.Tst := fun K => Hf.tupB K (He.dflAt ("Row", some "__init__") 1 K) []
def ex11 : Hf.Tst := fun K => Hf.clB K (He.ga K "Walk") (He.ma K (He.ga K "Walk") "__init__") ["kind", "broken", "ways", "forks", "turning"]
def ex12 : Hf.Tst := fun K => Hf.methB K (He.ga K "Walk") "__init__" (He.ma K (He.ga K "Walk") "__init__")
def ex13 : Hf.Tst := fun K => Hf.methB K (He.ga K "Walk") "step" (He.ma K (He.ga K "Walk") "step")
def ex14 : Hf.Tst := fun K => Hf.methB K (He.ga K "Walk") "fork" (He.ma K (He.ga K "Walk") "fork")
def ex15 : Hf.Tst := fun K => Hf.methB K (He.ga K "Walk") "pass_line" (He.ma K (He.ga K "Walk") "pass_line")
def ex16 : Hf.Tst := fun K => Hf.methB K (He.ga K "Walk") "end_ways" (He.ma K (He.ga K "Walk") "end_ways")
def ex17 : Hf.Tst := fun K => Hf.clB K (He.ga K "Flow") (He.ma K (He.ga K "Flow") "__init__") ["rows", "size", "heads", "ends", "after", "other", "loop_of"]
def ex18 : Hf.Tst := fun K => Hf.methB K (He.ga K "Flow") "__init__" (He.ma K (He.ga K "Flow") "__init__")
def ex19 : Hf.Tst := fun K => Hf.methB K (He.ga K "Flow") "landing" (He.ma K (He.ga K "Flow") "landing")
def ex20 : Hf.Tst := fun K => Hf.methB K (He.ga K "Flow") "way_past" (He.ma K (He.ga K "Flow") "way_past")
def ex21 : Hf.Tst := fun K => Hf.methB K (He.ga K "Flow") "find_loops" (He.ma K (He.ga K "Flow") "find_loops")
def ex22 : Hf.Tst := fun K => Hf.clB K (He.ga K "Player") (He.ma K (He.ga K "Player") "__init__") ["flow", "width", "row", "start", "given", "noted", "place", "hand", "mate", "told", "compares", "ended", "at", "loop", "met", "used", "sides_seen", "stations_met"]
def ex23 : Hf.Tst := fun K => Hf.methB K (He.ga K "Player") "__init__" (He.ma K (He.ga K "Player") "__init__")
def ex24 : Hf.Tst := fun K => Hf.methB K (He.ga K "Player") "item" (He.ma K (He.ga K "Player") "item")
def ex25 : Hf.Tst := fun K => Hf.methB K (He.ga K "Player") "run" (He.ma K (He.ga K "Player") "run")
def ex26 : Hf.Tst := fun K => Hf.methB K (He.ga K "Player") "step" (He.ma K (He.ga K "Player") "step")
def ex27 : Hf.Tst := fun K => Hf.clB K (He.ga K "Play") (He.ma K (He.ga K "Play") "__init__") ["ended", "left", "told", "compares", "broken", "_table", "_lines", "_sides", "_stations"]
def ex28 : Hf.Tst := fun K => Hf.methB K (He.ga K "Play") "__init__" (He.ma K (He.ga K "Play") "__init__")
def ex29 : Hf.Tst := fun K => Hf.clB K (He.ga K "Table") (He.ma K (He.ga K "Table") "__init__") ["older", "entries", "depth"]
def ex30 : Hf.Tst := fun K => Hf.methB K (He.ga K "Table") "__init__" (He.ma K (He.ga K "Table") "__init__")
def ex31 : Hf.Tst := fun K => Hf.clB K (He.ga K "Code") (He.ma K (He.ga K "Code") "__init__") ["kind", "width", "text", "flow", "memory", "_lines"]
def ex32 : Hf.Tst := fun K => Hf.methB K (He.ga K "Code") "__init__" (He.ma K (He.ga K "Code") "__init__")
def ex33 : Hf.Tst := fun K => decide (PySem.W.exmOne K (.ref (He.ga K "BadCase")) (.ref (He.ga K "BadCase")) = some true)
def ex34 : Hf.Tst := fun K => Hf.tupB K (He.ga K "KINDS") kindsV
def ex35 : Hf.Tst := fun K => Hf.tupB K (He.ga K "WIDTHS") widthsV
def ex36 : Hf.Tst := fun K => Hf.tupB K (He.ga K "GIVEN") [.str "given", .int 0]
def ex37 : Hf.Tst := fun K => Hf.tupB K (He.ga K "LOOPS") loopsV
def ex38 : Hf.Tst := fun K => Hf.tupB K (He.ga K "TOP_WORDS") topV
def ex39 : Hf.Tst := fun K => Hf.tupB K (He.ga K "ONCE") onceV
def ex40 : Hf.Tst := fun K => Hf.tupB K (He.ga K "AHEAD_OF_LOOPS") aheadV
def ex41 : Hf.Tst := fun K => Hf.tupB K (He.ga K "WITH_START") (startW.map V.str)
def ex42 : Hf.Tst := fun K => Hf.tupB K (He.ga K "WITH_GIVEN") (givenW.map V.str)
def ex43 : Hf.Tst := fun K => Hf.tupB K (He.ga K "WITH_TOLD") (toldW.map V.str)
def ex44 : Hf.Tst := fun K => Hf.tupB K (He.ga K "OF_HEAPS") (heapsW.map V.str)
def ex45 : Hf.Tst := fun K => wayB K (He.ga K "FRESH")
def ex46 : Hf.Tst := fun K => Hf.inB K (He.ga K "ACTIONS") "tell" (He.ga K "tell")
def ex47 : Hf.Tst := fun K => Hf.notB K (He.ga K "ALLOWED") "tell"
def ex48 : Hf.Tst := fun K => Hf.notB K (He.ga K "ALLOWED") "grab"
def ex49 : Hf.Tst := fun K => Hf.notB K (He.ga K "ALLOWED") "note"
def ex50 : Hf.Tst := fun K => Hf.notB K (He.ga K "ALLOWED") "quit"
def ex : List Hf.Tst :=
  ex0 ::
  ex1 ::
  ex2 ::
  ex3 ::
  ex4 ::
  ex5 ::
  ex6 ::
  ex7 ::
  ex8 ::
  ex9 ::
  ex10 ::
  ex11 ::
  ex12 ::
  ex13 ::
  ex14 ::
  ex15 ::
  ex16 ::
  ex17 ::
  ex18 ::
  ex19 ::
  ex20 ::
  ex21 ::
  ex22 ::
  ex23 ::
  ex24 ::
  ex25 ::
  ex26 ::
  ex27 ::
  ex28 ::
  ex29 ::
  ex30 ::
  ex31 ::
  ex32 ::
  ex33 ::
  ex34 ::
  ex35 ::
  ex36 ::
  ex37 ::
  ex38 ::
  ex39 ::
  ex40 ::
  ex41 ::
  ex42 ::
  ex43 ::
  ex44 ::
  ex45 ::
  ex46 ::
  ex47 ::
  ex48 ::
  ex49 ::
  ex50 ::
  ([] : List Hf.Tst)
structure SaysH (w : World) (K : PySem.W.Frag) : Prop where
  a : Hf.Says fa [] ts ex w K
  b0 : Hf.Says [] fn0 [] [] w K
def pa : Hf.Part := { fa := fa, ts := ts, ex := ex }
def pb0 : Hf.Part := { fn := fn0 }
def parts : List Hf.Part := pa :: pb0 :: []
theorem says_of {w : World} {K : PySem.W.Frag} (c : ∀ p ∈ parts, p.Says w K) : SaysH w K := ⟨c pa (by simp [parts]), c pb0 (by simp [parts])⟩
section
variable {h : Heap}
theorem g_HeapError (c : SaysH w K) (X : K.In h) (G : h.Ns mainGlobals mg) : mg "HeapError" = some (.ref (He.ga K "HeapError")) := c.a.glo X G 0
theorem baseT (c : SaysH w K) (X : K.In h) (G : h.Ns mainGlobals mg) : BaseT K mg (He.ga K "HeapError") := by
  have z := c.a.x 0 (f := fun K => Hf.baseB K (He.ga K "HeapError"))
  exact Hf.base_of (g_HeapError c X G) z
theorem e_BadKind (c : SaysH w K) (X : K.In h) (G : h.Ns mainGlobals mg) : ClT K mg "BadKind" "BadKind.__init__" iBadKind ["self", "kind"] ["kind"] (He.ga K "BadKind") (He.ma K (He.ga K "BadKind") "__init__") := by
  have z := c.a.x 1 (f := fun K => (Hf.excB K (He.ga K "BadKind") (He.ga K "HeapError") && clsB K (He.ga K "BadKind") (He.ma K (He.ga K "BadKind") "__init__") ["kind"]))
  obtain ⟨z1, z2⟩ := Bool.and_eq_true_iff.mp z
  obtain ⟨fd, F⟩ := c.b0.fun 0 (st := iBadKind)
  exact Hf.clT_of X G (He.eqO_ok (c.a.t.d.fact 1 (f := .glo "BadKind"))) z1 F (fun _ _ _ _ _ _ us hl => match us, hl with | [_, _], _ => rfl) z2
theorem e_BadWidth (c : SaysH w K) (X : K.In h) (G : h.Ns mainGlobals mg) : ClT K mg "BadWidth" "BadWidth.__init__" iBadWidth ["self", "width"] ["width"] (He.ga K "BadWidth") (He.ma K (He.ga K "BadWidth") "__init__") := by
  have z := c.a.x 2 (f := fun K => (Hf.excB K (He.ga K "BadWidth") (He.ga K "HeapError") && clsB K (He.ga K "BadWidth") (He.ma K (He.ga K "BadWidth") "__init__") ["width"]))
  obtain ⟨z1, z2⟩ := Bool.and_eq_true_iff.mp z
  obtain ⟨fd, F⟩ := c.b0.fun 1 (st := iBadWidth)
  exact Hf.clT_of X G (He.eqO_ok (c.a.t.d.fact 2 (f := .glo "BadWidth"))) z1 F (fun _ _ _ _ _ _ us hl => match us, hl with | [_, _], _ => rfl) z2
theorem e_BadLine (c : SaysH w K) (X : K.In h) (G : h.Ns mainGlobals mg) : ClT K mg "BadLine" "BadLine.__init__" iBadLine ["self", "line"] ["line"] (He.ga K "BadLine") (He.ma K (He.ga K "BadLine") "__init__") := by
  have z := c.a.x 3 (f := fun K => (Hf.excB K (He.ga K "BadLine") (He.ga K "HeapError") && clsB K (He.ga K "BadLine") (He.ma K (He.ga K "BadLine") "__init__") ["line"]))
  obtain ⟨z1, z2⟩ := Bool.and_eq_true_iff.mp z
  obtain ⟨fd, F⟩ := c.b0.fun 2 (st := iBadLine)
  exact Hf.clT_of X G (He.eqO_ok (c.a.t.d.fact 3 (f := .glo "BadLine"))) z1 F (fun _ _ _ _ _ _ us hl => match us, hl with | [_, _], _ => rfl) z2
theorem e_Refused (c : SaysH w K) (X : K.In h) (G : h.Ns mainGlobals mg) : ClT K mg "Refused" "Refused.__init__" iRefused ["self", "line"] ["line"] (He.ga K "Refused") (He.ma K (He.ga K "Refused") "__init__") := by
  have z := c.a.x 4 (f := fun K => (Hf.excB K (He.ga K "Refused") (He.ga K "HeapError") && clsB K (He.ga K "Refused") (He.ma K (He.ga K "Refused") "__init__") ["line"]))
  obtain ⟨z1, z2⟩ := Bool.and_eq_true_iff.mp z
  obtain ⟨fd, F⟩ := c.b0.fun 3 (st := iRefused)
  exact Hf.clT_of X G (He.eqO_ok (c.a.t.d.fact 4 (f := .glo "Refused"))) z1 F (fun _ _ _ _ _ _ us hl => match us, hl with | [_, _], _ => rfl) z2
theorem e_BadItem (c : SaysH w K) (X : K.In h) (G : h.Ns mainGlobals mg) : ClT K mg "BadItem" "BadItem.__init__" iBadItem ["self", "index"] ["index"] (He.ga K "BadItem") (He.ma K (He.ga K "BadItem") "__init__") := by
  have z := c.a.x 5 (f := fun K => (Hf.excB K (He.ga K "BadItem") (He.ga K "HeapError") && clsB K (He.ga K "BadItem") (He.ma K (He.ga K "BadItem") "__init__") ["index"]))
  obtain ⟨z1, z2⟩ := Bool.and_eq_true_iff.mp z
  obtain ⟨fd, F⟩ := c.b0.fun 4 (st := iBadItem)
  exact Hf.clT_of X G (He.eqO_ok (c.a.t.d.fact 5 (f := .glo "BadItem"))) z1 F (fun _ _ _ _ _ _ us hl => match us, hl with | [_, _], _ => rfl) z2
theorem e_BadCase (c : SaysH w K) (X : K.In h) (G : h.Ns mainGlobals mg) : ClT K mg "BadCase" "BadCase.__init__" iBadCase ["self", "what"] ["what"] (He.ga K "BadCase") (He.ma K (He.ga K "BadCase") "__init__") := by
  have z := c.a.x 6 (f := fun K => (Hf.excB K (He.ga K "BadCase") (He.ga K "HeapError") && clsB K (He.ga K "BadCase") (He.ma K (He.ga K "BadCase") "__init__") ["what"]))
  obtain ⟨z1, z2⟩ := Bool.and_eq_true_iff.mp z
  obtain ⟨fd, F⟩ := c.b0.fun 5 (st := iBadCase)
  exact Hf.clT_of X G (He.eqO_ok (c.a.t.d.fact 6 (f := .glo "BadCase"))) z1 F (fun _ _ _ _ _ _ us hl => match us, hl with | [_, _], _ => rfl) z2
theorem e_TooMany (c : SaysH w K) (X : K.In h) (G : h.Ns mainGlobals mg) : ClT K mg "TooMany" "TooMany.__init__" iTooMany ["self", "what", "many", "most"] ["what", "many", "most"] (He.ga K "TooMany") (He.ma K (He.ga K "TooMany") "__init__") := by
  have z := c.a.x 7 (f := fun K => (Hf.excB K (He.ga K "TooMany") (He.ga K "HeapError") && clsB K (He.ga K "TooMany") (He.ma K (He.ga K "TooMany") "__init__") ["what", "many", "most"]))
  obtain ⟨z1, z2⟩ := Bool.and_eq_true_iff.mp z
  obtain ⟨fd, F⟩ := c.b0.fun 6 (st := iTooMany)
  exact Hf.clT_of X G (He.eqO_ok (c.a.t.d.fact 7 (f := .glo "TooMany"))) z1 F (fun _ _ _ _ _ _ us hl => match us, hl with | [_, _, _, _], _ => rfl) z2
theorem f_is_kind (c : SaysH w K) (X : K.In h) (G : h.Ns mainGlobals mg) : FT K mg "is_kind" s_is_kind ["value"] (He.ga K "is_kind") := by
  obtain ⟨fd, F⟩ := c.b0.fun 7 (st := s_is_kind)
  exact ⟨c.a.glo X G 8, fd, F, F.binds (ps := ["value"]) fun _ _ _ _ _ _ us hl => match us, hl with | [_], _ => rfl⟩
theorem f_is_width (c : SaysH w K) (X : K.In h) (G : h.Ns mainGlobals mg) : FT K mg "is_width" s_is_width ["value"] (He.ga K "is_width") := by
  obtain ⟨fd, F⟩ := c.b0.fun 8 (st := s_is_width)
  exact ⟨c.a.glo X G 9, fd, F, F.binds (ps := ["value"]) fun _ _ _ _ _ _ us hl => match us, hl with | [_], _ => rfl⟩
theorem f_allows (c : SaysH w K) (X : K.In h) (G : h.Ns mainGlobals mg) : FT K mg "allows" s_allows ["kind", "word"] (He.ga K "allows") := by
  obtain ⟨fd, F⟩ := c.b0.fun 9 (st := s_allows)
  exact ⟨c.a.glo X G 10, fd, F, F.binds (ps := ["kind", "word"]) fun _ _ _ _ _ _ us hl => match us, hl with | [_, _], _ => rfl⟩
theorem f_parent (c : SaysH w K) (X : K.In h) (G : h.Ns mainGlobals mg) : FT K mg "parent" s_parent ["place", "width"] (He.ga K "parent") := by
  obtain ⟨fd, F⟩ := c.b0.fun 10 (st := s_parent)
  exact ⟨c.a.glo X G 11, fd, F, F.binds (ps := ["place", "width"]) fun _ _ _ _ _ _ us hl => match us, hl with | [_, _], _ => rfl⟩
theorem f_first_fault (c : SaysH w K) (X : K.In h) (G : h.Ns mainGlobals mg) : FT K mg "first_fault" s_first_fault ["items", "width"] (He.ga K "first_fault") := by
  obtain ⟨fd, F⟩ := c.b0.fun 11 (st := s_first_fault)
  exact ⟨c.a.glo X G 12, fd, F, F.binds (ps := ["items", "width"]) fun _ _ _ _ _ _ us hl => match us, hl with | [_, _], _ => rfl⟩
theorem f_is_heap (c : SaysH w K) (X : K.In h) (G : h.Ns mainGlobals mg) : FT K mg "is_heap" s_is_heap ["items", "width"] (He.ga K "is_heap") := by
  obtain ⟨fd, F⟩ := c.b0.fun 12 (st := s_is_heap)
  exact ⟨c.a.glo X G 13, fd, F, F.binds (ps := ["items", "width"]) fun _ _ _ _ _ _ us hl => match us, hl with | [_, _], _ => rfl⟩
theorem f_is_integer (c : SaysH w K) (X : K.In h) (G : h.Ns mainGlobals mg) : FT K mg "is_integer" s_is_integer ["value"] (He.ga K "is_integer") := by
  obtain ⟨fd, F⟩ := c.b0.fun 13 (st := s_is_integer)
  exact ⟨c.a.glo X G 14, fd, F, F.binds (ps := ["value"]) fun _ _ _ _ _ _ us hl => match us, hl with | [_], _ => rfl⟩
theorem f_is_item (c : SaysH w K) (X : K.In h) (G : h.Ns mainGlobals mg) : FT K mg "is_item" s_is_item ["value"] (He.ga K "is_item") := by
  obtain ⟨fd, F⟩ := c.b0.fun 14 (st := s_is_item)
  exact ⟨c.a.glo X G 15, fd, F, F.binds (ps := ["value"]) fun _ _ _ _ _ _ us hl => match us, hl with | [_], _ => rfl⟩
theorem f_first_bad_item (c : SaysH w K) (X : K.In h) (G : h.Ns mainGlobals mg) : FT K mg "first_bad_item" s_first_bad_item ["values"] (He.ga K "first_bad_item") := by
  obtain ⟨fd, F⟩ := c.b0.fun 15 (st := s_first_bad_item)
  exact ⟨c.a.glo X G 16, fd, F, F.binds (ps := ["values"]) fun _ _ _ _ _ _ us hl => match us, hl with | [_], _ => rfl⟩
theorem f_start_fits (c : SaysH w K) (X : K.In h) (G : h.Ns mainGlobals mg) : FT K mg "start_fits" s_start_fits ["kind", "count", "start"] (He.ga K "start_fits") := by
  obtain ⟨fd, F⟩ := c.b0.fun 16 (st := s_start_fits)
  exact ⟨c.a.glo X G 17, fd, F, F.binds (ps := ["kind", "count", "start"]) fun _ _ _ _ _ _ us hl => match us, hl with | [_, _, _], _ => rfl⟩
theorem f_given_fits (c : SaysH w K) (X : K.In h) (G : h.Ns mainGlobals mg) : FT K mg "given_fits" s_given_fits ["kind", "items", "given"] (He.ga K "given_fits") := by
  obtain ⟨fd, F⟩ := c.b0.fun 17 (st := s_given_fits)
  exact ⟨c.a.glo X G 18, fd, F, F.binds (ps := ["kind", "items", "given"]) fun _ _ _ _ _ _ us hl => match us, hl with | [_, _, _], _ => rfl⟩
theorem f_trees_are_heaps (c : SaysH w K) (X : K.In h) (G : h.Ns mainGlobals mg) : FT K mg "trees_are_heaps" s_trees_are_heaps ["items", "width", "start"] (He.ga K "trees_are_heaps") := by
  obtain ⟨fd, F⟩ := c.b0.fun 18 (st := s_trees_are_heaps)
  exact ⟨c.a.glo X G 19, fd, F, F.binds (ps := ["items", "width", "start"]) fun _ _ _ _ _ _ us hl => match us, hl with | [_, _, _], _ => rfl⟩
theorem f_is_heap_but_for (c : SaysH w K) (X : K.In h) (G : h.Ns mainGlobals mg) : FT K mg "is_heap_but_for" s_is_heap_but_for ["items", "width", "start"] (He.ga K "is_heap_but_for") := by
  obtain ⟨fd, F⟩ := c.b0.fun 19 (st := s_is_heap_but_for)
  exact ⟨c.a.glo X G 20, fd, F, F.binds (ps := ["items", "width", "start"]) fun _ _ _ _ _ _ us hl => match us, hl with | [_, _, _], _ => rfl⟩
theorem f_leans_right (c : SaysH w K) (X : K.In h) (G : h.Ns mainGlobals mg) : FT K mg "leans_right" s_leans_right ["kind", "items", "width", "start"] (He.ga K "leans_right") := by
  obtain ⟨fd, F⟩ := c.b0.fun 20 (st := s_leans_right)
  exact ⟨c.a.glo X G 21, fd, F, F.binds (ps := ["kind", "items", "width", "start"]) fun _ _ _ _ _ _ us hl => match us, hl with | [_, _, _, _], _ => rfl⟩
theorem f_list_fits (c : SaysH w K) (X : K.In h) (G : h.Ns mainGlobals mg) : FT K mg "list_fits" s_list_fits ["kind", "width", "items", "start"] (He.ga K "list_fits") := by
  obtain ⟨fd, F⟩ := c.b0.fun 21 (st := s_list_fits)
  exact ⟨c.a.glo X G 22, fd, F, F.binds (ps := ["kind", "width", "items", "start"]) fun _ _ _ _ _ _ us hl => match us, hl with | [_, _, _, _], _ => rfl⟩
theorem f_check_items (c : SaysH w K) (X : K.In h) (G : h.Ns mainGlobals mg) : FT K mg "check_items" s_check_items ["items"] (He.ga K "check_items") := by
  obtain ⟨fd, F⟩ := c.b0.fun 22 (st := s_check_items)
  exact ⟨c.a.glo X G 23, fd, F, F.binds (ps := ["items"]) fun _ _ _ _ _ _ us hl => match us, hl with | [_], _ => rfl⟩
theorem f_check_start_and_given (c : SaysH w K) (X : K.In h) (G : h.Ns mainGlobals mg) : FT K mg "check_start_and_given" s_check_start_and_given ["kind", "items", "start", "given"] (He.ga K "check_start_and_given") := by
  obtain ⟨fd, F⟩ := c.b0.fun 23 (st := s_check_start_and_given)
  exact ⟨c.a.glo X G 24, fd, F, F.binds (ps := ["kind", "items", "start", "given"]) fun _ _ _ _ _ _ us hl => match us, hl with | [_, _, _, _], _ => rfl⟩
theorem f_check_case (c : SaysH w K) (X : K.In h) (G : h.Ns mainGlobals mg) : FT K mg "check_case" s_check_case ["code", "items", "start", "given"] (He.ga K "check_case") := by
  obtain ⟨fd, F⟩ := c.b0.fun 24 (st := s_check_case)
  exact ⟨c.a.glo X G 25, fd, F, F.binds (ps := ["code", "items", "start", "given"]) fun _ _ _ _ _ _ us hl => match us, hl with | [_, _, _, _], _ => rfl⟩
theorem f_read_plain_part (c : SaysH w K) (X : K.In h) (G : h.Ns mainGlobals mg) : FT K mg "read_plain_part" s_read_plain_part ["text", "place", "width"] (He.ga K "read_plain_part") := by
  obtain ⟨fd, F⟩ := c.b0.fun 25 (st := s_read_plain_part)
  exact ⟨c.a.glo X G 26, fd, F, F.binds (ps := ["text", "place", "width"]) fun _ _ _ _ _ _ us hl => match us, hl with | [_, _, _], _ => rfl⟩
theorem f_read_part (c : SaysH w K) (X : K.In h) (G : h.Ns mainGlobals mg) : FT K mg "read_part" s_read_part ["text", "place", "width"] (He.ga K "read_part") := by
  obtain ⟨fd, F⟩ := c.b0.fun 26 (st := s_read_part)
  exact ⟨c.a.glo X G 27, fd, F, F.binds (ps := ["text", "place", "width"]) fun _ _ _ _ _ _ us hl => match us, hl with | [_, _, _], _ => rfl⟩
theorem f_read_test (c : SaysH w K) (X : K.In h) (G : h.Ns mainGlobals mg) : FT K mg "read_test" s_read_test ["text", "place", "width"] (He.ga K "read_test") := by
  obtain ⟨fd, F⟩ := c.b0.fun 27 (st := s_read_test)
  exact ⟨c.a.glo X G 28, fd, F, F.binds (ps := ["text", "place", "width"]) fun _ _ _ _ _ _ us hl => match us, hl with | [_, _, _], _ => rfl⟩
theorem f_names_given (c : SaysH w K) (X : K.In h) (G : h.Ns mainGlobals mg) : FT K mg "names_given" s_names_given ["test"] (He.ga K "names_given") := by
  obtain ⟨fd, F⟩ := c.b0.fun 28 (st := s_names_given)
  exact ⟨c.a.glo X G 29, fd, F, F.binds (ps := ["test"]) fun _ _ _ _ _ _ us hl => match us, hl with | [_], _ => rfl⟩
theorem f_row_with_test (c : SaysH w K) (X : K.In h) (G : h.Ns mainGlobals mg) : FT K mg "row_with_test" s_row_with_test ["word", "place", "text", "width"] (He.ga K "row_with_test") := by
  obtain ⟨fd, F⟩ := c.b0.fun 29 (st := s_row_with_test)
  exact ⟨c.a.glo X G 30, fd, F, F.binds (ps := ["word", "place", "text", "width"]) fun _ _ _ _ _ _ us hl => match us, hl with | [_, _, _, _], _ => rfl⟩
theorem f_row_of_block_word (c : SaysH w K) (X : K.In h) (G : h.Ns mainGlobals mg) : FT K mg "row_of_block_word" s_row_of_block_word ["word", "place", "opened"] (He.ga K "row_of_block_word") := by
  obtain ⟨fd, F⟩ := c.b0.fun 30 (st := s_row_of_block_word)
  exact ⟨c.a.glo X G 31, fd, F, F.binds (ps := ["word", "place", "opened"]) fun _ _ _ _ _ _ us hl => match us, hl with | [_, _, _], _ => rfl⟩
theorem f_read_row (c : SaysH w K) (X : K.In h) (G : h.Ns mainGlobals mg) : FT K mg "read_row" s_read_row ["line", "opened", "width"] (He.ga K "read_row") := by
  obtain ⟨fd, F⟩ := c.b0.fun 31 (st := s_read_row)
  exact ⟨c.a.glo X G 32, fd, F, F.binds (ps := ["line", "opened", "width"]) fun _ _ _ _ _ _ us hl => match us, hl with | [_, _, _], _ => rfl⟩
theorem f_blocks_behind (c : SaysH w K) (X : K.In h) (G : h.Ns mainGlobals mg) : FT K mg "blocks_behind" s_blocks_behind ["word", "opened"] (He.ga K "blocks_behind") := by
  obtain ⟨fd, F⟩ := c.b0.fun 32 (st := s_blocks_behind)
  exact ⟨c.a.glo X G 33, fd, F, F.binds (ps := ["word", "opened"]) fun _ _ _ _ _ _ us hl => match us, hl with | [_, _], _ => rfl⟩
theorem f_read_rows (c : SaysH w K) (X : K.In h) (G : h.Ns mainGlobals mg) : FT K mg "read_rows" s_read_rows ["lines", "width"] (He.ga K "read_rows") := by
  obtain ⟨fd, F⟩ := c.b0.fun 33 (st := s_read_rows)
  exact ⟨c.a.glo X G 34, fd, F, F.binds (ps := ["lines", "width"]) fun _ _ _ _ _ _ us hl => match us, hl with | [_, _], _ => rfl⟩
theorem f_tell (c : SaysH w K) (X : K.In h) (G : h.Ns mainGlobals mg) : FT K mg "tell" s_tell ["player", "row"] (He.ga K "tell") := by
  obtain ⟨fd, F⟩ := c.b0.fun 34 (st := s_tell)
  exact ⟨c.a.glo X G 35, fd, F, F.binds (ps := ["player", "row"]) fun _ _ _ _ _ _ us hl => match us, hl with | [_, _], _ => rfl⟩
theorem f_tree_of (c : SaysH w K) (X : K.In h) (G : h.Ns mainGlobals mg) : FT K mg "tree_of" s_tree_of ["start", "width", "count"] (He.ga K "tree_of") := by
  obtain ⟨fd, F⟩ := c.b0.fun 35 (st := s_tree_of)
  exact ⟨c.a.glo X G 36, fd, F, F.binds (ps := ["start", "width", "count"]) fun _ _ _ _ _ _ us hl => match us, hl with | [_, _, _], _ => rfl⟩
theorem f_owed_items (c : SaysH w K) (X : K.In h) (G : h.Ns mainGlobals mg) : FT K mg "owed_items" s_owed_items ["kind", "items", "given", "told"] (He.ga K "owed_items") := by
  obtain ⟨fd, F⟩ := c.b0.fun 36 (st := s_owed_items)
  exact ⟨c.a.glo X G 37, fd, F, F.binds (ps := ["kind", "items", "given", "told"]) fun _ _ _ _ _ _ us hl => match us, hl with | [_, _, _, _], _ => rfl⟩
theorem f_keeps_items (c : SaysH w K) (X : K.In h) (G : h.Ns mainGlobals mg) : FT K mg "keeps_items" s_keeps_items ["kind", "width", "items", "start", "given", "left", "told"] (He.ga K "keeps_items") := by
  obtain ⟨fd, F⟩ := c.b0.fun 37 (st := s_keeps_items)
  exact ⟨c.a.glo X G 38, fd, F, F.binds (ps := ["kind", "width", "items", "start", "given", "left", "told"]) fun _ _ _ _ _ _ us hl => match us, hl with | [_, _, _, _, _, _, _], _ => rfl⟩
theorem f_keeps_told (c : SaysH w K) (X : K.In h) (G : h.Ns mainGlobals mg) : FT K mg "keeps_told" s_keeps_told ["kind", "items", "start", "told"] (He.ga K "keeps_told") := by
  obtain ⟨fd, F⟩ := c.b0.fun 38 (st := s_keeps_told)
  exact ⟨c.a.glo X G 39, fd, F, F.binds (ps := ["kind", "items", "start", "told"]) fun _ _ _ _ _ _ us hl => match us, hl with | [_, _, _, _], _ => rfl⟩
theorem f_keeps_places (c : SaysH w K) (X : K.In h) (G : h.Ns mainGlobals mg) : FT K mg "keeps_places" s_keeps_places ["left", "entries", "noted"] (He.ga K "keeps_places") := by
  obtain ⟨fd, F⟩ := c.b0.fun 39 (st := s_keeps_places)
  exact ⟨c.a.glo X G 40, fd, F, F.binds (ps := ["left", "entries", "noted"]) fun _ _ _ _ _ _ us hl => match us, hl with | [_, _, _], _ => rfl⟩
theorem f_broken_at_end (c : SaysH w K) (X : K.In h) (G : h.Ns mainGlobals mg) : FT K mg "broken_at_end" s_broken_at_end ["code", "items", "start", "given", "player", "entries"] (He.ga K "broken_at_end") := by
  obtain ⟨fd, F⟩ := c.b0.fun 40 (st := s_broken_at_end)
  exact ⟨c.a.glo X G 41, fd, F, F.binds (ps := ["code", "items", "start", "given", "player", "entries"]) fun _ _ _ _ _ _ us hl => match us, hl with | [_, _, _, _, _, _], _ => rfl⟩
theorem f_broken_by (c : SaysH w K) (X : K.In h) (G : h.Ns mainGlobals mg) : FT K mg "broken_by" s_broken_by ["code", "items", "start", "given", "player", "entries"] (He.ga K "broken_by") := by
  obtain ⟨fd, F⟩ := c.b0.fun 41 (st := s_broken_by)
  exact ⟨c.a.glo X G 42, fd, F, F.binds (ps := ["code", "items", "start", "given", "player", "entries"]) fun _ _ _ _ _ _ us hl => match us, hl with | [_, _, _, _, _, _], _ => rfl⟩
theorem f_first_place (c : SaysH w K) (X : K.In h) (G : h.Ns mainGlobals mg) : FT K mg "first_place" s_first_place ["kind", "count", "start"] (He.ga K "first_place") := by
  obtain ⟨fd, F⟩ := c.b0.fun 42 (st := s_first_place)
  exact ⟨c.a.glo X G 43, fd, F, F.binds (ps := ["kind", "count", "start"]) fun _ _ _ _ _ _ us hl => match us, hl with | [_, _, _], _ => rfl⟩
theorem f_match_blocks (c : SaysH w K) (X : K.In h) (G : h.Ns mainGlobals mg) : FT K mg "match_blocks" s_match_blocks ["rows"] (He.ga K "match_blocks") := by
  obtain ⟨fd, F⟩ := c.b0.fun 43 (st := s_match_blocks)
  exact ⟨c.a.glo X G 44, fd, F, F.binds (ps := ["rows"]) fun _ _ _ _ _ _ us hl => match us, hl with | [_], _ => rfl⟩
theorem f_keeps_order (c : SaysH w K) (X : K.In h) (G : h.Ns mainGlobals mg) : FT K mg "keeps_order" s_keeps_order ["way", "word"] (He.ga K "keeps_order") := by
  obtain ⟨fd, F⟩ := c.b0.fun 44 (st := s_keeps_order)
  exact ⟨c.a.glo X G 45, fd, F, F.binds (ps := ["way", "word"]) fun _ _ _ _ _ _ us hl => match us, hl with | [_, _], _ => rfl⟩
theorem f_way_behind (c : SaysH w K) (X : K.In h) (G : h.Ns mainGlobals mg) : FT K mg "way_behind" s_way_behind ["way", "line", "word"] (He.ga K "way_behind") := by
  obtain ⟨fd, F⟩ := c.b0.fun 45 (st := s_way_behind)
  exact ⟨c.a.glo X G 46, fd, F, F.binds (ps := ["way", "line", "word"]) fun _ _ _ _ _ _ us hl => match us, hl with | [_, _, _], _ => rfl⟩
theorem f_least_break (c : SaysH w K) (X : K.In h) (G : h.Ns mainGlobals mg) : FT K mg "least_break" s_least_break ["kind", "rows"] (He.ga K "least_break") := by
  obtain ⟨fd, F⟩ := c.b0.fun 46 (st := s_least_break)
  exact ⟨c.a.glo X G 47, fd, F, F.binds (ps := ["kind", "rows"]) fun _ _ _ _ _ _ us hl => match us, hl with | [_, _], _ => rfl⟩
theorem f_Lbag (c : SaysH w K) (X : K.In h) (G : h.Ns mainGlobals mg) : FT K mg "_law_bag" sBag ["_law_script"] (He.ga K "_law_bag") := by
  obtain ⟨fd, F⟩ := c.b0.fun 47 (st := sBag)
  exact ⟨c.a.glo X G 48, fd, F, F.binds (ps := ["_law_script"]) fun _ _ _ _ _ _ us hl => match us, hl with | [_], _ => rfl⟩
theorem f_Ldraw (c : SaysH w K) (X : K.In h) (G : h.Ns mainGlobals mg) : FT K mg "_law_draw" sDraw ["_law_bag_here", "_law_limit"] (He.ga K "_law_draw") := by
  obtain ⟨fd, F⟩ := c.b0.fun 48 (st := sDraw)
  exact ⟨c.a.glo X G 49, fd, F, F.binds (ps := ["_law_bag_here", "_law_limit"]) fun _ _ _ _ _ _ us hl => match us, hl with | [_, _], _ => rfl⟩
theorem f_Lparent (c : SaysH w K) (X : K.In h) (G : h.Ns mainGlobals mg) : FT K mg "_law_parent" s_Lparent ["_law_place", "_law_width"] (He.ga K "_law_parent") := by
  obtain ⟨fd, F⟩ := c.b0.fun 49 (st := s_Lparent)
  exact ⟨c.a.glo X G 50, fd, F, F.binds (ps := ["_law_place", "_law_width"]) fun _ _ _ _ _ _ us hl => match us, hl with | [_, _], _ => rfl⟩
theorem f_Lfaults (c : SaysH w K) (X : K.In h) (G : h.Ns mainGlobals mg) : FT K mg "_law_faults" s_Lfaults ["_law_row", "_law_width"] (He.ga K "_law_faults") := by
  obtain ⟨fd, F⟩ := c.b0.fun 50 (st := s_Lfaults)
  exact ⟨c.a.glo X G 51, fd, F, F.binds (ps := ["_law_row", "_law_width"]) fun _ _ _ _ _ _ us hl => match us, hl with | [_, _], _ => rfl⟩
theorem f_Lunder (c : SaysH w K) (X : K.In h) (G : h.Ns mainGlobals mg) : FT K mg "_law_under" s_Lunder ["_law_place", "_law_start", "_law_width"] (He.ga K "_law_under") := by
  obtain ⟨fd, F⟩ := c.b0.fun 51 (st := s_Lunder)
  exact ⟨c.a.glo X G 52, fd, F, F.binds (ps := ["_law_place", "_law_start", "_law_width"]) fun _ _ _ _ _ _ us hl => match us, hl with | [_, _, _], _ => rfl⟩
theorem f_Lis_list (c : SaysH w K) (X : K.In h) (G : h.Ns mainGlobals mg) : FT K mg "_law_is_list" s_Lis_list ["_law_kind", "_law_width", "_law_row", "_law_start"] (He.ga K "_law_is_list") := by
  obtain ⟨fd, F⟩ := c.b0.fun 52 (st := s_Lis_list)
  exact ⟨c.a.glo X G 53, fd, F, F.binds (ps := ["_law_kind", "_law_width", "_law_row", "_law_start"]) fun _ _ _ _ _ _ us hl => match us, hl with | [_, _, _, _], _ => rfl⟩
theorem f_Litems (c : SaysH w K) (X : K.In h) (G : h.Ns mainGlobals mg) : FT K mg "_law_items" s_Litems ["_law_bag_here", "_law_n", "_law_width"] (He.ga K "_law_items") := by
  obtain ⟨fd, F⟩ := c.b0.fun 53 (st := s_Litems)
  exact ⟨c.a.glo X G 54, fd, F, F.binds (ps := ["_law_bag_here", "_law_n", "_law_width"]) fun _ _ _ _ _ _ us hl => match us, hl with | [_, _, _], _ => rfl⟩
theorem f_Ltold (c : SaysH w K) (X : K.In h) (G : h.Ns mainGlobals mg) : FT K mg "_law_told" s_Ltold ["_law_code", "_law_row", "_law_start", "_law_given"] (He.ga K "_law_told") := by
  obtain ⟨fd, F⟩ := c.b0.fun 54 (st := s_Ltold)
  exact ⟨c.a.glo X G 55, fd, F, F.binds (ps := ["_law_code", "_law_row", "_law_start", "_law_given"]) fun _ _ _ _ _ _ us hl => match us, hl with | [_, _, _, _], _ => rfl⟩
theorem f_law (c : SaysH w K) (X : K.In h) (G : h.Ns mainGlobals mg) : FT K mg "law" s_law ["_law_script"] (He.ga K "law") := by
  obtain ⟨fd, F⟩ := c.b0.fun 55 (st := s_law)
  exact ⟨c.a.glo X G 56, fd, F, F.binds (ps := ["_law_script"]) fun _ _ _ _ _ _ us hl => match us, hl with | [_], _ => rfl⟩
theorem f_keeps_orderP (c : SaysH w K) (X : K.In h) (G : h.Ns mainGlobals mg) : mg "keeps_order_promises" = some (.ref (He.ga K "keeps_order_promises")) ∧ ∃ fd, Fun K "keeps_order" "keeps_order" s_keeps_orderP (He.ga K "keeps_order_promises") fd ∧ Binds K fd ["kind", "width", "start", "left"] [] := by
  obtain ⟨fd, F⟩ := c.b0.fun 56 (st := s_keeps_orderP)
  exact ⟨c.a.glo X G 57, fd, F, F.binds (ps := ["kind", "width", "start", "left"]) fun _ _ _ _ _ _ us hl => match us, hl with | [_, _, _, _], _ => rfl⟩
theorem g_keeps_order_limits (c : SaysH w K) (X : K.In h) (G : h.Ns mainGlobals mg) : mg "keeps_order_limits" = some (.ref (He.ga K "keeps_order_limits")) := c.a.glo X G 58
theorem a_koL (c : SaysH w K) (X : K.In h) (G : h.Ns mainGlobals mg) : mg "keeps_order_limits" = some (.ref (He.ga K "keeps_order")) := by
  have z := c.a.x 8 (f := fun K => He.eqO (PySem.W.nsIn K mainGlobals "keeps_order_limits") (some (some (.ref (He.ga K "keeps_order")))))
  exact PySem.W.mg_of X G (He.eqO_ok z)
theorem f_play (c : SaysH w K) (X : K.In h) (G : h.Ns mainGlobals mg) : mg "play" = some (.ref (He.ga K "play")) ∧ ∃ fd, FunD K "play" "play" (defArgs s_play) (defBody s_play) (defScope s_play) [.non, .non] [] (He.ga K "play") fd := by
  obtain ⟨fd, F⟩ := c.b0.t.d.def_ 57 (d := ⟨("play", none), "play", "play", defArgs s_play, defBody s_play, defScope s_play, [.non, .non], []⟩)
  exact ⟨c.a.glo X G 59, fd, F⟩
theorem g_Row (c : SaysH w K) (X : K.In h) (G : h.Ns mainGlobals mg) : mg "Row" = some (.ref (He.ga K "Row")) := c.a.glo X G 60
theorem k_Row (c : SaysH w K) (X : K.In h) (G : h.Ns mainGlobals mg) : Mk K (He.ga K "Row") (He.ma K (He.ga K "Row") "__init__") ∧ Cls K (He.ga K "Row") ∧ ∀ x ∈ (["word", "place", "number", "test"] : List Str), NoAttr K (He.ga K "Row") x := by
  have z := c.a.x 9 (f := fun K => Hf.clB K (He.ga K "Row") (He.ma K (He.ga K "Row") "__init__") ["word", "place", "number", "test"])
  exact Hf.cl_of z
theorem m_Row_init (c : SaysH w K) : ∃ fd, FunD K "__init__" "Row.__init__" (defArgs s_Row_init) (defBody s_Row_init) (defScope s_Row_init) [.non, .ref (He.dflAt ("Row", some "__init__") 1 K)] [] (He.ma K (He.ga K "Row") "__init__") fd := c.b0.t.d.def_ 58 (d := ⟨("Row", some "__init__"), "__init__", "Row.__init__", defArgs s_Row_init, defBody s_Row_init, defScope s_Row_init, [.non, .adr (He.dflAt ("Row", some "__init__") 1)], []⟩)
theorem dT_Row (c : SaysH w K) (X : K.In h) (G : h.Ns mainGlobals mg) : ∀ H, SqT K H (He.dflAt ("Row", some "__init__") 1 K) [] := by
  have z := c.a.x 10 (f := fun K => Hf.tupB K (He.dflAt ("Row", some "__init__") 1 K) [])
  exact Hf.tup_of z
theorem g_Walk (c : SaysH w K) (X : K.In h) (G : h.Ns mainGlobals mg) : mg "Walk" = some (.ref (He.ga K "Walk")) := c.a.glo X G 61
theorem k_Walk (c : SaysH w K) (X : K.In h) (G : h.Ns mainGlobals mg) : Mk K (He.ga K "Walk") (He.ma K (He.ga K "Walk") "__init__") ∧ Cls K (He.ga K "Walk") ∧ ∀ x ∈ (["kind", "broken", "ways", "forks", "turning"] : List Str), NoAttr K (He.ga K "Walk") x := by
  have z := c.a.x 11 (f := fun K => Hf.clB K (He.ga K "Walk") (He.ma K (He.ga K "Walk") "__init__") ["kind", "broken", "ways", "forks", "turning"])
  exact Hf.cl_of z
theorem v_Walk_init (c : SaysH w K) : ∃ fd, Fun K "__init__" "Walk.__init__" s_Walk_init (He.ma K (He.ga K "Walk") "__init__") fd ∧ Binds K fd ["self", "kind"] [] := by
  obtain ⟨fd, F⟩ := c.b0.fun 59 (st := s_Walk_init)
  exact ⟨fd, F, F.binds (ps := ["self", "kind"]) fun _ _ _ _ _ _ us hl => match us, hl with | [_, _], _ => rfl⟩
theorem o_Walk_init (c : SaysH w K) (X : K.In h) (G : h.Ns mainGlobals mg) : Meth K (He.ga K "Walk") "__init__" (He.ma K (He.ga K "Walk") "__init__") ∧ Dun.Dn K (He.ga K "Walk") "__init__" (He.ma K (He.ga K "Walk") "__init__") := by
  have z := c.a.x 12 (f := fun K => Hf.methB K (He.ga K "Walk") "__init__" (He.ma K (He.ga K "Walk") "__init__"))
  exact Hf.meth_of z
theorem m_Walk_init (c : SaysH w K) (X : K.In h) (G : h.Ns mainGlobals mg) : MT K (He.ga K "Walk") "__init__" "Walk.__init__" s_Walk_init ["self", "kind"] (He.ma K (He.ga K "Walk") "__init__") := ⟨(o_Walk_init c X G).1, v_Walk_init c⟩
theorem v_Walk_step (c : SaysH w K) : ∃ fd, Fun K "step" "Walk.step" s_Walk_step (He.ma K (He.ga K "Walk") "step") fd ∧ Binds K fd ["self", "line", "row"] [] := by
  obtain ⟨fd, F⟩ := c.b0.fun 60 (st := s_Walk_step)
  exact ⟨fd, F, F.binds (ps := ["self", "line", "row"]) fun _ _ _ _ _ _ us hl => match us, hl with | [_, _, _], _ => rfl⟩
theorem o_Walk_step (c : SaysH w K) (X : K.In h) (G : h.Ns mainGlobals mg) : Meth K (He.ga K "Walk") "step" (He.ma K (He.ga K "Walk") "step") ∧ Dun.Dn K (He.ga K "Walk") "step" (He.ma K (He.ga K "Walk") "step") := by
  have z := c.a.x 13 (f := fun K => Hf.methB K (He.ga K "Walk") "step" (He.ma K (He.ga K "Walk") "step"))
  exact Hf.meth_of z
theorem m_Walk_step (c : SaysH w K) (X : K.In h) (G : h.Ns mainGlobals mg) : MT K (He.ga K "Walk") "step" "Walk.step" s_Walk_step ["self", "line", "row"] (He.ma K (He.ga K "Walk") "step") := ⟨(o_Walk_step c X G).1, v_Walk_step c⟩
theorem v_Walk_fork (c : SaysH w K) : ∃ fd, Fun K "fork" "Walk.fork" s_Walk_fork (He.ma K (He.ga K "Walk") "fork") fd ∧ Binds K fd ["self", "line", "row"] [] := by
  obtain ⟨fd, F⟩ := c.b0.fun 61 (st := s_Walk_fork)
  exact ⟨fd, F, F.binds (ps := ["self", "line", "row"]) fun _ _ _ _ _ _ us hl => match us, hl with | [_, _, _], _ => rfl⟩
theorem o_Walk_fork (c : SaysH w K) (X : K.In h) (G : h.Ns mainGlobals mg) : Meth K (He.ga K "Walk") "fork" (He.ma K (He.ga K "Walk") "fork") ∧ Dun.Dn K (He.ga K "Walk") "fork" (He.ma K (He.ga K "Walk") "fork") := by
  have z := c.a.x 14 (f := fun K => Hf.methB K (He.ga K "Walk") "fork" (He.ma K (He.ga K "Walk") "fork"))
  exact Hf.meth_of z
theorem m_Walk_fork (c : SaysH w K) (X : K.In h) (G : h.Ns mainGlobals mg) : MT K (He.ga K "Walk") "fork" "Walk.fork" s_Walk_fork ["self", "line", "row"] (He.ma K (He.ga K "Walk") "fork") := ⟨(o_Walk_fork c X G).1, v_Walk_fork c⟩
theorem v_Walk_pass_line (c : SaysH w K) : ∃ fd, Fun K "pass_line" "Walk.pass_line" s_Walk_pass_line (He.ma K (He.ga K "Walk") "pass_line") fd ∧ Binds K fd ["self", "line", "word"] [] := by
  obtain ⟨fd, F⟩ := c.b0.fun 62 (st := s_Walk_pass_line)
  exact ⟨fd, F, F.binds (ps := ["self", "line", "word"]) fun _ _ _ _ _ _ us hl => match us, hl with | [_, _, _], _ => rfl⟩
theorem o_Walk_pass_line (c : SaysH w K) (X : K.In h) (G : h.Ns mainGlobals mg) : Meth K (He.ga K "Walk") "pass_line" (He.ma K (He.ga K "Walk") "pass_line") ∧ Dun.Dn K (He.ga K "Walk") "pass_line" (He.ma K (He.ga K "Walk") "pass_line") := by
  have z := c.a.x 15 (f := fun K => Hf.methB K (He.ga K "Walk") "pass_line" (He.ma K (He.ga K "Walk") "pass_line"))
  exact Hf.meth_of z
theorem m_Walk_pass_line (c : SaysH w K) (X : K.In h) (G : h.Ns mainGlobals mg) : MT K (He.ga K "Walk") "pass_line" "Walk.pass_line" s_Walk_pass_line ["self", "line", "word"] (He.ma K (He.ga K "Walk") "pass_line") := ⟨(o_Walk_pass_line c X G).1, v_Walk_pass_line c⟩
theorem v_Walk_end_ways (c : SaysH w K) : ∃ fd, Fun K "end_ways" "Walk.end_ways" s_Walk_end_ways (He.ma K (He.ga K "Walk") "end_ways") fd ∧ Binds K fd ["self"] [] := by
  obtain ⟨fd, F⟩ := c.b0.fun 63 (st := s_Walk_end_ways)
  exact ⟨fd, F, F.binds (ps := ["self"]) fun _ _ _ _ _ _ us hl => match us, hl with | [_], _ => rfl⟩
theorem o_Walk_end_ways (c : SaysH w K) (X : K.In h) (G : h.Ns mainGlobals mg) : Meth K (He.ga K "Walk") "end_ways" (He.ma K (He.ga K "Walk") "end_ways") ∧ Dun.Dn K (He.ga K "Walk") "end_ways" (He.ma K (He.ga K "Walk") "end_ways") := by
  have z := c.a.x 16 (f := fun K => Hf.methB K (He.ga K "Walk") "end_ways" (He.ma K (He.ga K "Walk") "end_ways"))
  exact Hf.meth_of z
theorem m_Walk_end_ways (c : SaysH w K) (X : K.In h) (G : h.Ns mainGlobals mg) : MT K (He.ga K "Walk") "end_ways" "Walk.end_ways" s_Walk_end_ways ["self"] (He.ma K (He.ga K "Walk") "end_ways") := ⟨(o_Walk_end_ways c X G).1, v_Walk_end_ways c⟩
theorem g_Flow (c : SaysH w K) (X : K.In h) (G : h.Ns mainGlobals mg) : mg "Flow" = some (.ref (He.ga K "Flow")) := c.a.glo X G 62
theorem k_Flow (c : SaysH w K) (X : K.In h) (G : h.Ns mainGlobals mg) : Mk K (He.ga K "Flow") (He.ma K (He.ga K "Flow") "__init__") ∧ Cls K (He.ga K "Flow") ∧ ∀ x ∈ (["rows", "size", "heads", "ends", "after", "other", "loop_of"] : List Str), NoAttr K (He.ga K "Flow") x := by
  have z := c.a.x 17 (f := fun K => Hf.clB K (He.ga K "Flow") (He.ma K (He.ga K "Flow") "__init__") ["rows", "size", "heads", "ends", "after", "other", "loop_of"])
  exact Hf.cl_of z
theorem v_Flow_init (c : SaysH w K) : ∃ fd, Fun K "__init__" "Flow.__init__" s_Flow_init (He.ma K (He.ga K "Flow") "__init__") fd ∧ Binds K fd ["self", "rows"] [] := by
  obtain ⟨fd, F⟩ := c.b0.fun 64 (st := s_Flow_init)
  exact ⟨fd, F, F.binds (ps := ["self", "rows"]) fun _ _ _ _ _ _ us hl => match us, hl with | [_, _], _ => rfl⟩
theorem o_Flow_init (c : SaysH w K) (X : K.In h) (G : h.Ns mainGlobals mg) : Meth K (He.ga K "Flow") "__init__" (He.ma K (He.ga K "Flow") "__init__") ∧ Dun.Dn K (He.ga K "Flow") "__init__" (He.ma K (He.ga K "Flow") "__init__") := by
  have z := c.a.x 18 (f := fun K => Hf.methB K (He.ga K "Flow") "__init__" (He.ma K (He.ga K "Flow") "__init__"))
  exact Hf.meth_of z
theorem m_Flow_init (c : SaysH w K) (X : K.In h) (G : h.Ns mainGlobals mg) : MT K (He.ga K "Flow") "__init__" "Flow.__init__" s_Flow_init ["self", "rows"] (He.ma K (He.ga K "Flow") "__init__") := ⟨(o_Flow_init c X G).1, v_Flow_init c⟩
theorem v_Flow_landing (c : SaysH w K) : ∃ fd, Fun K "landing" "Flow.landing" s_Flow_landing (He.ma K (He.ga K "Flow") "landing") fd ∧ Binds K fd ["self", "at"] [] := by
  obtain ⟨fd, F⟩ := c.b0.fun 65 (st := s_Flow_landing)
  exact ⟨fd, F, F.binds (ps := ["self", "at"]) fun _ _ _ _ _ _ us hl => match us, hl with | [_, _], _ => rfl⟩
theorem o_Flow_landing (c : SaysH w K) (X : K.In h) (G : h.Ns mainGlobals mg) : Meth K (He.ga K "Flow") "landing" (He.ma K (He.ga K "Flow") "landing") ∧ Dun.Dn K (He.ga K "Flow") "landing" (He.ma K (He.ga K "Flow") "landing") := by
  have z := c.a.x 19 (f := fun K => Hf.methB K (He.ga K "Flow") "landing" (He.ma K (He.ga K "Flow") "landing"))
  exact Hf.meth_of z
theorem m_Flow_landing (c : SaysH w K) (X : K.In h) (G : h.Ns mainGlobals mg) : MT K (He.ga K "Flow") "landing" "Flow.landing" s_Flow_landing ["self", "at"] (He.ma K (He.ga K "Flow") "landing") := ⟨(o_Flow_landing c X G).1, v_Flow_landing c⟩
theorem v_Flow_way_past (c : SaysH w K) : ∃ fd, Fun K "way_past" "Flow.way_past" s_Flow_way_past (He.ma K (He.ga K "Flow") "way_past") fd ∧ Binds K fd ["self", "at"] [] := by
  obtain ⟨fd, F⟩ := c.b0.fun 66 (st := s_Flow_way_past)
  exact ⟨fd, F, F.binds (ps := ["self", "at"]) fun _ _ _ _ _ _ us hl => match us, hl with | [_, _], _ => rfl⟩
theorem o_Flow_way_past (c : SaysH w K) (X : K.In h) (G : h.Ns mainGlobals mg) : Meth K (He.ga K "Flow") "way_past" (He.ma K (He.ga K "Flow") "way_past") ∧ Dun.Dn K (He.ga K "Flow") "way_past" (He.ma K (He.ga K "Flow") "way_past") := by
  have z := c.a.x 20 (f := fun K => Hf.methB K (He.ga K "Flow") "way_past" (He.ma K (He.ga K "Flow") "way_past"))
  exact Hf.meth_of z
theorem m_Flow_way_past (c : SaysH w K) (X : K.In h) (G : h.Ns mainGlobals mg) : MT K (He.ga K "Flow") "way_past" "Flow.way_past" s_Flow_way_past ["self", "at"] (He.ma K (He.ga K "Flow") "way_past") := ⟨(o_Flow_way_past c X G).1, v_Flow_way_past c⟩
theorem v_Flow_find_loops (c : SaysH w K) : ∃ fd, Fun K "find_loops" "Flow.find_loops" s_Flow_find_loops (He.ma K (He.ga K "Flow") "find_loops") fd ∧ Binds K fd ["self"] [] := by
  obtain ⟨fd, F⟩ := c.b0.fun 67 (st := s_Flow_find_loops)
  exact ⟨fd, F, F.binds (ps := ["self"]) fun _ _ _ _ _ _ us hl => match us, hl with | [_], _ => rfl⟩
theorem o_Flow_find_loops (c : SaysH w K) (X : K.In h) (G : h.Ns mainGlobals mg) : Meth K (He.ga K "Flow") "find_loops" (He.ma K (He.ga K "Flow") "find_loops") ∧ Dun.Dn K (He.ga K "Flow") "find_loops" (He.ma K (He.ga K "Flow") "find_loops") := by
  have z := c.a.x 21 (f := fun K => Hf.methB K (He.ga K "Flow") "find_loops" (He.ma K (He.ga K "Flow") "find_loops"))
  exact Hf.meth_of z
theorem m_Flow_find_loops (c : SaysH w K) (X : K.In h) (G : h.Ns mainGlobals mg) : MT K (He.ga K "Flow") "find_loops" "Flow.find_loops" s_Flow_find_loops ["self"] (He.ma K (He.ga K "Flow") "find_loops") := ⟨(o_Flow_find_loops c X G).1, v_Flow_find_loops c⟩
theorem g_Player (c : SaysH w K) (X : K.In h) (G : h.Ns mainGlobals mg) : mg "Player" = some (.ref (He.ga K "Player")) := c.a.glo X G 63
theorem k_Player (c : SaysH w K) (X : K.In h) (G : h.Ns mainGlobals mg) : Mk K (He.ga K "Player") (He.ma K (He.ga K "Player") "__init__") ∧ Cls K (He.ga K "Player") ∧ ∀ x ∈ (["flow", "width", "row", "start", "given", "noted", "place", "hand", "mate", "told", "compares", "ended", "at", "loop", "met", "used", "sides_seen", "stations_met"] : List Str), NoAttr K (He.ga K "Player") x := by
  have z := c.a.x 22 (f := fun K => Hf.clB K (He.ga K "Player") (He.ma K (He.ga K "Player") "__init__") ["flow", "width", "row", "start", "given", "noted", "place", "hand", "mate", "told", "compares", "ended", "at", "loop", "met", "used", "sides_seen", "stations_met"])
  exact Hf.cl_of z
theorem v_Player_init (c : SaysH w K) : ∃ fd, Fun K "__init__" "Player.__init__" s_Player_init (He.ma K (He.ga K "Player") "__init__") fd ∧ Binds K fd ["self", "code", "items", "start", "given"] [] := by
  obtain ⟨fd, F⟩ := c.b0.fun 68 (st := s_Player_init)
  exact ⟨fd, F, F.binds (ps := ["self", "code", "items", "start", "given"]) fun _ _ _ _ _ _ us hl => match us, hl with | [_, _, _, _, _], _ => rfl⟩
theorem o_Player_init (c : SaysH w K) (X : K.In h) (G : h.Ns mainGlobals mg) : Meth K (He.ga K "Player") "__init__" (He.ma K (He.ga K "Player") "__init__") ∧ Dun.Dn K (He.ga K "Player") "__init__" (He.ma K (He.ga K "Player") "__init__") := by
  have z := c.a.x 23 (f := fun K => Hf.methB K (He.ga K "Player") "__init__" (He.ma K (He.ga K "Player") "__init__"))
  exact Hf.meth_of z
theorem m_Player_init (c : SaysH w K) (X : K.In h) (G : h.Ns mainGlobals mg) : MT K (He.ga K "Player") "__init__" "Player.__init__" s_Player_init ["self", "code", "items", "start", "given"] (He.ma K (He.ga K "Player") "__init__") := ⟨(o_Player_init c X G).1, v_Player_init c⟩
theorem v_Player_item (c : SaysH w K) : ∃ fd, Fun K "item" "Player.item" s_Player_item (He.ma K (He.ga K "Player") "item") fd ∧ Binds K fd ["self", "place"] [] := by
  obtain ⟨fd, F⟩ := c.b0.fun 69 (st := s_Player_item)
  exact ⟨fd, F, F.binds (ps := ["self", "place"]) fun _ _ _ _ _ _ us hl => match us, hl with | [_, _], _ => rfl⟩
theorem o_Player_item (c : SaysH w K) (X : K.In h) (G : h.Ns mainGlobals mg) : Meth K (He.ga K "Player") "item" (He.ma K (He.ga K "Player") "item") ∧ Dun.Dn K (He.ga K "Player") "item" (He.ma K (He.ga K "Player") "item") := by
  have z := c.a.x 24 (f := fun K => Hf.methB K (He.ga K "Player") "item" (He.ma K (He.ga K "Player") "item"))
  exact Hf.meth_of z
theorem m_Player_item (c : SaysH w K) (X : K.In h) (G : h.Ns mainGlobals mg) : MT K (He.ga K "Player") "item" "Player.item" s_Player_item ["self", "place"] (He.ma K (He.ga K "Player") "item") := ⟨(o_Player_item c X G).1, v_Player_item c⟩
theorem v_Player_run (c : SaysH w K) : ∃ fd, Fun K "run" "Player.run" s_Player_run (He.ma K (He.ga K "Player") "run") fd ∧ Binds K fd ["self"] [] := by
  obtain ⟨fd, F⟩ := c.b0.fun 70 (st := s_Player_run)
  exact ⟨fd, F, F.binds (ps := ["self"]) fun _ _ _ _ _ _ us hl => match us, hl with | [_], _ => rfl⟩
theorem o_Player_run (c : SaysH w K) (X : K.In h) (G : h.Ns mainGlobals mg) : Meth K (He.ga K "Player") "run" (He.ma K (He.ga K "Player") "run") ∧ Dun.Dn K (He.ga K "Player") "run" (He.ma K (He.ga K "Player") "run") := by
  have z := c.a.x 25 (f := fun K => Hf.methB K (He.ga K "Player") "run" (He.ma K (He.ga K "Player") "run"))
  exact Hf.meth_of z
theorem m_Player_run (c : SaysH w K) (X : K.In h) (G : h.Ns mainGlobals mg) : MT K (He.ga K "Player") "run" "Player.run" s_Player_run ["self"] (He.ma K (He.ga K "Player") "run") := ⟨(o_Player_run c X G).1, v_Player_run c⟩
theorem v_Player_step (c : SaysH w K) : ∃ fd, Fun K "step" "Player.step" s_Player_step (He.ma K (He.ga K "Player") "step") fd ∧ Binds K fd ["self", "row"] [] := by
  obtain ⟨fd, F⟩ := c.b0.fun 71 (st := s_Player_step)
  exact ⟨fd, F, F.binds (ps := ["self", "row"]) fun _ _ _ _ _ _ us hl => match us, hl with | [_, _], _ => rfl⟩
theorem o_Player_step (c : SaysH w K) (X : K.In h) (G : h.Ns mainGlobals mg) : Meth K (He.ga K "Player") "step" (He.ma K (He.ga K "Player") "step") ∧ Dun.Dn K (He.ga K "Player") "step" (He.ma K (He.ga K "Player") "step") := by
  have z := c.a.x 26 (f := fun K => Hf.methB K (He.ga K "Player") "step" (He.ma K (He.ga K "Player") "step"))
  exact Hf.meth_of z
theorem m_Player_step (c : SaysH w K) (X : K.In h) (G : h.Ns mainGlobals mg) : MT K (He.ga K "Player") "step" "Player.step" s_Player_step ["self", "row"] (He.ma K (He.ga K "Player") "step") := ⟨(o_Player_step c X G).1, v_Player_step c⟩
theorem g_Play (c : SaysH w K) (X : K.In h) (G : h.Ns mainGlobals mg) : mg "Play" = some (.ref (He.ga K "Play")) := c.a.glo X G 64
theorem k_Play (c : SaysH w K) (X : K.In h) (G : h.Ns mainGlobals mg) : Mk K (He.ga K "Play") (He.ma K (He.ga K "Play") "__init__") ∧ Cls K (He.ga K "Play") ∧ ∀ x ∈ (["ended", "left", "told", "compares", "broken", "_table", "_lines", "_sides", "_stations"] : List Str), NoAttr K (He.ga K "Play") x := by
  have z := c.a.x 27 (f := fun K => Hf.clB K (He.ga K "Play") (He.ma K (He.ga K "Play") "__init__") ["ended", "left", "told", "compares", "broken", "_table", "_lines", "_sides", "_stations"])
  exact Hf.cl_of z
theorem v_Play_init (c : SaysH w K) : ∃ fd, Fun K "__init__" "Play.__init__" s_Play_init (He.ma K (He.ga K "Play") "__init__") fd ∧ Binds K fd ["self", "player", "broken", "table"] [] := by
  obtain ⟨fd, F⟩ := c.b0.fun 72 (st := s_Play_init)
  exact ⟨fd, F, F.binds (ps := ["self", "player", "broken", "table"]) fun _ _ _ _ _ _ us hl => match us, hl with | [_, _, _, _], _ => rfl⟩
theorem o_Play_init (c : SaysH w K) (X : K.In h) (G : h.Ns mainGlobals mg) : Meth K (He.ga K "Play") "__init__" (He.ma K (He.ga K "Play") "__init__") ∧ Dun.Dn K (He.ga K "Play") "__init__" (He.ma K (He.ga K "Play") "__init__") := by
  have z := c.a.x 28 (f := fun K => Hf.methB K (He.ga K "Play") "__init__" (He.ma K (He.ga K "Play") "__init__"))
  exact Hf.meth_of z
theorem m_Play_init (c : SaysH w K) (X : K.In h) (G : h.Ns mainGlobals mg) : MT K (He.ga K "Play") "__init__" "Play.__init__" s_Play_init ["self", "player", "broken", "table"] (He.ma K (He.ga K "Play") "__init__") := ⟨(o_Play_init c X G).1, v_Play_init c⟩
theorem g_Table (c : SaysH w K) (X : K.In h) (G : h.Ns mainGlobals mg) : mg "Table" = some (.ref (He.ga K "Table")) := c.a.glo X G 65
theorem k_Table (c : SaysH w K) (X : K.In h) (G : h.Ns mainGlobals mg) : Mk K (He.ga K "Table") (He.ma K (He.ga K "Table") "__init__") ∧ Cls K (He.ga K "Table") ∧ ∀ x ∈ (["older", "entries", "depth"] : List Str), NoAttr K (He.ga K "Table") x := by
  have z := c.a.x 29 (f := fun K => Hf.clB K (He.ga K "Table") (He.ma K (He.ga K "Table") "__init__") ["older", "entries", "depth"])
  exact Hf.cl_of z
theorem v_Table_init (c : SaysH w K) : ∃ fd, Fun K "__init__" "Table.__init__" s_Table_init (He.ma K (He.ga K "Table") "__init__") fd ∧ Binds K fd ["self", "older", "entries"] [] := by
  obtain ⟨fd, F⟩ := c.b0.fun 73 (st := s_Table_init)
  exact ⟨fd, F, F.binds (ps := ["self", "older", "entries"]) fun _ _ _ _ _ _ us hl => match us, hl with | [_, _, _], _ => rfl⟩
theorem o_Table_init (c : SaysH w K) (X : K.In h) (G : h.Ns mainGlobals mg) : Meth K (He.ga K "Table") "__init__" (He.ma K (He.ga K "Table") "__init__") ∧ Dun.Dn K (He.ga K "Table") "__init__" (He.ma K (He.ga K "Table") "__init__") := by
  have z := c.a.x 30 (f := fun K => Hf.methB K (He.ga K "Table") "__init__" (He.ma K (He.ga K "Table") "__init__"))
  exact Hf.meth_of z
theorem m_Table_init (c : SaysH w K) (X : K.In h) (G : h.Ns mainGlobals mg) : MT K (He.ga K "Table") "__init__" "Table.__init__" s_Table_init ["self", "older", "entries"] (He.ma K (He.ga K "Table") "__init__") := ⟨(o_Table_init c X G).1, v_Table_init c⟩
theorem g_Code (c : SaysH w K) (X : K.In h) (G : h.Ns mainGlobals mg) : mg "Code" = some (.ref (He.ga K "Code")) := c.a.glo X G 66
theorem k_Code (c : SaysH w K) (X : K.In h) (G : h.Ns mainGlobals mg) : Mk K (He.ga K "Code") (He.ma K (He.ga K "Code") "__init__") ∧ Cls K (He.ga K "Code") ∧ ∀ x ∈ (["kind", "width", "text", "flow", "memory", "_lines"] : List Str), NoAttr K (He.ga K "Code") x := by
  have z := c.a.x 31 (f := fun K => Hf.clB K (He.ga K "Code") (He.ma K (He.ga K "Code") "__init__") ["kind", "width", "text", "flow", "memory", "_lines"])
  exact Hf.cl_of z
theorem v_Code_init (c : SaysH w K) : ∃ fd, Fun K "__init__" "Code.__init__" s_Code_init (He.ma K (He.ga K "Code") "__init__") fd ∧ Binds K fd ["self", "kind", "width", "text"] [] := by
  obtain ⟨fd, F⟩ := c.b0.fun 74 (st := s_Code_init)
  exact ⟨fd, F, F.binds (ps := ["self", "kind", "width", "text"]) fun _ _ _ _ _ _ us hl => match us, hl with | [_, _, _, _], _ => rfl⟩
theorem o_Code_init (c : SaysH w K) (X : K.In h) (G : h.Ns mainGlobals mg) : Meth K (He.ga K "Code") "__init__" (He.ma K (He.ga K "Code") "__init__") ∧ Dun.Dn K (He.ga K "Code") "__init__" (He.ma K (He.ga K "Code") "__init__") := by
  have z := c.a.x 32 (f := fun K => Hf.methB K (He.ga K "Code") "__init__" (He.ma K (He.ga K "Code") "__init__"))
  exact Hf.meth_of z
theorem m_Code_init (c : SaysH w K) (X : K.In h) (G : h.Ns mainGlobals mg) : MT K (He.ga K "Code") "__init__" "Code.__init__" s_Code_init ["self", "kind", "width", "text"] (He.ma K (He.ga K "Code") "__init__") := ⟨(o_Code_init c X G).1, v_Code_init c⟩
theorem y_int (c : SaysH w K) (X : K.In h) (G : h.Ns mainGlobals mg) : mg "int" = none := c.a.free X G 67
theorem y_list (c : SaysH w K) (X : K.In h) (G : h.Ns mainGlobals mg) : mg "list" = none := c.a.free X G 68
theorem y_len (c : SaysH w K) (X : K.In h) (G : h.Ns mainGlobals mg) : mg "len" = none := c.a.free X G 69
theorem y_isinstance (c : SaysH w K) (X : K.In h) (G : h.Ns mainGlobals mg) : mg "isinstance" = none := c.a.free X G 70
theorem y_range (c : SaysH w K) (X : K.In h) (G : h.Ns mainGlobals mg) : mg "range" = none := c.a.free X G 71
theorem y_str (c : SaysH w K) (X : K.In h) (G : h.Ns mainGlobals mg) : mg "str" = none := c.a.free X G 72
theorem y_tuple (c : SaysH w K) (X : K.In h) (G : h.Ns mainGlobals mg) : mg "tuple" = none := c.a.free X G 73
theorem y_any (c : SaysH w K) (X : K.In h) (G : h.Ns mainGlobals mg) : mg "any" = none := c.a.free X G 74
theorem y_enumerate (c : SaysH w K) (X : K.In h) (G : h.Ns mainGlobals mg) : mg "enumerate" = none := c.a.free X G 75
theorem y_min (c : SaysH w K) (X : K.In h) (G : h.Ns mainGlobals mg) : mg "min" = none := c.a.free X G 76
theorem y_bool (c : SaysH w K) (X : K.In h) (G : h.Ns mainGlobals mg) : mg "bool" = none := c.a.free X G 77
theorem y_all (c : SaysH w K) (X : K.In h) (G : h.Ns mainGlobals mg) : mg "all" = none := c.a.free X G 78
theorem y_sorted (c : SaysH w K) (X : K.In h) (G : h.Ns mainGlobals mg) : mg "sorted" = none := c.a.free X G 79
theorem p6 (c : SaysH w K) (X : K.In h) (G : h.Ns mainGlobals mg) : PySem.W.exmOne K (.ref (He.ga K "BadCase")) (.ref (He.ga K "BadCase")) = some true := by
  have z := c.a.x 33 (f := fun K => decide (PySem.W.exmOne K (.ref (He.ga K "BadCase")) (.ref (He.ga K "BadCase")) = some true))
  exact of_decide_eq_true z
theorem t_KINDS (c : SaysH w K) (X : K.In h) (G : h.Ns mainGlobals mg) : TupT K mg "KINDS" (He.ga K "KINDS") kindsV := by
  have z := c.a.x 34 (f := fun K => Hf.tupB K (He.ga K "KINDS") kindsV)
  exact ⟨c.a.glo X G 80, Hf.tup_of z⟩
theorem t_WIDTHS (c : SaysH w K) (X : K.In h) (G : h.Ns mainGlobals mg) : TupT K mg "WIDTHS" (He.ga K "WIDTHS") widthsV := by
  have z := c.a.x 35 (f := fun K => Hf.tupB K (He.ga K "WIDTHS") widthsV)
  exact ⟨c.a.glo X G 81, Hf.tup_of z⟩
theorem t_GIVEN (c : SaysH w K) (X : K.In h) (G : h.Ns mainGlobals mg) : TupT K mg "GIVEN" (He.ga K "GIVEN") [.str "given", .int 0] := by
  have z := c.a.x 36 (f := fun K => Hf.tupB K (He.ga K "GIVEN") [.str "given", .int 0])
  exact ⟨c.a.glo X G 82, Hf.tup_of z⟩
theorem t_LOOPS (c : SaysH w K) (X : K.In h) (G : h.Ns mainGlobals mg) : TupT K mg "LOOPS" (He.ga K "LOOPS") loopsV := by
  have z := c.a.x 37 (f := fun K => Hf.tupB K (He.ga K "LOOPS") loopsV)
  exact ⟨c.a.glo X G 83, Hf.tup_of z⟩
theorem t_TOP_WORDS (c : SaysH w K) (X : K.In h) (G : h.Ns mainGlobals mg) : TupT K mg "TOP_WORDS" (He.ga K "TOP_WORDS") topV := by
  have z := c.a.x 38 (f := fun K => Hf.tupB K (He.ga K "TOP_WORDS") topV)
  exact ⟨c.a.glo X G 84, Hf.tup_of z⟩
theorem t_ONCE (c : SaysH w K) (X : K.In h) (G : h.Ns mainGlobals mg) : TupT K mg "ONCE" (He.ga K "ONCE") onceV := by
  have z := c.a.x 39 (f := fun K => Hf.tupB K (He.ga K "ONCE") onceV)
  exact ⟨c.a.glo X G 85, Hf.tup_of z⟩
theorem t_AHEAD_OF_LOOPS (c : SaysH w K) (X : K.In h) (G : h.Ns mainGlobals mg) : TupT K mg "AHEAD_OF_LOOPS" (He.ga K "AHEAD_OF_LOOPS") aheadV := by
  have z := c.a.x 40 (f := fun K => Hf.tupB K (He.ga K "AHEAD_OF_LOOPS") aheadV)
  exact ⟨c.a.glo X G 86, Hf.tup_of z⟩
theorem t_WITH_START (c : SaysH w K) (X : K.In h) (G : h.Ns mainGlobals mg) : TupT K mg "WITH_START" (He.ga K "WITH_START") (startW.map V.str) := by
  have z := c.a.x 41 (f := fun K => Hf.tupB K (He.ga K "WITH_START") (startW.map V.str))
  exact ⟨c.a.glo X G 87, Hf.tup_of z⟩
theorem t_WITH_GIVEN (c : SaysH w K) (X : K.In h) (G : h.Ns mainGlobals mg) : TupT K mg "WITH_GIVEN" (He.ga K "WITH_GIVEN") (givenW.map V.str) := by
  have z := c.a.x 42 (f := fun K => Hf.tupB K (He.ga K "WITH_GIVEN") (givenW.map V.str))
  exact ⟨c.a.glo X G 88, Hf.tup_of z⟩
theorem t_WITH_TOLD (c : SaysH w K) (X : K.In h) (G : h.Ns mainGlobals mg) : TupT K mg "WITH_TOLD" (He.ga K "WITH_TOLD") (toldW.map V.str) := by
  have z := c.a.x 43 (f := fun K => Hf.tupB K (He.ga K "WITH_TOLD") (toldW.map V.str))
  exact ⟨c.a.glo X G 89, Hf.tup_of z⟩
theorem t_OF_HEAPS (c : SaysH w K) (X : K.In h) (G : h.Ns mainGlobals mg) : TupT K mg "OF_HEAPS" (He.ga K "OF_HEAPS") (heapsW.map V.str) := by
  have z := c.a.x 44 (f := fun K => Hf.tupB K (He.ga K "OF_HEAPS") (heapsW.map V.str))
  exact ⟨c.a.glo X G 90, Hf.tup_of z⟩
theorem g_FRESH (c : SaysH w K) (X : K.In h) (G : h.Ns mainGlobals mg) : mg "FRESH" = some (.ref (He.ga K "FRESH")) := c.a.glo X G 91
theorem w_FRESH (c : SaysH w K) (X : K.In h) (G : h.Ns mainGlobals mg) : ∀ H, Wy K H (.ref (He.ga K "FRESH")) := by
  have z := c.a.x 45 (f := fun K => wayB K (He.ga K "FRESH"))
  exact way_of z
theorem i_MOST_LINES (c : SaysH w K) (X : K.In h) (G : h.Ns mainGlobals mg) : ∃ t, mg "MOST_LINES" = some (.int 60 t) := c.a.int X G 92
theorem d_ALLOWED (c : SaysH w K) : ∃ es n, KDict K w (He.ga K "ALLOWED") es n := c.a.t.tab 0 (t := (fun K => He.ga K "ALLOWED", ["longer", "shorter", "grab last", "trade", "grab given", "given", "to start"]))
theorem g_ALLOWED (c : SaysH w K) (X : K.In h) (G : h.Ns mainGlobals mg) : mg "ALLOWED" = some (.ref (He.ga K "ALLOWED")) := c.a.glo X G 93
theorem d_ACTIONS (c : SaysH w K) : ∃ es n, KDict K w (He.ga K "ACTIONS") es n := c.a.t.tab 1 (t := (fun K => He.ga K "ACTIONS", ["tell", "grab", "grab last", "grab given", "lay", "longer", "shorter", "trade", "to start", "note", "note mate", "go", "pull", "swap", "pick"]))
theorem g_ACTIONS (c : SaysH w K) (X : K.In h) (G : h.Ns mainGlobals mg) : mg "ACTIONS" = some (.ref (He.ga K "ACTIONS")) := c.a.glo X G 94
theorem a_tell (c : SaysH w K) (X : K.In h) (G : h.Ns mainGlobals mg) : PySem.W.nsIn K (He.ga K "ACTIONS") "tell" = some (some (.ref (He.ga K "tell"))) := by
  have z := c.a.x 46 (f := fun K => Hf.inB K (He.ga K "ACTIONS") "tell" (He.ga K "tell"))
  exact of_decide_eq_true z
theorem u_tell (c : SaysH w K) (X : K.In h) (G : h.Ns mainGlobals mg) : PySem.W.nsIn K (He.ga K "ALLOWED") "tell" = some none := by
  have z := c.a.x 47 (f := fun K => Hf.notB K (He.ga K "ALLOWED") "tell")
  exact of_decide_eq_true z
theorem u_grab (c : SaysH w K) (X : K.In h) (G : h.Ns mainGlobals mg) : PySem.W.nsIn K (He.ga K "ALLOWED") "grab" = some none := by
  have z := c.a.x 48 (f := fun K => Hf.notB K (He.ga K "ALLOWED") "grab")
  exact of_decide_eq_true z
theorem u_note (c : SaysH w K) (X : K.In h) (G : h.Ns mainGlobals mg) : PySem.W.nsIn K (He.ga K "ALLOWED") "note" = some none := by
  have z := c.a.x 49 (f := fun K => Hf.notB K (He.ga K "ALLOWED") "note")
  exact of_decide_eq_true z
theorem u_quit (c : SaysH w K) (X : K.In h) (G : h.Ns mainGlobals mg) : PySem.W.nsIn K (He.ga K "ALLOWED") "quit" = some none := by
  have z := c.a.x 50 (f := fun K => Hf.notB K (He.ga K "ALLOWED") "quit")
  exact of_decide_eq_true z
end
end
end H2
namespace H2
open PySem PySem.Spec PyProof.Rows L2 Hx Nd Dun
theorem facts {P : Program} {w : World} {K : PySem.W.Frag} {h : Heap} {mg : Str → Option Value} {fa : Addr} (X : K.In h) (G : h.Ns mainGlobals mg) (hfa : mg "law" = some (.ref fa)) (c : SaysH w K) : ∃ fd : FuncData, (∀ (s : Shared) (v : Value), BindsTo s fd ⟨[v], []⟩ [("_law_script", v)]) ∧ ∀ base : Heap, K.In base → base.Ns mainGlobals mg → FnOk P w K mg base CX0 9 fa fd ["_law_script"] (spLaw7 K) := by
  have e := hfa.symm.trans (f_law c X G).g
  cases e
  obtain ⟨fdl, F_law, b_law⟩ := (f_law c X G).fn
  obtain ⟨fd_Lbag, F_Lbag, b_Lbag⟩ := (f_Lbag c X G).fn
  obtain ⟨fd_Ldraw, F_Ldraw, b_Ldraw⟩ := (f_Ldraw c X G).fn
  obtain ⟨fd_tell, F_tell, b_tell⟩ := (f_tell c X G).fn
  have B : BltT mg := ⟨y_int c X G, y_list c X G, y_len c X G⟩
  have ET : ErrT K mg (He.ga K "HeapError") (fun i => [(He.ga K "BadKind"), (He.ga K "BadWidth"), (He.ga K "BadLine"), (He.ga K "Refused"), (He.ga K "TooMany"), (He.ga K "BadItem"), (He.ga K "BadCase")].getD i 0) (fun i => [(He.ma K (He.ga K "BadKind") "__init__"), (He.ma K (He.ga K "BadWidth") "__init__"), (He.ma K (He.ga K "BadLine") "__init__"), (He.ma K (He.ga K "Refused") "__init__"), (He.ma K (He.ga K "TooMany") "__init__"), (He.ma K (He.ga K "BadItem") "__init__"), (He.ma K (He.ga K "BadCase") "__init__")].getD i 0) := ⟨baseT c X G, e_BadKind c X G, e_BadWidth c X G, e_BadLine c X G, e_Refused c X G, e_TooMany c X G⟩
  have EC : ErrC K mg (He.ga K "HeapError") (fun i => [(He.ga K "BadKind"), (He.ga K "BadWidth"), (He.ga K "BadLine"), (He.ga K "Refused"), (He.ga K "TooMany"), (He.ga K "BadItem"), (He.ga K "BadCase")].getD i 0) (fun i => [(He.ma K (He.ga K "BadKind") "__init__"), (He.ma K (He.ga K "BadWidth") "__init__"), (He.ma K (He.ga K "BadLine") "__init__"), (He.ma K (He.ga K "Refused") "__init__"), (He.ma K (He.ga K "TooMany") "__init__"), (He.ma K (He.ga K "BadItem") "__init__"), (He.ma K (He.ga K "BadCase") "__init__")].getD i 0) := ⟨baseT c X G, e_BadItem c X G, e_BadCase c X G⟩
  obtain ⟨makRow, clRow, nfRow⟩ := k_Row c X G
  obtain ⟨makWalk, clWalk, nfWalk⟩ := k_Walk c X G
  obtain ⟨makFlow, clFlow, nfFlow⟩ := k_Flow c X G
  obtain ⟨makPlayer, clPlayer, nfPlayer⟩ := k_Player c X G
  obtain ⟨makPlay, clPlay, nfPlay⟩ := k_Play c X G
  obtain ⟨makTable, clTable, nfTable⟩ := k_Table c X G
  obtain ⟨makCode, clCode, nfCode⟩ := k_Code c X G
  obtain ⟨fdR, FR⟩ := m_Row_init c
  have R : RowT K mg (He.ga K "Row") (He.ma K (He.ga K "Row") "__init__") (He.dflAt ("Row", some "__init__") 1 K) := ⟨g_Row c X G, makRow, clRow, nfRow _ (by simp), nfRow _ (by simp), nfRow _ (by simp), nfRow _ (by simp), dT_Row c X G, _, FR⟩
  have W : WalkT K mg (He.ga K "Walk") (fun i => [(He.ma K (He.ga K "Walk") "__init__"), (He.ma K (He.ga K "Walk") "step"), 0, 0, (He.ma K (He.ga K "Walk") "fork"), (He.ma K (He.ga K "Walk") "pass_line"), (He.ma K (He.ga K "Walk") "end_ways")].getD i 0) := ⟨g_Walk c X G, makWalk, clWalk, nfWalk _ (by simp), nfWalk _ (by simp), nfWalk _ (by simp), nfWalk _ (by simp), nfWalk _ (by simp), v_Walk_init c, m_Walk_step c X G, m_Walk_fork c X G, m_Walk_pass_line c X G, m_Walk_end_ways c X G⟩
  have FY : FlowT K mg (He.ga K "Flow") (fun i => [(He.ma K (He.ga K "Flow") "__init__"), (He.ma K (He.ga K "Flow") "landing"), (He.ma K (He.ga K "Flow") "way_past"), (He.ma K (He.ga K "Flow") "find_loops")].getD i 0) := ⟨g_Flow c X G, makFlow, clFlow, nfFlow _ (by simp), nfFlow _ (by simp), nfFlow _ (by simp), nfFlow _ (by simp), nfFlow _ (by simp), nfFlow _ (by simp), nfFlow _ (by simp), v_Flow_init c, m_Flow_landing c X G, m_Flow_way_past c X G, m_Flow_find_loops c X G⟩
  have CT : CodeX K mg (He.ga K "Code") (He.ma K (He.ga K "Code") "__init__") := ⟨g_Code c X G, makCode, clCode, nfCode _ (by simp), nfCode _ (by simp), nfCode _ (by simp), nfCode _ (by simp), nfCode _ (by simp), nfCode _ (by simp), v_Code_init c⟩
  have CA : CodA K (He.ga K "Code") := ⟨clCode, nfCode _ (by simp), nfCode _ (by simp), nfCode _ (by simp)⟩
  have TP : PlT K mg (He.ga K "Player") (fun i => [(He.ma K (He.ga K "Player") "__init__"), (He.ma K (He.ga K "Player") "item"), 0, 0, (He.ma K (He.ga K "Player") "run"), (He.ma K (He.ga K "Player") "step")].getD i 0) := ⟨g_Player c X G, makPlayer, clPlayer, nfPlayer, v_Player_init c, m_Player_item c X G, m_Player_run c X G, m_Player_step c X G⟩
  have TY : PyT K mg (He.ga K "Play") (He.ma K (He.ga K "Play") "__init__") := ⟨g_Play c X G, makPlay, clPlay, nfPlay, v_Play_init c⟩
  have TB : TbT K mg (He.ga K "Table") (He.ma K (He.ga K "Table") "__init__") := ⟨g_Table c X G, makTable, clTable, nfTable, v_Table_init c⟩
  have AC : ActT K w mg (He.ga K "ACTIONS") (He.ga K "tell") := ⟨g_ACTIONS c X G, d_ACTIONS c, a_tell c X G, F_tell.kp⟩
  obtain ⟨m_koP, fd_koP, F_koP, b_koP⟩ := f_keeps_orderP c X G
  obtain ⟨m_play, fd_play, F_play⟩ := f_play c X G
  obtain ⟨dsp, vdsp, b_play⟩ := FunD.binds1 (ps := psPy) F_play 4 2 (by simp) rfl (fun T kV doc pm an cdv ct us its l1 l2 => by
    match us, its, l1, l2 with
    | [a, b, c, d], [e, f], _, _ => exact ⟨_, rfl, rfl⟩)
  cases vdsp
  have t_KINDS := t_KINDS c X G
  have t_WIDTHS := t_WIDTHS c X G
  have t_GIVEN := t_GIVEN c X G
  have t_LOOPS := t_LOOPS c X G
  have t_TOP_WORDS := t_TOP_WORDS c X G
  have t_ONCE := t_ONCE c X G
  have t_AHEAD_OF_LOOPS := t_AHEAD_OF_LOOPS c X G
  have t_WITH_START := t_WITH_START c X G
  have t_WITH_GIVEN := t_WITH_GIVEN c X G
  have t_WITH_TOLD := t_WITH_TOLD c X G
  have t_OF_HEAPS := t_OF_HEAPS c X G
  have cF : FreshT K mg (He.ga K "FRESH") := ⟨g_FRESH c X G, w_FRESH c X G⟩
  have cA : AllT K w mg (He.ga K "ALLOWED") := ⟨g_ALLOWED c X G, d_ALLOWED c, fun x hx => ?al⟩
  case al =>
    rcases free_cases hx with rfl | rfl | rfl | rfl
    · exact u_tell c X G
    · exact u_grab c X G
    · exact u_note c X G
    · exact u_quit c X G
  have y_int := y_int c X G
  have y_list := y_list c X G
  have y_len := y_len c X G
  have y_isinstance := y_isinstance c X G
  have y_range := y_range c X G
  have y_str := y_str c X G
  have y_tuple := y_tuple c X G
  have y_any := y_any c X G
  have y_enumerate := y_enumerate c X G
  have y_min := y_min c X G
  have y_bool := y_bool c X G
  have y_all := y_all c X G
  have y_sorted := y_sorted c X G
  have T_is_kind := f_is_kind c X G
  have m_is_kind := T_is_kind.g
  have T_is_width := f_is_width c X G
  have m_is_width := T_is_width.g
  have T_allows := f_allows c X G
  have m_allows := T_allows.g
  have T_parent := f_parent c X G
  have m_parent := T_parent.g
  have T_first_fault := f_first_fault c X G
  have m_first_fault := T_first_fault.g
  have T_is_heap := f_is_heap c X G
  have m_is_heap := T_is_heap.g
  have T_is_integer := f_is_integer c X G
  have m_is_integer := T_is_integer.g
  have T_is_item := f_is_item c X G
  have m_is_item := T_is_item.g
  have T_first_bad_item := f_first_bad_item c X G
  have m_first_bad_item := T_first_bad_item.g
  have T_start_fits := f_start_fits c X G
  have m_start_fits := T_start_fits.g
  have T_given_fits := f_given_fits c X G
  have m_given_fits := T_given_fits.g
  have T_trees_are_heaps := f_trees_are_heaps c X G
  have m_trees_are_heaps := T_trees_are_heaps.g
  have T_is_heap_but_for := f_is_heap_but_for c X G
  have m_is_heap_but_for := T_is_heap_but_for.g
  have T_leans_right := f_leans_right c X G
  have m_leans_right := T_leans_right.g
  have T_list_fits := f_list_fits c X G
  have m_list_fits := T_list_fits.g
  have T_check_items := f_check_items c X G
  have m_check_items := T_check_items.g
  have T_check_start_and_given := f_check_start_and_given c X G
  have m_check_start_and_given := T_check_start_and_given.g
  have T_check_case := f_check_case c X G
  have m_check_case := T_check_case.g
  have T_read_plain_part := f_read_plain_part c X G
  have m_read_plain_part := T_read_plain_part.g
  have T_read_part := f_read_part c X G
  have m_read_part := T_read_part.g
  have T_read_test := f_read_test c X G
  have m_read_test := T_read_test.g
  have T_names_given := f_names_given c X G
  have m_names_given := T_names_given.g
  have T_row_with_test := f_row_with_test c X G
  have m_row_with_test := T_row_with_test.g
  have T_row_of_block_word := f_row_of_block_word c X G
  have m_row_of_block_word := T_row_of_block_word.g
  have T_read_row := f_read_row c X G
  have m_read_row := T_read_row.g
  have T_blocks_behind := f_blocks_behind c X G
  have m_blocks_behind := T_blocks_behind.g
  have T_read_rows := f_read_rows c X G
  have m_read_rows := T_read_rows.g
  have T_tell := f_tell c X G
  have m_tell := T_tell.g
  have T_tree_of := f_tree_of c X G
  have m_tree_of := T_tree_of.g
  have T_owed_items := f_owed_items c X G
  have m_owed_items := T_owed_items.g
  have T_keeps_items := f_keeps_items c X G
  have m_keeps_items := T_keeps_items.g
  have T_keeps_told := f_keeps_told c X G
  have m_keeps_told := T_keeps_told.g
  have T_keeps_places := f_keeps_places c X G
  have m_keeps_places := T_keeps_places.g
  have T_broken_at_end := f_broken_at_end c X G
  have m_broken_at_end := T_broken_at_end.g
  have T_broken_by := f_broken_by c X G
  have m_broken_by := T_broken_by.g
  have T_first_place := f_first_place c X G
  have m_first_place := T_first_place.g
  have T_match_blocks := f_match_blocks c X G
  have m_match_blocks := T_match_blocks.g
  have T_keeps_order := f_keeps_order c X G
  have m_keeps_order := T_keeps_order.g
  have T_way_behind := f_way_behind c X G
  have m_way_behind := T_way_behind.g
  have T_least_break := f_least_break c X G
  have m_least_break := T_least_break.g
  have T_Lbag := f_Lbag c X G
  have m_Lbag := T_Lbag.g
  have T_Ldraw := f_Ldraw c X G
  have m_Ldraw := T_Ldraw.g
  have T_Lparent := f_Lparent c X G
  have m_Lparent := T_Lparent.g
  have T_Lfaults := f_Lfaults c X G
  have m_Lfaults := T_Lfaults.g
  have T_Lunder := f_Lunder c X G
  have m_Lunder := T_Lunder.g
  have T_Lis_list := f_Lis_list c X G
  have m_Lis_list := T_Lis_list.g
  have T_Litems := f_Litems c X G
  have m_Litems := T_Litems.g
  have T_Ltold := f_Ltold c X G
  have m_Ltold := T_Ltold.g
  have hbl : ∀ (s : Shared) (v : Value), BindsTo s fdl ⟨[v], []⟩ [("_law_script", v)] := by
    obtain ⟨⟨oc, od, kV, doc, pm, an, cdv, ct, osl, e, l, c2⟩, kp⟩ := F_law
    subst e
    exact fun s v => .of_eq rfl
  refine ⟨fdl, hbl, fun base _ _ => ?_⟩
  obtain ⟨d1, F1, b1, G1⟩ := ok_is_kind (P := P) (w := w) (base := base) T_is_kind y_isinstance y_str t_KINDS
  obtain ⟨d2, F2, b2, G2⟩ := ok_is_width (P := P) (w := w) (base := base) T_is_width y_isinstance y_int t_WIDTHS
  obtain ⟨d3, F3, b3, G3⟩ := ok_allows (P := P) (w := w) (base := base) T_allows cA
  obtain ⟨d4, F4, b4, G4⟩ := ok_test (P := P) (w := w) (base := base) T_read_test T_read_part T_read_plain_part y_tuple
  obtain ⟨d5, F5, b5, G5⟩ := ok_names (P := P) (w := w) (base := base) T_names_given t_GIVEN y_any
  obtain ⟨d6, F6, b6, G6⟩ := ok_rowTest (P := P) (w := w) (base := base) T_row_with_test F4 b4 m_read_test G4 R
  obtain ⟨d7, F7, b7, G7⟩ := ok_block (P := P) (w := w) (base := base) T_row_of_block_word R
  obtain ⟨d8, F8, b8, G8⟩ := ok_read_row (P := P) (w := w) (base := base) T_read_row F6 b6 m_row_with_test G6 F7 b7 m_row_of_block_word G7 R t_LOOPS t_TOP_WORDS
  obtain ⟨d9, F9, b9, G9⟩ := ok_blocks (P := P) (w := w) (base := base) T_blocks_behind t_LOOPS
  obtain ⟨d10, F10, b10, G10⟩ := ok_read_rows (P := P) (w := w) (base := base) T_read_rows ET R y_enumerate F8 b8 m_read_row G8 F9 b9 m_blocks_behind G9
  obtain ⟨d11, F11, b11, G11⟩ := ok_keeps (P := P) (w := w) (base := base) T_keeps_order t_AHEAD_OF_LOOPS
  obtain ⟨d12, F12, b12, G12⟩ := ok_behind (P := P) (w := w) (base := base) T_way_behind t_ONCE y_tuple
  obtain ⟨d13, F13, b13, G13⟩ := ok_pass (P := P) (w := w) (base := base) W y_list F3 b3 m_allows G3 F11 b11 (a_koL c X G) G11 F12 b12 m_way_behind G12
  obtain ⟨d14, F14, b14, G14⟩ := ok_fork (P := P) (w := w) (base := base) W R y_list F5 b5 m_names_given G5
  obtain ⟨d15, F15, b15, G15⟩ := ok_step (P := P) (w := w) (base := base) W R t_LOOPS F14 b14 G14 F13 b13 G13
  obtain ⟨d16, F16, b16, G16⟩ := ok_least (P := P) (w := w) (base := base) T_least_break W R cF y_list y_enumerate y_min F15 b15 G15
  obtain ⟨dM, FM, bM, GM⟩ := ok_mb7 (P := P) (w := w) (base := base) T_match_blocks R t_LOOPS y_enumerate
  obtain ⟨dY, FYi, bYi, GYi⟩ := ok_Flow7 (P := P) (w := w) (base := base) FY R y_range y_len y_tuple FM bM m_match_blocks GM
  obtain ⟨d17, F17, b17, G17⟩ := ok_Code7 (P := P) (w := w) (base := base) FY bYi CT ET y_len y_tuple GYi (i_MOST_LINES c X G).choose_spec ⟨_, rfl⟩ F1 b1 m_is_kind G1 F2 b2 m_is_width G2 F10 b10 m_read_rows G10 F16 b16 m_least_break G16
  obtain ⟨e1, H1, c1, J1⟩ := ok_parent (P := P) (w := w) (base := base) T_parent
  obtain ⟨e2, H2, c2, J2⟩ := ok_ff (P := P) (w := w) (base := base) T_first_fault y_range y_len H1 c1 m_parent J1
  obtain ⟨e3, H3, c3, J3⟩ := ok_heap (P := P) (w := w) (base := base) T_is_heap H2 c2 m_first_fault J2
  obtain ⟨e4, H4, c4, J4⟩ := ok_int (P := P) (w := w) (base := base) T_is_integer y_isinstance y_int y_bool
  obtain ⟨e5, H5, c5, J5⟩ := ok_item (P := P) (w := w) (base := base) T_is_item y_isinstance y_tuple y_len H4 c4 m_is_integer J4
  obtain ⟨e6, H6, c6, J6⟩ := ok_fb (P := P) (w := w) (base := base) T_first_bad_item y_enumerate H5 c5 m_is_item J5
  obtain ⟨e7, H7, c7, J7⟩ := ok_sf (P := P) (w := w) (base := base) T_start_fits t_WITH_START H4 c4 m_is_integer J4
  obtain ⟨e8, H8, c8, J8⟩ := ok_gf (P := P) (w := w) (base := base) T_given_fits t_WITH_GIVEN H5 c5 m_is_item J5
  obtain ⟨e9, H9, c9, J9⟩ := ok_tr (P := P) (w := w) (base := base) T_trees_are_heaps y_range y_len H1 c1 m_parent J1
  obtain ⟨e10, H10, c10, J10⟩ := ok_but (P := P) (w := w) (base := base) T_is_heap_but_for y_range y_len H1 c1 m_parent J1
  obtain ⟨e11, H11, c11, J11⟩ := ok_lean (P := P) (w := w) (base := base) T_leans_right y_all H1 c1 m_parent J1
  obtain ⟨e12, H12, c12, J12⟩ := ok_fit (P := P) (w := w) (base := base) T_list_fits y_len t_OF_HEAPS H3 c3 m_is_heap J3 H9 c9 m_trees_are_heaps J9 H10 c10 m_is_heap_but_for J10 H11 c11 m_leans_right J11
  obtain ⟨e40, H40, c40, J40⟩ := ok_ci (P := P) (w := w) (base := base) T_check_items EC H6 c6 m_first_bad_item J6
  obtain ⟨e41, H41, c41, J41⟩ := ok_cs (P := P) (w := w) (base := base) T_check_start_and_given EC y_len H7 c7 m_start_fits J7 H8 c8 m_given_fits J8
  obtain ⟨e13, H13, c13, J13⟩ := ok_check (P := P) (w := w) (base := base) T_check_case CA EC H40 c40 m_check_items J40 H41 c41 m_check_start_and_given J41 H12 c12 m_list_fits J12
  obtain ⟨e14, H14, c14, J14⟩ := ok_lpar (P := P) (w := w) (base := base) T_Lparent
  obtain ⟨e15, H15, c15, J15⟩ := ok_lfts (P := P) (w := w) (base := base) T_Lfaults y_range y_len H14 c14 m_Lparent J14
  obtain ⟨e16, H16, c16, J16⟩ := ok_lund (P := P) (w := w) (base := base) T_Lunder H14 c14 m_Lparent J14
  obtain ⟨e17, H17, c17, J17⟩ := ok_lis (P := P) (w := w) (base := base) T_Lis_list y_range H15 c15 m_Lfaults J15 H16 c16 m_Lunder J16 H14 c14 m_Lparent J14
  obtain ⟨e18, H18, c18, J18⟩ := ok_items (P := P) (w := w) (base := base) T_Litems B y_range F_Ldraw b_Ldraw m_Ldraw H14 c14 m_Lparent J14
  obtain ⟨e19, H19, c19, J19⟩ := ok_pl (P := P) (w := w) (base := base) TP CA y_list
  obtain ⟨e20, H20, c20, J20⟩ := ok_itm (P := P) (w := w) (base := base) TP y_len
  obtain ⟨e21, H21, c21, J21⟩ := ok_tell (P := P) (w := w) (base := base) TP ⟨_, F_tell, b_tell⟩ c20 J20
  obtain ⟨e22, H22, c22, J22⟩ := ok_step7 (P := P) (w := w) (base := base) TP FY R t_LOOPS AC c21 J21
  obtain ⟨e23, H23, c23, J23⟩ := ok_run7 (P := P) (w := w) (base := base) TP FY c22 J22
  obtain ⟨e24, H24, c24, J24⟩ := ok_to (P := P) (w := w) (base := base) T_tree_of y_range H1 c1 m_parent J1
  obtain ⟨e25, H25, c25, J25⟩ := ok_oi (P := P) (w := w) (base := base) T_owed_items y_list y_sorted t_WITH_TOLD
  obtain ⟨e26, H26, c26, J26⟩ := ok_ki (P := P) (w := w) (base := base) T_keeps_items y_len y_all y_sorted y_enumerate H25 c25 m_owed_items J25 H24 c24 m_tree_of J24
  obtain ⟨e27, H27, c27, J27⟩ := ok_ko (P := P) (w := w) (base := base) ⟨_, F_koP, b_koP⟩ y_len y_all H3 c3 m_is_heap J3 H24 c24 m_tree_of J24 H1 c1 m_parent J1
  obtain ⟨e28, H28, c28, J28⟩ := ok_kt (P := P) (w := w) (base := base) T_keeps_told y_min t_WITH_TOLD
  obtain ⟨e29, H29, c29, J29⟩ := ok_kp (P := P) (w := w) (base := base) T_keeps_places y_all y_enumerate
  obtain ⟨e30, H30, c30, J30⟩ := ok_be (P := P) (w := w) (base := base) T_broken_at_end CA TP y_tuple H26 c26 m_keeps_items J26 H27 c27 m_koP J27 H28 c28 m_keeps_told J28 H29 c29 m_keeps_places J29
  obtain ⟨e31, H31, c31, J31⟩ := ok_bb (P := P) (w := w) (base := base) T_broken_by TP H30 c30 m_broken_at_end J30
  obtain ⟨e32, H32, c32, J32⟩ := ok_fp (P := P) (w := w) (base := base) T_first_place t_WITH_START
  obtain ⟨e33, H33, c33, J33⟩ := ok_pi (P := P) (w := w) (base := base) TY TP y_tuple y_sorted
  obtain ⟨e42, H42, c42, J42⟩ := ok_tb (P := P) (w := w) (base := base) TB
  have J34 := ok_play (P := P) (w := w) (base := base) (EC := (fun i => [(He.ga K "BadKind"), (He.ga K "BadWidth"), (He.ga K "BadLine"), (He.ga K "Refused"), (He.ga K "TooMany"), (He.ga K "BadItem"), (He.ga K "BadCase")].getD i 0)) F_play CA TP TY TB y_len y_enumerate H13 c13 m_check_case J13 H32 c32 m_first_place J32 H31 c31 m_broken_by J31 c19 J19 c23 J23 c42 J42 c33 J33
  obtain ⟨e35, H35, c35, J35⟩ := ok_told7 (P := P) (w := w) (base := base) T_Ltold EC (p6 c X G) m_play F_play.kp b_play J34
  exact ok_law7 (P := P) (w := w) (base := base) F_law B y_range y_list CT F_Lbag b_Lbag m_Lbag F_Ldraw b_Ldraw m_Ldraw H18 c18 m_Litems J18 H17 c17 m_Lis_list J17 H35 c35 m_Ltold J35 b17 G17
end H2
set_option maxHeartbeats 0
/-! ### the head -/
namespace HeadN
open PySem PySem.W PySem.Calls PyProof.Rows
abbrev R : OpenRow := OpenLaw.row PySem.Challenge.rw_heapcode_k07_lists_of_the_kinds
abbrev qv : Program := view R.prog [122]
def names : List PySem.Str := (["_wall", "__name__", "HeapError", "BadKind", "BadWidth", "BadLine", "Refused", "BadItem"] : List PySem.Str) ++ ((["BadCase", "TooMany", "parent", "child", "first_fault", "is_heap", "KINDS", "WIDTHS"] : List PySem.Str) ++ ((["WITH_START", "WITH_GIVEN", "WITH_TOLD", "OF_HEAPS", "ALLOWED", "is_kind", "is_width", "allows"] : List PySem.Str) ++ ((["is_integer", "is_item", "first_bad_item", "start_fits", "given_fits", "trees_are_heaps", "is_heap_but_for", "leans_right"] : List PySem.Str) ++ ((["list_fits", "check_items", "check_start_and_given", "check_case", "NUMBERS", "SIGNS", "GIVEN", "SIDES"] : List PySem.Str) ++ ((["read_number", "read_side", "read_comparison", "read_has", "read_plain_part", "read_part", "read_test", "names_given"] : List PySem.Str) ++ ((["LOOPS", "TOP_WORDS", "LOOP_WORDS", "Row", "row_with_test", "row_of_pick", "row_of_block_word", "read_row"] : List PySem.Str) ++ ((["blocks_behind", "read_rows", "SHIFTS", "Player", "tell", "grab", "lay", "longer"] : List PySem.Str) ++ ((["shorter", "trade", "to_start", "note", "note_mate", "go", "pull", "swap"] : List PySem.Str) ++ ((["pick", "ACTIONS", "tree_of", "owed_items", "keeps_items", "keeps_order", "keeps_order_promises", "keeps_told"] : List PySem.Str) ++ ((["keeps_places", "broken_at_end", "broken_by", "Table", "Play", "first_place", "play", "match_blocks"] : List PySem.Str) ++ ((["Flow", "ONCE", "AHEAD_OF_LOOPS", "FRESH", "keeps_order_limits", "way_behind", "is_turn", "may_begin"] : List PySem.Str) ++ ((["Walk", "least_break", "MOST_LINES", "Code", "_law_bag", "_law_draw", "_law_parent", "_law_faults"] : List PySem.Str) ++ ((["_law_under", "_law_is_list", "_law_items", "_law_told"] : List PySem.Str))))))))))))))
theorem run_a_false (w : World) : Hf.RunA R qv 12000 names (w.withFollow "special-get-raises" false) := by
  intro os
  kernel_rfl
theorem run_a_true (w : World) : Hf.RunA R qv 12000 names (w.withFollow "special-get-raises" true) := by
  intro os
  kernel_rfl
theorem run_a (w : World) : Hf.RunA R qv 12000 names w := byRow2 "special-get-raises" (P := fun w => Hf.RunA R qv 12000 names w) run_a_false run_a_true w
theorem run_pa_false (w : World) : Hf.RunB R 12000 H2.pa (w.withFollow "special-get-raises" false) := by
  intro os
  kernel_rfl
theorem run_pa_true (w : World) : Hf.RunB R 12000 H2.pa (w.withFollow "special-get-raises" true) := by
  intro os
  kernel_rfl
theorem run_pa (w : World) : Hf.RunB R 12000 H2.pa w := byRow2 "special-get-raises" (P := fun w => Hf.RunB R 12000 H2.pa w) run_pa_false run_pa_true w
theorem run_pb0_false (w : World) : Hf.RunB R 12000 H2.pb0 (w.withFollow "special-get-raises" false) := by
  intro os
  kernel_rfl
theorem run_pb0_true (w : World) : Hf.RunB R 12000 H2.pb0 (w.withFollow "special-get-raises" true) := by
  intro os
  kernel_rfl
theorem run_pb0 (w : World) : Hf.RunB R 12000 H2.pb0 w := byRow2 "special-get-raises" (P := fun w => Hf.RunB R 12000 H2.pb0 w) run_pb0_false run_pb0_true w
theorem run (w : World) : HandSHeadRun.RunEq R qv (Hf.hookP H2.parts) (Hf.obL H2.parts) 12000 names w := Hf.run_all (run_a w) fun p hp => by
  simp only [H2.parts, List.mem_cons, List.not_mem_nil, or_false] at hp
  rcases hp with rfl | rfl
  · exact run_pa w
  · exact run_pb0 w
end HeadN
open PySem PySem.W PySem.Calls PyProof.Rows
set_option maxRecDepth 100000 in
set_option maxHeartbeats 0 in
theorem PySem.Challenge.cw_heapcode_k07_lists_of_the_kinds_holds : PySem.Challenge.rw_heapcode_k07_lists_of_the_kinds.Holds := by
  w_on; o_law
  refine HandSHeadRun.head_any (r := OpenLaw.row PySem.Challenge.rw_heapcode_k07_lists_of_the_kinds) (q := HeadN.qv) (H := Hf.hookP H2.parts) (ob := Hf.obL H2.parts) (M := 12000) (loose := HeadN.names) (d := HandSHeadRun.topDef (OpenLaw.row PySem.Challenge.rw_heapcode_k07_lists_of_the_kinds).prog 122) (kwd := []) (fun s => Hf.obL_eq H2.parts s)
    (by kernel_rfl) (fun s => by kernel_rfl) HeadN.run (by kernel_rfl) (by kernel_rfl) (by kernel_rfl) (by rfl) (by first | assumption | decide +kernel) (by decide +kernel) ⟨rfl, rfl, rfl, rfl, rfl, by decide +kernel⟩ ?hw ?hc
  case hw => w_witness2
  case hc =>
    refine L2.walk_ofE (l := PySem.Challenge.rw_heapcode_k07_lists_of_the_kinds) (n := 63) (k := 9) (x := "_law_script") (CX := L2.CX0) rfl (by decide) (by kernel_rfl) ⟨rfl, by decide, by decide⟩ ?F (fun _ _ _ _ z => z)
    intro w mg fa h Y G hmg0
    obtain ⟨K, KX, c⟩ := Y
    have hmg : mg ("law" : PySem.Str) = some (.ref fa) := by
      have e : (HandSHeadRun.topDef (OpenLaw.row PySem.Challenge.rw_heapcode_k07_lists_of_the_kinds).prog 122).name = ("law" : PySem.Str) := by kernel_rfl
      rw [← e]
      exact hmg0
    obtain ⟨fd, hb, hF⟩ := H2.facts (P := (PySem.Challenge.rw_heapcode_k07_lists_of_the_kinds).prog) (w := w) KX G hmg (H2.says_of c)
    exact ⟨K, fd, H2.spLaw7 K, KX, hb, fun H a ns hl _ hS => ⟨a, ns, rfl, hS, hl, fun _ => rfl⟩, hF⟩
