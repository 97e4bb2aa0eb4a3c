import PyProof.Rows.All
import Wide.All
import OpenK.AllK
import Wide.FinOn
import HandS.ForMost
import HandS.ForExc
import HandS.ExcInit
import HandS.ExcField
import HandS.ClsMeth
import HandS.TryMany
import HandS.ExcIs
import HandS.IsInst
import HandS.Wide
import HandS.OwnEq
import HandS.Flow
import HandS.NoneIn
import HandS.Evl
import HandS.Style
import HandS.SortKw
import HandS.MakeKw
import HandS.Star
import HandS.Deep
import HandS.TupAny
import HandS.TupLen
import KE.GoesEnumKw
import KE.DataMinMax
import HandS.DictComp
import KE.KDictKeyed
import KE.KDictDisplayH
import KE.KDictCopyH
import HandS.HotCalls
import KE.DatumOrd
import HandS.Codes
import HandS.Conv
import HandS.Walk
import HandS.DictComp
import HandS.CallLocal
import HandS.SetFor
import HandS.Deep
import KE.DataFind
import HandS.Sort
import HandS.More
import HandS.Comp
import HandS.Head0
import HandS.Head1
import HandS.Head2
import HandS.HeadEnd
import HandS.HeadHook1
import HandS.HeadHook2
import HandS.HeadHook3
import HandS.HeadHook4
import HandS.Lambda
import HandS.EndTab
import HandS.HeadWalk
import HandS.CallSlots
import HandS.Iter
import PySem.Challenge.RW_heapcode_k36_places_items_and_heaps
set_option Elab.async false
set_option linter.all false
set_option maxRecDepth 100000
set_option maxHeartbeats 4000000
/-! ## Errors over an own base class: Base.__init__(self, 'text') and fields -/
namespace Hx
open PySem PySem.Spec PyProof.Rows L2
section
variable {X : Cx} {e : Expr} {es : List Expr} {ta : TA} {p1 p2 pos : Pos}
/-- Base.__init__(self, ..), Base an own class at D that leaves __init__ to ValueError -/
theorem pe_binit {x : Str} {D : Addr} {pl : Sem Bool} (hD : X.mg x = some (.ref D)) (rd : ClX.CRead X.K D (.type "type"))
    (fc : PySem.W.findCls X.K (.ref D) (.type "type") "__init__" = some (.val (.builtin "ValueError.__init__"))) (ha : PA X (e :: es) ta) (hg : Gl X x := by rfl)
    (hdb : (x == ("__debug__" : Str)) = false := by decide)
    (hc : eval (.Call (.Attribute (.Name x p1) "__init__" p2) (e :: es) [] pos) X.env = (do
      let vv ← eval (.Name x p1) X.env
      standAt p2.atName
      let (g, hd) ← holding [vv] (getMethod vv "__init__" pl)
      callWith pos g hd (backTo pos (starEach (e :: es) X.env)) (backToKw pos (keywordEach [] X.env))) := by rfl)
    (hs : starEach (e :: es) X.env = (false, eval e X.env) :: starEach es X.env := by rfl) (hp : (backTo pos (starEach es X.env)).any (·.1) = false := by rfl) :
    PE X (.Call (.Attribute (.Name x p1) "__init__" p2) (e :: es) [] pos) (tVeI X.K ta) := by
  constructor
  intro pins s σ H Q I0 hq
  refine PySem.W.methodCall_KW (ld_glob I0 hg hD ?_ hdb) hc
  refine PySem.W.method_cls I0.kIn rd.ga ?_
  refine PySem.W.cls_value I0.kIn rd.rd fc rfl ?_
  refine PyProof.Rows.callWith_method1 (thn (ha.run pos pins _ σ H _ (I0.tok _) hq) ?_) hs hp
  rintro us s2 ⟨vs, H2, I2, rv, a, C, ws, rfl, hl, T, ea, q⟩
  cases rv with
  | @cons _ u0 _ ur ra rw' =>
    cases (show u0 = Value.ref a from ra)
    have hz : ur.length ≤ sizeLine := by rw [← Paired.length rw', sizeLine_eq]; omega
    exact oinit_ok T I2 ea hz fun s3 J => ⟨V.non, H2, J, rfl, q⟩
end
end Hx
/-! ## try with any number of clauses, named or not -/
namespace Hx
open PySem PySem.Spec PyProof.Rows L2
/-- a clause: the class, the slot of its name if it has one, the suite's reading -/
structure Cla where
  c : Value
  o : Option Nat
  ts : Addr → Value → Option Addr → TS
/-- behind the suite the name is gone -/
def endsOf (o : Option Nat) (D : Ends) : Ends := match o with
  | none => D
  | some i => { nx := fun ρ G => D.nx (ρ.set i none) G, rt := D.rt, bk := fun ρ G => D.bk (ρ.set i none) G, ct := fun ρ G => D.ct (ρ.set i none) G }
def named (o : Option Nat) (σ : L2.St) (a : Addr) : L2.St := match o with
  | none => σ
  | some i => σ.set i (some (.ref a))
def wAny (K : PySem.W.Frag) (Wout : WX) (D : Ends) : List Cla → WX
  | [] => Wout
  | k :: r => fun cls d σ H => ∃ b, PySem.W.exmOne K cls k.c = some b ∧ (b = true → ∀ a, H a = none → k.ts a cls d (endsOf k.o D) (named k.o σ a) H) ∧ (b = false → wAny K Wout D r cls d σ H)
inductive ClaOk (X : Cx) : List ExceptHandler → List Cla → Prop
  | nil : ClaOk X [] []
  | bare {x : Str} {c : Value} {ts : Addr → Value → Option Addr → TS} {s₀ : Stmt} {su : List Stmt} {np q : Pos} {hs : List ExceptHandler} {l : List Cla} (hc : Names X x c)
      (hsu : ∀ (a : Addr) (oe : Obj) (cls : Value) (d : Option Addr) (pn : List (Addr × Obj)), Zc cls d oe → (∃ vs, oe.data = .fields vs) → PSs (X.suite a ((a, oe) :: pn)) (s₀ :: su) (ts a cls d)) (r : ClaOk X hs l) :
      ClaOk X (.ExceptHandler (some (.Name x np)) none (s₀ :: su) q :: hs) (⟨c, none, ts⟩ :: l)
  | as {x n : Str} {i : Nat} {c : Value} {ts : Addr → Value → Option Addr → TS} {s₀ : Stmt} {su : List Stmt} {np q : Pos} {hs : List ExceptHandler} {l : List Cla} (hN : X.N.Nodup) (hi : X.N[i]? = some n) (hln : X.env.kindOf n = some .local) (hc : Names X x c)
      (hsu : ∀ (a : Addr) (oe : Obj) (cls : Value) (d : Option Addr) (pn : List (Addr × Obj)), Zc cls d oe → (∃ vs, oe.data = .fields vs) → PSs (X.suite a ((a, oe) :: pn)) (s₀ :: su) (ts a cls d)) (r : ClaOk X hs l) :
      ClaOk X (.ExceptHandler (some (.Name x np)) (some n) (s₀ :: su) q :: hs) (⟨c, some i, ts⟩ :: l)
section
variable {X : Cx} {body : List Stmt} {h₀ : ExceptHandler} {hds : List ExceptHandler} {l : List Cla} {pos : Pos} {tb : WX → TS} {Wout : WX}
theorem ps_try_any (hstk : X.stack = X.env :: X.outer) (hfrm : X.env.frame = some X.env.locals) (tkO : Takes X Wout)
    (hbody : ∀ (W : WX) (pn : List (Addr × Obj)) (xe : Value → Shared → Prop), Takes (X.tr pn xe) W → PassesOwn (model X.prog X.w) X.A X.env xe → PSs (X.tr pn xe) body (tb W))
    (hcl : ClaOk X (h₀ :: hds) l) : PS X (.Try body (h₀ :: hds) [] [] pos) (fun D σ H => tb (wAny X.K Wout D l) D σ H) := by
  constructor
  intro pins s σ H D I0 hrd
  have ok := I0.ok
  have hA : X.A.frames = some (X.env :: X.outer) := by rw [ok.frames, hstk]
  refine wpAny_Try_except ?_
  refine wpAny_mono ((hbody (wAny X.K Wout D l) (X.pn ++ pins) (fun e t1 => wpAny (model X.prog X.w) X.A (noteFrame e X.env) (fun _ t2 =>
    wpAny (model X.prog X.w) X.A (setFlight e none) (fun _ t3 =>
      wpAny (model X.prog X.w) X.A (handleBy e X.env (h₀ :: hds)) (SP X pins D) X.xe t3) X.xe t2) X.xe t1) ?raised PassesOwn.looking).run [] s σ H D (I0.toTry _) hrd) ?through (fun _ _ z => z)
  case through =>
    intro f t hsp
    cases f with
    | next => obtain ⟨ρ, G, J, q⟩ := hsp; exact wpAny_execs_nil ⟨ρ, G, J.ofTry ok, q⟩
    | brk => obtain ⟨ρ, G, J, q⟩ := hsp; exact ⟨ρ, G, J.ofTry ok, q⟩
    | cont => obtain ⟨ρ, G, J, q⟩ := hsp; exact ⟨ρ, G, J.ofTry ok, q⟩
    | ret u => obtain ⟨v, ρ, G, J, r, q⟩ := hsp; exact ⟨v, ρ, G, J.ofTry ok, r, q⟩
  case raised =>
    rintro u t ⟨a, B, sI, pins', ρ, G, cls, d, rfl, JT, nb, up, sky0, na, os, ag, hw⟩
    have J : Inv X pins ρ G sI := JT.ofTry ok
    have sky : Sky B (X.env :: X.outer) a (Zc cls d) X.env.locals t.heap := by rw [← hstk]; exact sky0
    show wpAny (model X.prog X.w) X.A (noteFrame (.ref a) X.env) _ _ _
    refine Sky.land Zc.steady hA hfrm sky fun g3 fl up3 => ?_
    have J3 : Inv X pins ρ G { t with heap := g3 } := J.landed nb fl.1 (up.trans up3) os ag
    obtain ⟨ob, vz, hob, hz, hdz⟩ := fl.there
    have nIn : ∀ L ∈ frs (X.env :: X.outer), a ≠ L := by
      intro L hL e
      subst e
      obtain ⟨_, o2, e2, nf⟩ := fl.2.2.1.mem hL
      rw [hob] at e2
      cases e2
      exact nf _ hdz
    have nL : a ≠ X.env.locals := nIn _ (List.mem_filterMap.mpr ⟨X.env, List.mem_cons_self, hfrm⟩)
    have nF : a ∉ X.fs := fun hm => by
      obtain ⟨e, he, q⟩ := List.mem_filterMap.mp hm
      exact nIn a (List.mem_filterMap.mpr ⟨e, List.mem_cons_of_mem _ he, q⟩) rfl
    have S3 := J3.suite hob hdz na nL nF
    have LT : PySem.W.Looks (model X.prog X.w) g3 (typeOf (.ref a)) cls := fun A Q E s k q => wpAny_typeOf_ref (k _ _ hob) (by rw [hz.1]; exact q)
    -- the class that a clause names is found
    have find : ∀ {x : Str} {c : Value} {np : Pos}, Names X x c → ∀ {Q E : Value → Shared → Prop}, Q c { t with heap := g3 } → wpAny (model X.prog X.w) (X.A.mark (some (.ref a))) (eval (.Name x np) X.env) Q E { t with heap := g3 } := by
      rintro x c np ⟨hg, hdb, hm | ⟨hm, hv, hnn⟩⟩ Q E q
      · exact ld_glob (X := X.suite a ((a, ob) :: (X.pn ++ pins))) S3 hg hm q hdb
      · exact ld_blt (X := X.suite a ((a, ob) :: (X.pn ++ pins))) S3 hg hm hv q hnn hdb
    have run : ∀ {hs : List ExceptHandler} {m : List Cla}, ClaOk X hs m → wAny X.K Wout D m cls d ρ G →
        wpAny (model X.prog X.w) X.A (handleBy (.ref a) X.env hs) (SP X pins D) X.xe { t with heap := g3 } := by
      intro hs m hk
      induction hk with
      | nil =>
        intro hw
        refine wpAny_handleBy_nil ?_
        obtain ⟨_, _, _, oe, vs, T, oT, ts', he, _, hd', h1, _⟩ := id fl
        unfold PySem.passOn
        refine wpAny_bind (wpAny_field he hd' h1 ?_)
        rw [if_neg (show ¬ ((Value.ref T == Value.none) = true) from by simp)]
        have off : wpAny (model X.prog X.w) X.A (setFlight (.ref a) X.env.frame) (fun _ t4 => wpAny (model X.prog X.w) X.A (throw (.ref a) : Sem Flow) (SP X pins D) X.xe t4) X.xe { t with heap := g3 } := by
          rw [hfrm]
          refine HandSPX.setFlight_upZ fl fun g4 held up4 => wpAny_throw (tkO _ _ ?_)
          exact ⟨a, B, sI, pins, ρ, G, cls, d, rfl, J, nb, (up.trans up3).trans up4, .inr (.inr (by rw [hstk]; exact held)), na, os, ag, hw⟩
        first
          | exact wpAny_bind (wpAny_pure (wpAny_bind off))
          | exact wpAny_bind off
      | bare hc hsu r ih =>
        rintro ⟨b, hb1, hyes, hno⟩
        refine wpAny_handleBy_cons (codeAny_handlers_test ?_) (by intro q; cases q)
        refine find hc ((PySem.W.exm_one (M := model X.prog X.w) J3.kIn LT hb1).here ?_)
        cases b with
        | false => exact ih (hno rfl)
        | true =>
          refine codeAny_handlers_suite (HandSPX.lands_againZ fl fun g4 fl4 up4 => ?_)
          have J4 : Inv X pins ρ G { t with heap := g4 } := J.landed nb fl4.1 ((up.trans up3).trans up4) os ag
          obtain ⟨o4, v4, he4, hz4, hd4⟩ := fl4.there
          refine wpAny_mono ((hsu a o4 cls d (X.pn ++ pins) hz4 ⟨_, hd4⟩).run [] _ _ G _ (J4.suite he4 hd4 na nL nF) (hyes rfl a na)) (fun f t6 hsp => ?_) (fun _ _ z => False.elim z)
          cases f with
          | next => obtain ⟨ρ6, G6, S6, q6⟩ := hsp; exact ⟨ρ6, G6, S6.unsuite ok, q6⟩
          | brk => obtain ⟨ρ6, G6, S6, q6⟩ := hsp; exact ⟨ρ6, G6, S6.unsuite ok, q6⟩
          | cont => obtain ⟨ρ6, G6, S6, q6⟩ := hsp; exact ⟨ρ6, G6, S6.unsuite ok, q6⟩
          | ret u => obtain ⟨v6, ρ6, G6, S6, r6, q6⟩ := hsp; exact ⟨v6, ρ6, G6, S6.unsuite ok, r6, q6⟩
      | @as x n i c ts s₀ su np q hs l hN hi hln hc hsu r ih =>
        rintro ⟨b, hb1, hyes, hno⟩
        refine wpAny_handleBy_cons (codeAny_handlers_test ?_) (by intro q; cases q)
        refine find hc ((PySem.W.exm_one (M := model X.prog X.w) J3.kIn LT hb1).here ?_)
        cases b with
        | false => exact ih (hno rfl)
        | true =>
          refine codeAny_handlers_suite_as (HandSPX.lands_againZ fl fun g4 fl4 up4 => ?_)
          have J4 : Inv X pins ρ G { t with heap := g4 } := J.landed nb fl4.1 ((up.trans up3).trans up4) os ag
          obtain ⟨o4, v4, he4, hz4, hd4⟩ := fl4.there
          refine store_ok (X := X.suite a ((a, o4) :: (X.pn ++ pins))) (v := .ref a) (J4.suite he4 hd4 na nL nF) hN hi (.inl hln) rfl (fun t5 S5 => ?_) (.inr hln)
          refine wpAny_mono ((hsu a o4 cls d (X.pn ++ pins) hz4 ⟨_, hd4⟩).run [] t5 _ G _ S5 (hyes rfl a na)) (fun f t6 hsp => ?_) (fun _ _ z => False.elim z)
          cases f with
          | next => obtain ⟨ρ6, G6, S6, q6⟩ := hsp; exact gone_ok (S6.unsuite ok) hN hi hln fun t7 J7 => ⟨_, _, J7, q6⟩
          | brk => obtain ⟨ρ6, G6, S6, q6⟩ := hsp; exact gone_ok (S6.unsuite ok) hN hi hln fun t7 J7 => ⟨_, _, J7, q6⟩
          | cont => obtain ⟨ρ6, G6, S6, q6⟩ := hsp; exact gone_ok (S6.unsuite ok) hN hi hln fun t7 J7 => ⟨_, _, J7, q6⟩
          | ret u => obtain ⟨v6, ρ6, G6, S6, r6, q6⟩ := hsp; exact gone_ok (S6.unsuite ok) hN hi hln fun t7 J7 => ⟨_, _, _, J7, r6, q6⟩
    exact run hcl hw
end
end Hx
/-! ## isinstance of an error that has its own dict -/
namespace Hx
open PySem PySem.Spec PySem.Calls PyProof.Rows PySem.W
section
variable {prog : Program} {w : World} {A : Around} {E : Value → Shared → Prop} {s : Shared} {K : Frag} {x D : Addr} {ox : Obj} {od : Option Obj}
theorem bind_found {C : Addr} {nm : Str} {a g : Value} (hc : (clsIn K C).isSome = true) (ha : findIn K (.ref C) nm = some (some a)) (hg : specialIn K a "__get__" = some (some g)) (ht : takesIn K a = some true) :
    findObj K C od nm = some (.bind g a) := by
  obtain ⟨cd, hcd⟩ := Option.isSome_iff_exists.mp hc
  show (clsIn K C).bind _ = _
  rw [hcd, Option.bind_some, ha]
  simp [hg, ht]
theorem class_of_err {Q : Option Value → Shared → Prop} (T : L2.ExcC K D) (X : K.In s.heap) (I : InstAt s.heap x ox D od) (h : Q (some (.ref D)) { s with toks := s.toks + 1 }) :
    wpAny (model prog w) A (getAttr? (.ref x) "__class__") Q E s := by
  have hf : findObj K D od "__class__" = some (.bind (.builtin "getset_descriptor.__get__") (.builtin "object.__class__")) :=
    bind_found (by obtain ⟨cd, hc, _⟩ := any_some T.hd; rw [hc]; rfl) T.ha T.hn T.ht
  obtain ⟨hp, gs, dr, tk, os⟩ := s
  have K0 := I.type (M := model prog w)
  have K1 := looks_findIn (M := model prog w) X T.hg
  have K2 := looks_findIn (M := model prog w) X T.hk
  have K3 := looks_find (M := model prog w) X I hf
  have isB : Looks (model prog w) hp (isInstance (.ref x) (.type "BaseException")) true := K0.andThen (looks_subIn X T.hs)
  have ne2 : (Value.builtin "BaseException.__getattribute__" == Value.builtin "object.__getattribute__") = false := by decide +kernel
  have ne1 : (onTheHeap (Value.ref D) && Value.builtin "BaseException.__getattribute__" == Value.builtin "object.__getattribute__") = false := by rw [ne2]; rfl
  have ne0 : (false && onTheHeap (Value.builtin "BaseException.__getattribute__")) = false := rfl
  unfold getAttr? getAttrBy? getAttrBy
  refine wpAny_bind (wpAny_mkText (wpAny_bind (wpAny_attempt (wpAny_holding (wpAny_bind (K0.at (wpAny_bind (K1.at ?_))))))))
  show wpAny _ _ (if (onTheHeap (Value.ref D) && Value.builtin "BaseException.__getattribute__" == Value.builtin "object.__getattribute__") = true then _ else _) _ _ _
  rw [ne1, if_neg Bool.false_ne_true]
  unfold getAttrByItsOwn hookBefore
  refine wpAny_bind ?_
  rw [if_pos (show onTheHeap (Value.ref D) = true from rfl)]
  refine K2.at (wpAny_bind (wpAny_attempt (wpAny_holding ?_)))
  unfold callGetattribute
  rw [ne0, if_neg Bool.false_ne_true]
  unfold boundAndCalled
  rw [F.excAttr_ValueError.ga.bind (.ref x)]
  refine wpAny_bind (wpAny_pure ?_)
  show wpAny _ _ (call (.builtin "BaseException.__getattribute__") [.ref x, .str "__class__" tk]) _ _ _
  refine wpAny_call (codeAny_call_builtin F.excAttr_ValueError.ga.plain F.entry_bexc_ga (@check_slot (model prog w) _ _ ⟨hp, gs, dr, tk + 1, os⟩ "BaseException.__getattribute__" "BaseException" "__getattribute__" (.ref x) [.str "__class__" tk] [] _ (by decide +kernel) (by decide +kernel) isB (F.args_bexc_ga (.ref x) (.str "__class__" tk)) ?_))
  unfold Builtin.«object.__getattribute__»
  refine wpAny_bind (wpAny_of_eq (a := ((Value.ref x : Value), [Value.str "__class__" tk])) (by first | rfl | (simp only [slotArgs]; rfl)) (wpAny_bind (wpAny_pure (wpAny_bind (K0.at (wpAny_bind (K3.at ?_)))))))
  show wpAny _ _ (holding [Value.builtin "object.__class__"] (call (.builtin "getset_descriptor.__get__") [.builtin "object.__class__", .ref x, .ref D]) >>= ret) _ _ _
  refine wpAny_bind (wpAny_holding (wpAny_call (class_get (s := ⟨hp, gs, dr, tk + 1, os⟩) (ox := ox) (od := od) X I T.hm (wpAny_pure ?_))))
  show wpAny _ _ (handedOut (.ref D)) _ _ _
  rw [handedOut_of (v := .ref D) rfl]
  first
    | exact wpAny_pure (wpAny_pure h)
    | exact wpAny_pure h
    | exact wpAny_pure (wpAny_bind (wpAny_pure (wpAny_pure h)))
theorem kit_err (T : L2.ExcC K D) : KitX K (.ref x) (.ref D) (fun h => ∃ ox od, InstAt h x ox D od) where
  ty := fun _ _ _ ⟨_, _, I⟩ => I.type
  it := by
    intro M h X _ A' Q' E' s' k q
    obtain ⟨cd, hc, _⟩ := any_some T.hd
    unfold clsIn at hc
    split at hc
    · rename_i _ _ _ _ ho
      unfold isType loadHead
      exact wpAny_bind (wpAny_loadPart (k _ _ (X _ _ ho)) (wpAny_pure q))
    · cases hc
  ne := by
    intro h tp dd its n sl X htp
    obtain ⟨cd, hc, _⟩ := any_some T.hd
    refine Bool.eq_false_iff.mpr fun q => ?_
    cases (Value.ref.inj (beq_iff_eq.mp q) : D = tp)
    unfold clsIn at hc
    split at hc
    · rename_i _ _ _ _ ho
      cases ((X _ _ ho).symm.trans htp)
    · cases hc
  ca := fun X ⟨_, _, I⟩ k => class_of_err T X I k
end
end Hx
namespace Hx
open PySem PySem.Spec PyProof.Rows L2
/-- the error at a, of the class at D, with a dict at d or with none, as the heap has it -/
def errAt (D a : Addr) (d : Option Addr) (oe : Obj) : Prop := Zc (.ref D) d oe ∧ ∃ vs, oe.data = .fields vs
/-- isinstance(e, c), e the error whose object is pinned -/
def rIsD (K : PySem.W.Frag) (D a : Addr) (d : Option Addr) : List V → Hp → VK → Prop := fun xs H Q => ∃ (c : V) (cv : Value) (b : Bool), xs = [.ref a, c] ∧ ClsV c cv ∧ (∀ z, d = some z → ∃ fs, H z = some (.xd fs)) ∧ PySem.W.kitOne K (.ref D) cv = some b ∧ Q (.bl b) H
def rIsDT (K : PySem.W.Frag) (D a : Addr) (d : Option Addr) : List V → Hp → VK → Prop := fun xs H Q => ∃ (tp : Addr) (cs : List V) (us : List Value) (b : Bool), xs = [.ref a, .ref tp] ∧ H tp = some (.tup cs) ∧ Paired ClsV cs us ∧ (∀ z, d = some z → ∃ fs, H z = some (.xd fs)) ∧
  PySem.W.kitAny K (.ref D) us = some b ∧ Q (.bl b) H
section
variable {X : Cx} {a D : Addr} {d : Option Addr} {oe : Obj}
theorem inst_err {pins : List (Addr × Obj)} {σ : L2.St} {H : Hp} {s : Shared} (I : Inv X pins σ H s) (hp : (a, oe) ∈ X.pn ++ pins) (he : errAt D a d oe) (hd : ∀ z, d = some z → ∃ fs, H z = some (.xd fs)) :
    ∃ ox od, PySem.W.InstAt s.heap a ox D od := by
  obtain ⟨hget, _⟩ := I.pin (a, oe) hp
  obtain ⟨⟨h1, h2⟩, vs, hv⟩ := he
  obtain ⟨oc, odd, oda, osl⟩ := oe
  dsimp only at h1 h2 hv
  subst h1 h2 hv
  cases odd with
  | none => exact ⟨_, none, hget, rfl, rfl, trivial⟩
  | some z =>
    obtain ⟨fs, hz⟩ := hd z rfl
    obtain ⟨mA, ⟨o, es, ep, e1, e2⟩, _⟩ := (show ObjOk X.prog X.w H s.heap z (.xd fs) from I.hok z _ hz)
    exact ⟨_, some o, hget, rfl, rfl, e1⟩
theorem call_isD (T : ExcC X.K D) (hp : (a, oe) ∈ X.pn) (he : errAt D a d oe) : CallR X (.builtin "isinstance") (rIsD X.K D a d) := by
  intro pins s σ H xs us Q I r h
  obtain ⟨c, cv, b, rfl, k, hd, e, q⟩ := h
  obtain ⟨u1, u2, rfl, r1, r2⟩ := vals2 r
  cases (show u1 = Value.ref a from r1)
  cases k.eq r2
  exact PySem.W.kia_one (kit_err T) I.kIn (inst_err I (List.mem_append_left _ hp) he hd) e (fun z => nomatch z) fun tk => ⟨.bl b, H, I.tok tk, rfl, q⟩
theorem call_isDT (T : ExcC X.K D) (hp : (a, oe) ∈ X.pn) (he : errAt D a d oe) : CallR X (.builtin "isinstance") (rIsDT X.K D a d) := by
  intro pins s σ H xs us Q I r h
  obtain ⟨tp, cs, ws, b, rfl, hT, k, hd, e, q⟩ := h
  obtain ⟨u1, u2, rfl, r1, r2⟩ := vals2 r
  cases (show u1 = Value.ref a from r1)
  cases (show u2 = Value.ref tp from r2)
  obtain ⟨_, its, rv, o, h1, h2, n, h3⟩ := (show ObjOk X.prog X.w H s.heap tp (.tup cs) from I.hok tp _ hT)
  cases ClsV.all k rv
  obtain ⟨oc, odd, dt, sl⟩ := o
  simp only at h2 h3
  subst h2 h3
  exact PySem.W.kia_tup (kit_err T) I.kIn (inst_err I (List.mem_append_left _ hp) he hd) h1 e (fun z => nomatch z) fun tk => ⟨.bl b, H, I.tok tk, rfl, q⟩
end
end Hx
namespace Hx
open PySem PySem.Spec PyProof.Rows L2
/-- what the base class of the errors must have, at D -/
structure BaseT (K : PySem.W.Frag) (mg : Str → Option Value) (D : Addr) : Prop where
  gB : mg "HeapError" = some (.ref D)
  rdB : ClX.CRead K D (.type "type")
  fcB : PySem.W.findCls K (.ref D) (.type "type") "__init__" = some (.val (.builtin "ValueError.__init__"))
/-- __init__ without, with one, with three fields -/
def spI0 (K : PySem.W.Frag) : Sp := fun vs H Q _ => ∃ (a C : Addr), vs = [.ref a] ∧ OexC K C ∧ H a = some (exo a C none) ∧ Q .non H
def spI1 (K : PySem.W.Frag) (f : Str) : Sp := fun vs H Q _ => ∃ (a C : Addr) (v : V), vs = [.ref a, v] ∧ OexC K C ∧ PySem.W.findIn K (.ref C) f = some none ∧ H a = some (exo a C none) ∧
  ∀ d, H d = none → d ≠ a → Q .non (upd (upd H d (exd d [(f, v)])) a (exo a C (some d)))
def spI3 (K : PySem.W.Frag) (f g k : Str) : Sp := fun vs H Q _ => ∃ (a C : Addr) (u v z : V), vs = [.ref a, u, v, z] ∧ OexC K C ∧ PySem.W.findIn K (.ref C) f = some none ∧ PySem.W.findIn K (.ref C) g = some none ∧ PySem.W.findIn K (.ref C) k = some none ∧
  H a = some (exo a C none) ∧ ∀ d, H d = none → d ≠ a → Q .non (upd (upd (upd (upd H d (exd d [(f, u)])) a (exo a C (some d))) d (exd d [(g, v), (f, u)])) d (exd d [(k, z), (g, v), (f, u)]))
end Hx
/-! ## raising such errors -/
namespace Hx
open PySem PySem.Spec PyProof.Rows L2
/-- what is known of an error class: its name x, at C, its __init__ at fI -/
structure ExT (K : PySem.W.Frag) (mg : Str → Option Value) (x : Str) (C fI : Addr) : Prop where
  oex : OexC K C
  gC : mg x = some (.ref C)
  iC : PySem.W.findIn K (.ref C) "__init__" = some (some (.ref fI))
  tI : PySem.W.typeIn K (.ref fI) = some (.type "function")
theorem drop_new {H1 : Hp} {a d C : Addr} {fs gs : List (Str × V)} (na : H1 a = none) (nad : d ≠ a) :
    upd (del (upd (upd H1 d (exd d fs)) a (exo a C (some d))) a) d (.xd gs) = upd H1 d (.xd gs) := by
  funext b
  by_cases hb : b = d
  · rw [hb, upd_same, upd_same]
  · rw [upd_ne hb, upd_ne hb]
    by_cases ha : b = a
    · rw [ha, del_same, na]
    · rw [del_ne ha, upd_ne ha, upd_ne hb]
theorem mk1 {K : PySem.W.Frag} {H1 : Hp} {C : Addr} {f : Str} {v : V} {Q : XK} (T : OexC K C) (nf : PySem.W.findIn K (.ref C) f = some none) (h : ∀ d, H1 d = none → Q (.ref C) (some d) (upd H1 d (.xd [(f, v)]))) :
    ([v] : List V).length ≤ 1000 ∧ ∀ a, H1 a = none → spI1 K f (.ref a :: ([v] ++ [])) (upd H1 a (exo a C none))
      (fun r H2 => r = .non ∧ ∃ (d : Addr) (fs : List (Str × V)), H2 a = some (exo a C (some d)) ∧ H2 d = some (exd d fs) ∧ H1 d = none ∧ Q (.ref C) (some d) (upd (del H2 a) d (.xd fs))) (fun _ _ _ => False) := by
  refine ⟨by show 1 ≤ 1000; decide, fun a na => ⟨a, C, v, rfl, T, nf, upd_same, fun d nd ne => ⟨rfl, d, [(f, v)], upd_same, ?_, ?_, ?_⟩⟩⟩
  · rw [upd_ne ne, upd_same]
  · rw [upd_ne ne] at nd
    exact nd
  · rw [upd_ne ne] at nd
    have e : upd (del (upd (upd (upd H1 a (exo a C none)) d (exd d [(f, v)])) a (exo a C (some d))) a) d (.xd [(f, v)]) = upd H1 d (.xd [(f, v)]) := by
      funext b
      by_cases hb : b = d
      · rw [hb, upd_same, upd_same]
      · rw [upd_ne hb, upd_ne hb]
        by_cases ha : b = a
        · rw [ha, del_same, na]
        · rw [del_ne ha, upd_ne ha, upd_ne hb, upd_ne ha]
    rw [e]
    exact h d nd
theorem mk3 {K : PySem.W.Frag} {H1 : Hp} {C : Addr} {f g k : Str} {u v z : V} {Q : XK} (T : OexC K C) (n1 : PySem.W.findIn K (.ref C) f = some none) (n2 : PySem.W.findIn K (.ref C) g = some none) (n3 : PySem.W.findIn K (.ref C) k = some none)
    (h : ∀ d, H1 d = none → Q (.ref C) (some d) (upd H1 d (.xd [(k, z), (g, v), (f, u)]))) :
    ([u, v, z] : List V).length ≤ 1000 ∧ ∀ a, H1 a = none → spI3 K f g k (.ref a :: ([u, v, z] ++ [])) (upd H1 a (exo a C none))
      (fun r H2 => r = .non ∧ ∃ (d : Addr) (fs : List (Str × V)), H2 a = some (exo a C (some d)) ∧ H2 d = some (exd d fs) ∧ H1 d = none ∧ Q (.ref C) (some d) (upd (del H2 a) d (.xd fs))) (fun _ _ _ => False) := by
  refine ⟨by show 3 ≤ 1000; decide, fun a na => ⟨a, C, u, v, z, rfl, T, n1, n2, n3, upd_same, fun d nd ne => ⟨rfl, d, [(k, z), (g, v), (f, u)], ?_, upd_same, ?_, ?_⟩⟩⟩
  · rw [upd_ne ne.symm, upd_ne ne.symm, upd_same]
  · rw [upd_ne ne] at nd
    exact nd
  · rw [upd_ne ne] at nd
    have e : upd (del (upd (upd (upd (upd (upd H1 a (exo a C none)) d (exd d [(f, u)])) a (exo a C (some d))) d (exd d [(g, v), (f, u)])) d (exd d [(k, z), (g, v), (f, u)])) a) d (.xd [(k, z), (g, v), (f, u)]) = upd H1 d (.xd [(k, z), (g, v), (f, u)]) := by
      funext b
      by_cases hb : b = d
      · rw [hb, upd_same, upd_same]
      · rw [upd_ne hb, upd_ne hb]
        by_cases ha : b = a
        · rw [ha, del_same, na]
        · rw [del_ne ha, upd_ne hb, upd_ne hb, upd_ne ha, upd_ne hb, upd_ne ha]
    rw [e]
    exact h d nd
/-- C(), the error has no dict -/
def tMk0 (C : Addr) : L2.St → Hp → XK → Prop := fun _ H Q => Q (.ref C) none H
section
variable {X : Cx} {p pos : Pos}
theorem pmk_none {x : Str} {C fI : Addr} {k : Nat} {fd : FuncData} (T : ExT X.K X.mg x C fI) (F1 : FnOk X.prog X.w X.K X.mg X.base CX0 k fI fd ["self"] (spI0 X.K)) (hr : Room (k + 1) X.A) (hb : Binds X.K fd ["self"] []) (hg : Gl X x := by rfl)
    (hdb : (x == ("__debug__" : Str)) = false := by decide) : PMk X (.Call (.Name x p) [] [] pos) (tMk0 C) := by
  intro pins s σ H Q I h
  obtain ⟨nm, q, N, bs, bm, sn, sub, ab, col, dd, k0, k1, k2, k3, k5, hC, hbm⟩ := T.oex.cls
  refine wpAny_Call_Name_kw (ld_glob I hg T.gC ?_ hdb)
  refine PySem.W.callWith_K0 I.kIn T.oex.kC ?_
  show wpAny _ _ (call (.ref C) []) _ _ _
  obtain ⟨hp, g, dr, tk, os⟩ := s
  have na : H (hp.objs.size + 1) = none := I.hok.fresh (Nat.le_succ _)
  have stay : ∀ b o, hp.get? b = some o → ((hp.push (PySem.W.kdv_tup [])).push (PySem.HandSPX.excO C hp.objs.size)).get? b = some o := fun b o e => Heap.get?_push_of_some _ (Heap.get?_push_of_some _ e)
  have atE : ((hp.push (PySem.W.kdv_tup [])).push (PySem.HandSPX.excO C hp.objs.size)).get? (hp.objs.size + 1) = some (PySem.HandSPX.excO C hp.objs.size) := by heap_get
  have I2 := I.laid (t' := tk) (a := hp.objs.size + 1) (o := exo (hp.objs.size + 1) C none) stay (Nat.le_succ _) (exo_ok atE)
  have hq : spI0 X.K [.ref (hp.objs.size + 1)] (upd H (hp.objs.size + 1) (exo (hp.objs.size + 1) C none)) (fun v H2 => v = .non ∧ H2 = upd H (hp.objs.size + 1) (exo (hp.objs.size + 1) C none)) (fun _ _ _ => False) :=
    ⟨_, C, rfl, T.oex, upd_same, rfl, rfl⟩
  have bd := hb _ [Value.ref (hp.objs.size + 1)] I2.kIn rfl
  refine wpAny_call (PySem.HandSPX.call_own F.excBase_ValueError (fun Y => PySem.HandSPX.refsVE_contains Y bm hbm) (I.kIn _ _ hC) (PySem.W.looks_findIn I.kIn T.iC) (fun self => PySem.W.bind_fn I.kIn self T.tI) (Nat.zero_le _)
    (codeAny_mono (F1.run _ X.stack _ _ ⟨[Value.ref (hp.objs.size + 1)], []⟩ [Value.ref (hp.objs.size + 1)] [V.ref (hp.objs.size + 1)] _ (fun _ _ _ => False) (hr.make C [] []) (I2.env0.make C [] []) bd (.cons (show L2.RelV (V.ref (hp.objs.size + 1)) (Value.ref (hp.objs.size + 1)) from rfl) .nil) hq) fun r s' hq' => ?_))
  cases r with
  | error er => exact hq'.elim
  | ok fl =>
    cases fl with
    | next => exact False.elim hq'
    | brk => exact False.elim hq'
    | cont => exact False.elim hq'
    | ret u =>
      obtain ⟨v, H2, os2, bare2, un, hok, rv, ev, eH⟩ := hq'
      subst ev eH
      obtain ⟨h2, g2, d2, t2, os'⟩ := s'
      have ea : upd H (hp.objs.size + 1) (exo (hp.objs.size + 1) C none) (hp.objs.size + 1) = some (exo (hp.objs.size + 1) C none) := upd_same
      obtain ⟨t0, hoe⟩ := exo_at hok ea
      obtain ⟨G, gi, gn⟩ := restrict h2 fun b => decide (b ≠ hp.objs.size + 1)
      have gk : ∀ b, b ≠ hp.objs.size + 1 → G.get? b = h2.get? b := fun b hb => gi b (decide_eq_true hb)
      have ge : G.get? (hp.objs.size + 1) = none := gn _ (by simp)
      have old : ∀ {b : Addr} {o : Obj}, hp.get? b = some o → b ≠ hp.objs.size + 1 := fun z => Nat.ne_of_lt (Nat.lt_succ_of_lt (Heap.lt_size z))
      have U : Un (frs X.stack) [] H H hp G := by
        refine ⟨fun b o z n hf hx => ?_, fun b o z n hf hx => ?_, fun b o z n _ => n, fun b o z hx => ?_, fun _ _ z => z, fun _ _ _ z => z, fun b ps z => ⟨#[], by rw [z]; simp⟩⟩
        · rw [gk b (old z)]; exact un.keep b o (stay b o z) (by rw [upd_ne (old z)]; exact n) hf hx
        · rw [gk b (old z)]; exact un.slot b o (stay b o z) (by rw [upd_ne (old z)]; exact n) hf hx
        · rw [gk b (old z)]; exact un.there b o (stay b o z) hx
      have hokG : HOk X.prog X.w H G := fun b o z => by
        have nb : b ≠ hp.objs.size + 1 := ne_of_none z na
        refine (hok b o (by rw [upd_ne nb]; exact z)).stay (fun c v hc y => ?_) (fun c hc => ?_) (fun c xs hc => ?_)
        · have nc : c ≠ hp.objs.size + 1 := by
            rcases hc with hc | hc
            · rw [hc]; exact nb
            · exact at_ne ea hc exo_own
          rw [gk c nc]; exact y
        · have nc := at_ne ea hc exo_own
          rw [upd_ne nc] at hc; exact hc
        · have nc := at_ne ea hc exo_tup
          rw [upd_ne nc] at hc; exact hc
      have J : Inv X pins σ H ⟨G, g2, d2, t2, os'⟩ := I.call' (ch := []) os2 U hokG bare2 (fun b z => absurd z (by simp))
      refine ⟨rv, hp.objs.size + 1, _, _, ⟨G, g2, d2, t2, os'⟩, H, .ref C, none, rfl, J, fun b o z => ?_, ge, hoe, ⟨rfl, rfl⟩, rfl, rfl, na, rfl, bare2, raises_own T.oex.exC T.oex.tyC, h⟩
      by_cases hb : b = hp.objs.size + 1
      · rw [hb, ge] at z; cases z
      · exact (gk b hb).symm.trans z
end
end Hx
/-! ## The bag of draws -/
namespace Hx
open PySem PySem.Spec PyProof.Rows L2
abbrev kC : Key := Sum.inr ("cells" : Str)
abbrev kA : Key := Sum.inr ("at" : Str)
abbrev kD : Key := Sum.inr ("digits" : Str)
abbrev kN : Key := Sum.inr ("count" : Str)
abbrev kF : Key := Sum.inr ("fold" : Str)
def bagK (l : Addr) (i dg ct fd : Int) : List (Key × V) := [(kC, .ref l), (kA, .int i), (kD, .int dg), (kN, .int ct), (kF, .int fd)]
theorem nCA : ¬ kC = kA := by decide +kernel
theorem nCD : ¬ kC = kD := by decide +kernel
theorem nCN : ¬ kC = kN := by decide +kernel
theorem nCF : ¬ kC = kF := by decide +kernel
theorem nAD : ¬ kA = kD := by decide +kernel
theorem nAN : ¬ kA = kN := by decide +kernel
theorem nAF : ¬ kA = kF := by decide +kernel
theorem nDN : ¬ kD = kN := by decide +kernel
theorem nDF : ¬ kD = kF := by decide +kernel
theorem nNF : ¬ kN = kF := by decide +kernel
theorem strN {x y : Str} (h : ¬ (Sum.inr x : Key) = Sum.inr y) : ¬ x = y := fun e => h (by rw [e])
theorem strN' {x y : Str} (h : ¬ (Sum.inr x : Key) = Sum.inr y) : ¬ y = x := fun e => h (by rw [e])
section
variable (l : Addr) (i dg ct fd z : Int)
theorem gC : valV (bagK l i dg ct fd) kC = some (.ref l) := valV_pos rfl
theorem gA : valV (bagK l i dg ct fd) kA = some (.int i) := by unfold bagK; rw [valV_neg nCA, valV_pos rfl]
theorem gD : valV (bagK l i dg ct fd) kD = some (.int dg) := by unfold bagK; rw [valV_neg nCD, valV_neg nAD, valV_pos rfl]
theorem gN : valV (bagK l i dg ct fd) kN = some (.int ct) := by unfold bagK; rw [valV_neg nCN, valV_neg nAN, valV_neg nDN, valV_pos rfl]
theorem gF : valV (bagK l i dg ct fd) kF = some (.int fd) := by unfold bagK; rw [valV_neg nCF, valV_neg nAF, valV_neg nDF, valV_neg nNF, valV_pos rfl]
theorem pA : putK (bagK l i dg ct fd) kA (.int z) = bagK l z dg ct fd := by
  unfold putK
  rw [valV_any, gA, Option.isSome_some, if_pos rfl]
  simp [bagK, strN nCA, strN' nAD, strN' nAN, strN' nAF]
theorem pD : putK (bagK l i dg ct fd) kD (.int z) = bagK l i z ct fd := by
  unfold putK
  rw [valV_any, gD, Option.isSome_some, if_pos rfl]
  simp [bagK, strN nCD, strN nAD, strN' nDN, strN' nDF]
theorem pN : putK (bagK l i dg ct fd) kN (.int z) = bagK l i dg z fd := by
  unfold putK
  rw [valV_any, gN, Option.isSome_some, if_pos rfl]
  simp [bagK, strN nCN, strN nAN, strN nDN, strN' nNF]
theorem pF : putK (bagK l i dg ct fd) kF (.int z) = bagK l i dg ct z := by
  unfold putK
  rw [valV_any, gF, Option.isSome_some, if_pos rfl]
  simp [bagK, strN nCF, strN nAF, strN nDF, strN nNF]
end
/-- a bag stands at p, n draws were taken -/
def Bag (H : Hp) (p : Addr) (n : Nat) : Prop := ∃ (l : Addr) (ns : List Int) (i dg fd : Int), H p = some (.dK (bagK l i dg (n : Int) fd)) ∧ H l = some (.lst (ns.map V.int)) ∧ ns.length ≤ 63 ∧ 0 ≤ i ∧ 0 ≤ dg ∧ 0 ≤ fd ∧ fd < 2147483587
theorem Bag.keep {H H' : Hp} {p : Addr} {n : Nat} (b : Bag H p n) (e : Same H H') : Bag H' p n := by
  obtain ⟨l, ns, i, dg, fd, h1, h2, q⟩ := b
  exact ⟨l, ns, i, dg, fd, e _ _ h1, e _ _ h2, q⟩
theorem Bag.at {H : Hp} {p : Addr} {n : Nat} (b : Bag H p n) : ∃ o, H p = some o := by
  obtain ⟨l, ns, i, dg, fd, h1, _⟩ := b
  exact ⟨_, h1⟩
/-- all but p as it was -/
def But (p : Addr) (H H' : Hp) : Prop := ∀ b o, b ≠ p → H b = some o → H' b = some o
theorem But.refl (p : Addr) (H : Hp) : But p H H := fun _ _ _ e => e
theorem But.trans {p : Addr} {H H1 H2 : Hp} (a : But p H H1) (b : But p H1 H2) : But p H H2 := fun c o n e => b c o n (a c o n e)
theorem Same.but {p : Addr} {H H' : Hp} (e : Same H H') : But p H H' := fun b o _ h => e b o h
theorem But.upd {p : Addr} {H : Hp} {o : HO} : But p H (upd H p o) := fun b u n e => by rw [upd_ne n]; exact e
theorem But.free {p : Addr} {H H' : Hp} {n : Nat} (e : But p H H') (b : Bag H' p n) {x : Addr} (h : H' x = none) : H x = none := by
  cases q : H x with
  | none => rfl
  | some o =>
    by_cases z : x = p
    · obtain ⟨u, hu⟩ := b.at
      rw [z, hu] at h
      cases h
    · rw [e x o z q] at h
      cases h
theorem new_same {H : Hp} {p : Addr} {o : HO} (h : H p = none) : Same H (upd H p o) := fun b u q => by rw [upd_ne (ne_of_none q h)]; exact q
/-- _law_draw -/
def spDraw : Sp := fun vs H Q _ => ∃ (p : Addr) (n : Nat) (m : Int), vs = [.ref p, .int m] ∧ Bag H p n ∧ n ≤ 1000000 ∧ 0 < m ∧ m.natAbs < 2 ^ 8000 ∧
  ∀ (r : Int) (H' : Hp), 0 ≤ r → r < m → Bag H' p (n + 1) → But p H H' → Q (.int r) H'
/-- _law_bag -/
def spBag (K : PySem.W.Frag) : Sp := fun vs H Q _ => ∃ (a : Addr) (ns : List Int), vs = [.ref a] ∧ SqL K H a (ns.map V.int) ∧ ns.length ≤ 63 ∧
  ∀ (p : Addr) (H' : Hp), H p = none → Same H H' → Bag H' p 0 → Q (.ref p) H'
/-- built-ins that the draws use -/
structure BltT (mg : Str → Option Value) : Prop where
  int : mg "int" = none
  list : mg "list" = none
  len : mg "len" = none
theorem big17 {x : Int} (h0 : 0 ≤ x) (h : x < 18446744073709551616) : 0 ≤ (17 : Int) ∧ (17 : Int) ≤ 1000000 ∧ x.natAbs < 2 ^ 64 := ⟨by decide, by decide, by omega⟩
end Hx
/-! ## An error class with all that is asked of it -/
namespace Hx
open PySem PySem.Spec PyProof.Rows L2
structure ClT (K : PySem.W.Frag) (mg : Str → Option Value) (x qual : Str) (st : Stmt) (ps fl : List Str) (C fI : Addr) : Prop where
  ex : ExT K mg x C fI
  fn : ∃ fd, Fun K "__init__" qual st fI fd ∧ Binds K fd ps []
  nf : ∀ f ∈ fl, PySem.W.findIn K (.ref C) f = some none
  xf : XfC K C
  is : ExcC K C
/-- how an error that was made from a, b, c leaves: field f of the class at C -/
def err1 (C : Addr) (f : Str) (a : V) (H : Hp) (E : XK) : Prop := ∀ d, H d = none → E (.ref C) (some d) (upd H d (.xd [(f, a)]))
def err3 (C : Addr) (f g k : Str) (a b c : V) (H : Hp) (E : XK) : Prop := ∀ d, H d = none → E (.ref C) (some d) (upd H d (.xd [(k, c), (g, b), (f, a)]))
section
variable {X : Cx} {e : Expr} {es : List Expr} {ta : TA} {p pos pos2 : Pos} {W : WX}
/-- raise C(..) -/
def tRz (C : Addr) (sp : Sp) (W : WX) (ta : TA) : TS := fun _ σ H => tMkO C sp [] ta σ H fun cls d H' => W cls d σ H'
theorem rd1 {K : PySem.W.Frag} {C : Addr} {f : Str} {i : Nat} {W : WX} {D : Ends} {σ : L2.St} {H : Hp} {v : V} (T : OexC K C) (nf : PySem.W.findIn K (.ref C) f = some none) (hi : σ[i]? = some (some v)) (h : err1 C f v H fun cls d H' => W cls d σ H') :
    tRz C (spI1 K f) W (tCons (tVar i) tNil) D σ H := ⟨v, hi, mk1 (Q := fun cls d H' => W cls d σ H') T nf h⟩
theorem rd3 {K : PySem.W.Frag} {C : Addr} {f g h : Str} {i j k : Nat} {W : WX} {D : Ends} {σ : L2.St} {H : Hp} {u v z : V} (T : OexC K C) (n1 : PySem.W.findIn K (.ref C) f = some none) (n2 : PySem.W.findIn K (.ref C) g = some none) (n3 : PySem.W.findIn K (.ref C) h = some none)
    (hi : σ[i]? = some (some u)) (hj : σ[j]? = some (some v)) (hk : σ[k]? = some (some z)) (q : err3 C f g h u v z H fun cls d H' => W cls d σ H') :
    tRz C (spI3 K f g h) W (tCons (tVar i) (tCons (tVar j) (tCons (tVar k) tNil))) D σ H := ⟨u, hi, v, hj, z, hk, mk3 (Q := fun cls d H' => W cls d σ H') T n1 n2 n3 q⟩
theorem ps_rz {x qual : Str} {st : Stmt} {ps fl : List Str} {sp : Sp} {C fI : Addr} (hc : X.calm = true) (tk : Takes X W) (T : ClT X.K X.mg x qual st ps fl C fI) (ok : ∀ fd, Fun X.K "__init__" qual st fI fd → FnOk X.prog X.w X.K X.mg X.base CX0 1 fI fd ps sp) (hr : Room 2 X.A)
    (ha : PA X (e :: es) ta) (hg : Gl X x := by rfl) (hdb : (x == ("__debug__" : Str)) = false := by decide) (hs : starEach (e :: es) X.env = (false, eval e X.env) :: starEach es X.env := by rfl) (hp : (backTo pos (starEach es X.env)).any (·.1) = false := by rfl) :
    PS X (.Raise (some (.Call (.Name x p) (e :: es) [] pos)) none pos2) (tRz C sp W ta) := by
  obtain ⟨fd, F, b⟩ := T.fn
  exact ps_raise hc tk (pmk_oex T.ex.oex T.ex.iC T.ex.tI (ok fd F) hr b .nil pass0 hg T.ex.gC ha hdb hs hp)
/-- raise C() -/
def tR0 (C : Addr) (W : WX) : TS := fun _ σ H => W (.ref C) none σ H
theorem ps_r0 {x qual : Str} {st : Stmt} {C fI : Addr} (hc : X.calm = true) (tk : Takes X W) (T : ClT X.K X.mg x qual st ["self"] [] C fI) (ok : ∀ fd, Fun X.K "__init__" qual st fI fd → FnOk X.prog X.w X.K X.mg X.base CX0 1 fI fd ["self"] (spI0 X.K)) (hr : Room 2 X.A) (hg : Gl X x := by rfl)
    (hdb : (x == ("__debug__" : Str)) = false := by decide) : PS X (.Raise (some (.Call (.Name x p) [] [] pos)) none pos2) (tR0 C W) := by
  obtain ⟨fd, F, b⟩ := T.fn
  exact ps_raise hc tk (pmk_none T.ex (ok fd F) hr b hg hdb)
end
end Hx
/-! ## A def that is handed the error that its caller's suite holds -/
namespace Hx
open PySem PySem.Spec PyProof.Rows L2
/-- as FnOk, while an error is handled; its object p stands still and may be looked at -/
structure FnP (P : Program) (w : World) (K : PySem.W.Frag) (mg : Str → Option Value) (base : Heap) (k : Nat) (f : Addr) (fd : FuncData) (ps : List Str) (sp : Addr × Obj → Sp) : Prop where
  len : ∀ p vs H Q E, sp p vs H Q E → vs.length = ps.length
  run : ∀ (p : Addr × Obj) (A : Around) (outer : List Env) (s : Shared) (H : Hp) (args : Args) (us : List Value) (vs : List V) (Q : VK) (E : XK), L2H.RoomH k A → L2H.PinOk outer H s p → Env0 P w K mg base A outer s H → BindsTo s fd args (ps.zip us) → Vals vs us → sp p vs H Q E →
    codeAny (model P w) A (.call (.ref f) args) (CR CX0 outer P w H s Q E) s
theorem fnP_of {P : Program} {w : World} {K : PySem.W.Frag} {mg : Str → Option Value} {base : Heap} {k : Nat} {x qual : Str} {st : Stmt} {f : Addr} {fd : FuncData} {N ps : List Str} {sp : Addr × Obj → Sp} (F : Fun K x qual st f fd) (S : FnScope N ps (defScope st)) (ln : ∀ p vs H Q E, sp p vs H Q E → vs.length = ps.length)
    (hb : ∀ (p : Addr × Obj) (cdv : Value) (A : Around) (outer : List Env) (s : Shared) (H : Hp) (vs : List V) (Q : VK) (E : XK), L2H.RoomH k (A.deeper (envOfC qual (defScope st) s.heap.objs.size f cdv)) → sp p vs H Q E →
      ∃ t, PSs (L2H.cxH CX0 P w K mg base N qual (defScope st) f cdv A outer s H E p).nox (defBody st) t ∧ t { nx := fun _ G => Q .non G, rt := Q } (L2.start N vs) H) : FnP P w K mg base (k + 1) f fd ps sp := by
  obtain ⟨oc, od, kV, doc, pm, an, cdv, ct, osl, rfl, lk, hcd⟩ := F.ex
  constructor
  · exact ln
  intro p A outer s H args us vs Q E hr pin e0 bd rv hsp
  have KX : K.In s.heap := e0.mod.kin.keeps fun b o z => (e0.bs b o z).1
  refine codeAny_call_function hr.depth (KX _ _ lk) rfl S.co S.gen rfl (PySem.W.codeRec_of KX hcd) (bd _ _ _ _ (wpAny_newFunctionEnv_cells S.kind ?_ fun env he t1 ic => ?_))
  · rintro ⟨n, v⟩ hy
    rcases S.par n (List.of_mem_zip hy).1 with z | z
    · exact .inl z
    · exact .inr ⟨z, PySem.W.cellsFrom_some _ _ _ (.inl z)⟩
  subst he
  refine ⟨(e0.mod.nolimit.keeps fun b o z => (e0.bs b o z).1).keeps ic.toInCall.keep, codeAny_func ?_⟩
  obtain ⟨t, ht, hq⟩ := hb p cdv A outer s H vs Q E (hr.deeper _) hsp
  have I := L2H.inv_startH (CX := CX0) (E := E) S pin e0 (ln _ _ _ _ _ hsp) rv ic
  refine wpAny_mono (ht.nox.run [] t1 _ H _ I hq) (fun fl s' hs => ?_) fun _ _ z => z
  cases fl with
  | ret u => obtain ⟨v, ρ, G, J, r, q⟩ := hs; exact ⟨v, G, J.os, J.bare, J.base, J.hok, r, q⟩
  | next => obtain ⟨ρ, G, J, q⟩ := hs; exact ⟨.non, G, J.os, J.bare, J.base, J.hok, rfl, q⟩
  | brk => obtain ⟨ρ, G, J, z⟩ := hs; exact False.elim z
  | cont => obtain ⟨ρ, G, J, z⟩ := hs; exact False.elim z
section
variable {X : Cx} {k : Nat} {f : Addr} {fd : FuncData} {ps : List Str} {sp : Addr × Obj → Sp} {x : Str} {q pos : Pos} {e : Expr} {es : List Expr} {t : TA} {p : Addr × Obj}
theorem pe_callP (F : FnP X.prog X.w X.K X.mg X.base k f fd ps sp) (hp : p ∈ X.pn) (hr : L2H.RoomH k X.A) (hm : X.mg x = some (.ref f)) (hk : PySem.W.keepIn X.K (.ref f) = true) (hb : Binds X.K fd ps []) (ha : PA X (e :: es) t) (hg : Gl X x := by rfl)
    (hdb : (x == ("__debug__" : Str)) = false := by decide) (h1 : starEach (e :: es) X.env = (false, eval e X.env) :: starEach es X.env := by rfl) (h2 : (backTo pos (starEach es X.env)).any (·.1) = false := by rfl) :
    PE X (.Call (.Name x q) (e :: es) [] pos) (tCallS (sp p) (fun _ _ _ _ => False) t) := by
  constructor
  intro pins s σ H Q I h
  refine wpAny_Call_Name_kw (ld_glob I hg hm ?_ hdb)
  refine PySem.W.callWith_K (h₀ := X.base) I.ok.mod.kin hk (thn (ha.run pos pins s σ H _ I h) ?_) h1 h2
  rintro us s1 ⟨vs, H1, I1, r, hsp⟩
  refine ⟨I1.kIn, ?_⟩
  have hl : us.length = ps.length := by rw [← r.length]; exact F.len _ _ _ _ _ hsp
  have bd := hb s1 us I1.kIn (by rw [List.append_nil]; exact hl)
  rw [List.append_nil] at bd
  have pn := I1.pin p (List.mem_append_left _ hp)
  have pin : L2H.PinOk X.stack H1 s1 p := ⟨pn.1, pn.2.1, fun hm => (List.mem_cons.mp (I1.stkSub p.1 hm)).elim pn.2.2.1 pn.2.2.2.1, pn.2.2.2.2⟩
  refine wpAny_call (codeAny_mono (F.run p X.A X.stack s1 H1 ⟨us, []⟩ us vs Q (fun _ _ _ => False) hr pin I1.env0 bd r hsp) fun r s' hq => ?_)
  cases r with
  | error er => exact hq.elim
  | ok fl =>
    cases fl with
    | ret u => exact I1.after hq
    | next => exact False.elim hq
    | brk => exact False.elim hq
    | cont => exact False.elim hq
end
end Hx
/-! ## What the top has written, told by two answers -/
namespace Hx
open PySem PySem.Spec PyProof.Rows L2
/-- what is asked of the error class at C, of its __init__ at f, of its fields -/
def clsB (K : PySem.W.Frag) (C f : Addr) (fl : List Str) : Bool :=
  decide (PySem.W.findIn K (.ref C) "__setattr__" = some (some (.builtin "object.__setattr__"))) && (decide (PySem.W.findIn K (.ref C) "__getattribute__" = some (some (.builtin "BaseException.__getattribute__"))) &&
  (decide (PySem.W.findIn K (.ref C) "__getattr__" = some none) && (decide (PySem.W.subIn K (.ref C) (.type "BaseException") = some true) && (decide (PySem.W.typeIn K (.ref C) = some (.type "type")) && (PySem.W.hasDictIn K C && (PySem.W.keepIn K (.ref C) &&
  (decide (PySem.W.findIn K (.ref C) "__class__" = some (some (.builtin "object.__class__"))) && (decide (PySem.W.specialIn K (.builtin "object.__class__") "__get__" = some (some (.builtin "getset_descriptor.__get__"))) && (decide (PySem.W.takesIn K (.builtin "object.__class__") = some true) &&
  (decide (PySem.W.mroIn K C (.type "object") = some true) && (decide (PySem.W.findIn K (.ref C) "__init__" = some (some (.ref f))) && (decide (PySem.W.typeIn K (.ref f) = some (.type "function")) && fl.all fun x => decide (PySem.W.findIn K (.ref C) x = some none)))))))))))))
theorem cl_mk {K : PySem.W.Frag} {h : Heap} {mg : Str → Option Value} {x qual : Str} {st : Stmt} {ps fl : List Str} {C f D : Addr} (X : K.In h) (G : h.Ns mainGlobals mg) (aC : PySem.W.nsIn K mainGlobals x = some (some (.ref C))) {nm q : Str} {N : Addr} {bs : List Value} {sn : List Str} {sub : List Value} {ab : Bool} {col : Option Bool} {dd : Option Addr} {m0 m1 m2 m3 m5 : Option Value}
    (xL : K.lookup C = some (excClassObj nm q C N bs [.ref D, .type "ValueError", .type "Exception", .type "BaseException", .type "object"] true sn sub ab col dd m0 m1 m2 m3 m5 "ValueError.__new__")) {oc : Value} {od an : Option Addr} {osl : Array (Option Value)} {kV doc pm cdv ct : Value}
    (lf : K.lookup f = some ⟨oc, od, .func (PySem.W.fnOf "__init__" qual (defArgs st) (defBody st) (defScope st) .none kV doc pm an cdv ct), osl⟩) (cf : PySem.W.codeIn K cdv qual = true) (kf : PySem.W.keepIn K (.ref f) = true)
    (hb : ∀ (kV doc pm : Value) (an : Option Addr) (cdv ct : Value) (us : List Value), us.length = ps.length → bindArgs (PySem.W.fnOf "__init__" qual (defArgs st) (defBody st) (defScope st) .none kV doc pm an cdv ct) ⟨us, []⟩ = pure (ps.zip us)) (b : clsB K C f fl = true) :
    ClT K mg x qual st ps fl C f := by
  unfold clsB at b
  simp only [Bool.and_eq_true, decide_eq_true_eq, List.all_eq_true] at b
  obtain ⟨sa, ga, gg, eC, tC, hC, kC, cc, cn, ct', mo, iC, tI, nf⟩ := b
  have F := fun_mk (st := st) lf cf kf
  exact ⟨⟨⟨⟨nm, q, N, bs, _, sn, sub, ab, col, dd, m0, m1, m2, m3, m5, xL, by rfl⟩, sa, eC, tC, kC⟩, PySem.W.mg_of X G aC, iC, tI⟩, ⟨_, F, F.binds hb⟩, nf, ⟨ga, gg, eC, hC⟩, ⟨ga, gg, eC, hC, cc, cn, ct', mo⟩⟩
/-- which error is of which class -/
def pairsB (K : PySem.W.Frag) (D : Addr) (Cs : List Addr) : Bool := (List.range Cs.length).all fun j => decide (PySem.W.exmOne K (.ref (Cs.getD j 0)) (.ref D) = some true) && (decide (PySem.W.kitOne K (.ref (Cs.getD j 0)) (.type "ValueError") = some true) && (List.range Cs.length).all fun k =>
  decide (PySem.W.exmOne K (.ref (Cs.getD j 0)) (.ref (Cs.getD k 0)) = some (decide (j = k))) && decide (PySem.W.kitOne K (.ref (Cs.getD j 0)) (.ref (Cs.getD k 0)) = some (decide (j = k))))
theorem pairs_of {K : PySem.W.Frag} {D : Addr} {Cs : List Addr} (b : pairsB K D Cs = true) {j : Nat} (hj : j < Cs.length) : PySem.W.exmOne K (.ref (Cs.getD j 0)) (.ref D) = some true ∧ PySem.W.kitOne K (.ref (Cs.getD j 0)) (.type "ValueError") = some true ∧
    ∀ k, k < Cs.length → PySem.W.exmOne K (.ref (Cs.getD j 0)) (.ref (Cs.getD k 0)) = some (decide (j = k)) ∧ PySem.W.kitOne K (.ref (Cs.getD j 0)) (.ref (Cs.getD k 0)) = some (decide (j = k)) := by
  unfold pairsB at b
  rw [List.all_eq_true] at b
  have z := b j (List.mem_range.mpr hj)
  simp only [Bool.and_eq_true, decide_eq_true_eq, List.all_eq_true] at z
  exact ⟨z.1, z.2.1, fun k hk => z.2.2 k (List.mem_range.mpr hk)⟩
end Hx

/-! ## Dicts whose keys are nested tuples and whose values are True -/
namespace Nd
open PySem PySem.Spec PyProof.Rows L2
mutual
/-- the value is such a key -/
inductive NV (K : PySem.W.Frag) (H : Hp) : V → NestedKey → Prop
  | non : NV K H .non .none
  | int (i : Int) : NV K H (.int i) (.num i)
  | str (x : Str) : NV K H (.str x) (.text x)
  | tup {a : Addr} {xs : List V} {ks : List NestedKey} : SqT K H a xs → NVs K H xs ks → NV K H (.ref a) (.tup ks)
inductive NVs (K : PySem.W.Frag) (H : Hp) : List V → List NestedKey → Prop
  | nil : NVs K H [] []
  | cons {x : V} {xs : List V} {k : NestedKey} {ks : List NestedKey} : NV K H x k → NVs K H xs ks → NVs K H (x :: xs) (k :: ks)
end
theorem sqt_same {K : PySem.W.Frag} {H H' : Hp} {a : Addr} {xs : List V} (e : Same H H') (h : SqT K H a xs) : SqT K H' a xs := by
  rcases h with (h | ⟨o, h⟩) | h
  · exact .inl (.inl (e _ _ h))
  · exact .inl (.inr ⟨o, e _ _ h⟩)
  · exact .inr h
/-- kept where tuples are -/
def Tups (H H' : Hp) : Prop := ∀ b xs, Rd H b (.tup xs) → Rd H' b (.tup xs)
theorem Tups.of {H H' : Hp} (e : Same H H') : Tups H H' := fun b xs h => by
  rcases h with h | ⟨o, h⟩
  · exact .inl (e _ _ h)
  · exact .inr ⟨o, e _ _ h⟩
theorem Tups.trans {H H1 H2 : Hp} (a : Tups H H1) (b : Tups H1 H2) : Tups H H2 := fun c xs h => b c xs (a c xs h)
theorem Tups.refl (H : Hp) : Tups H H := fun _ _ h => h
theorem Tups.upd {H : Hp} {a : Addr} {o : HO} (h : ∀ xs, ¬ Rd H a (.tup xs)) : Tups H (upd H a o) := fun b xs r => by
  have nb : b ≠ a := fun e => h xs (e ▸ r)
  rcases r with r | ⟨ob, r⟩
  · exact .inl (by rw [upd_ne nb]; exact r)
  · exact .inr ⟨ob, by rw [upd_ne nb]; exact r⟩
mutual
theorem NV.keep {K : PySem.W.Frag} {H H' : Hp} (e : Tups H H') : ∀ (k : NestedKey) (v : V), NV K H v k → NV K H' v k
  | .none, _, h => by cases h; exact .non
  | .num i, _, h => by cases h; exact .int i
  | .text x, _, h => by cases h; exact .str x
  | .tup ks, _, h => by
    cases h with
    | tup h1 h2 => exact .tup (h1.elim (fun z => .inl (e _ _ z)) .inr) (NVs.keep e ks _ h2)
theorem NVs.keep {K : PySem.W.Frag} {H H' : Hp} (e : Tups H H') : ∀ (ks : List NestedKey) (xs : List V), NVs K H xs ks → NVs K H' xs ks
  | [], _, h => by cases h; exact .nil
  | k :: ks, _, h => by
    cases h with
    | cons h1 h2 => exact .cons (NV.keep e k _ h1) (NVs.keep e ks _ h2)
end
section
variable {X : Cx} {pins : List (Addr × Obj)} {σ : L2.St} {H : Hp} {s : Shared}
mutual
theorem nv_is (I : Inv X pins σ H s) : ∀ (k : NestedKey) (v : V) (u : Value), NV X.K H v k → RelV v u → NestedIs s.heap k u
  | .none, _, _, h, r => by cases h; cases r; exact .none
  | .num i, _, _, h, r => by cases h; obtain ⟨t, rfl⟩ := r; exact .int i t
  | .text x, _, _, h, r => by cases h; obtain ⟨t, rfl⟩ := r; exact .text x t
  | .tup ks, _, _, h, r => by
    cases h with
    | @tup a xs _ h1 h2 =>
      cases (show _ = Value.ref a from r)
      obtain ⟨its, rv, ⟨o, e1, e2, n, e3⟩, _⟩ := I.tuple h1
      exact .tup e1 e2 e3 (by simpa using nvs_are I ks xs its h2 rv)
theorem nvs_are (I : Inv X pins σ H s) : ∀ (ks : List NestedKey) (xs : List V) (us : List Value), NVs X.K H xs ks → Vals xs us → NestedAll s.heap ks us
  | [], _, _, h, r => by cases h; cases r; exact .nil
  | k :: ks, _, _, h, r => by
    cases h with
    | cons h1 h2 =>
      cases r with
      | cons r1 r2 => exact .cons (nv_is I k _ _ h1 r1) (nvs_are I ks _ _ h2 r2)
end
end
/-- the entries: each key with the tuple that stands for it -/
abbrev Ks := List (NestedKey × Addr)
def xsOf (ks : Ks) : List (NestedKey × Addr × Value) := ks.map fun p => (p.1, p.2, Value.bool true)
def ndP (P : Program) (w : World) (a : Addr) (ks : Ks) : Heap → Prop := fun h => ∃ o es ep, h.get? a = some o ∧ o.ExactDict ∧ o.data = .dict es ep ∧ es.toList = (xsOf ks).map (entryOfKey (nestedKind P w)) ∧ ((xsOf ks).map (·.1)).Nodup
def ndO (P : Program) (w : World) (a : Addr) (ks : Ks) : HO := .ext (ndP P w a ks)
/-- at a stands the dict of the keys ks -/
structure ND (P : Program) (w : World) (K : PySem.W.Frag) (H : Hp) (a : Addr) (ks : Ks) : Prop where
  at_ : H a = some (ndO P w a ks)
  sm : (a == sysModules) = false
  ln : ks.length ≤ 1000
  nv : ∀ p ∈ ks, NV K H (.ref p.2) p.1 ∧ p.1.depth ≤ 8
def putN (ks : Ks) (k : NestedKey) (b : Addr) : Ks := if (ks.any fun p => decide (p.1 = k)) = true then ks else ks ++ [(k, b)]
theorem atKey_xs (ks : Ks) (k : NestedKey) : (atKey (xsOf ks) k).isSome = ks.any fun p => decide (p.1 = k) := by
  unfold xsOf
  induction ks with
  | nil => rfl
  | cons p r ih =>
    by_cases h : p.1 = k
    · simp [atKey, h]
    · simpa [atKey, h] using ih
theorem stored_xs (ks : Ks) (k : NestedKey) (b : Addr) : storedH (xsOf ks) k b (.bool true) = xsOf (putN ks k b) := by
  unfold storedH putN
  rw [atKey_xs]
  split
  · unfold xsOf
    rw [List.map_map]
    refine List.map_congr_left fun p _ => ?_
    by_cases h : p.1 = k <;> simp [putAt, h]
  · simp [xsOf]
theorem putN_len (ks : Ks) (k : NestedKey) (b : Addr) : (putN ks k b).length ≤ ks.length + 1 := by
  unfold putN
  split
  · exact Nat.le_succ _
  · rw [List.length_append, List.length_singleton]; exact Nat.le_refl _
theorem nd_not {P : Program} {w : World} {K : PySem.W.Frag} {H : Hp} {a : Addr} {ks : Ks} (h : H a = some (ndO P w a ks)) (xs : List V) : ¬ Rd H a (.tup xs) := fun r => by
  rcases r with r | ⟨o, r⟩
  · rw [h] at r; cases r
  · rw [h] at r; cases r
section
variable {X : Cx} {pins : List (Addr × Obj)} {σ : L2.St} {H : Hp} {s : Shared} {a : Addr} {ks : Ks}
theorem nd_at (I : Inv X pins σ H s) (h : H a = some (ndO X.prog X.w a ks)) : ndP X.prog X.w a ks s.heap := by
  have z : ObjOk X.prog X.w H s.heap a (.ext (ndP X.prog X.w a ks)) := I.hok a _ h
  exact z.1
theorem nd_obj {P : Program} {w : World} {H' : Hp} {h' : Heap} (z : ndP P w a ks h') : ObjOk P w H' h' a (ndO P w a ks) := by
  obtain ⟨o, es, ep, h1, h2, h3, h4, h5⟩ := z
  exact ⟨⟨o, es, ep, h1, h2, h3, h4, h5⟩, ⟨o, h1⟩, fun g1 g2 ⟨o', es', ep', q1, q2⟩ k => ⟨o', es', ep', k _ q1, q2⟩⟩
theorem nd_dict (I : Inv X pins σ H s) (N : ND X.prog X.w X.K H a ks) : s.heap.DictOfH (nestedKind X.prog X.w) a (xsOf ks) := by
  obtain ⟨o, es, ep, h1, h2, h3, h4, h5⟩ := nd_at I N.at_
  refine ⟨o, es, ep, h1, h2, h3, h4, fun x hx => ?_, h5⟩
  unfold xsOf at hx
  obtain ⟨p, hp, rfl⟩ := List.mem_map.mp hx
  exact ⟨nv_is I p.1 (.ref p.2) (.ref p.2) (N.nv p hp).1 rfl, (N.nv p hp).2⟩
/-- what stands behind a store -/
theorem nd_put {h' : Heap} {t' : Nat} {k : NestedKey} {b : Addr} (I : Inv X pins σ H s) (N : ND X.prog X.w X.K H a ks) (hm : h'.DictOfH (nestedKind X.prog X.w) a (storedH (xsOf ks) k b (.bool true))) (hs : Heap.SameBut a s.heap h') :
    Inv X pins σ (upd H a (ndO X.prog X.w a (putN ks k b))) { s with heap := h', toks := t' } := by
  rw [stored_xs] at hm
  obtain ⟨o, es, ep, h1, h2, h3, h4, _, h5⟩ := hm
  exact d_write I (by rw [N.at_]; exact True.intro) hs ⟨o, h1⟩ (nd_obj ⟨o, es, ep, h1, h2, h3, h4, h5⟩)
theorem ND.put {P : Program} {w : World} {K : PySem.W.Frag} {k : NestedKey} {b : Addr} (N : ND P w K H a ks) (hl : ks.length < 1000) (hk : NV K H (.ref b) k) (hd : k.depth ≤ 8) : ND P w K (upd H a (ndO P w a (putN ks k b))) a (putN ks k b) := by
  have e : Tups H (upd H a (ndO P w a (putN ks k b))) := Tups.upd (nd_not (K := K) N.at_)
  refine ⟨upd_same, N.sm, Nat.le_trans (putN_len ks k b) hl, fun p hp => ?_⟩
  have hp' : p ∈ ks ∨ p = (k, b) := by
    unfold putN at hp
    split at hp
    · exact .inl hp
    · exact (List.mem_append.mp hp).imp id fun z => List.mem_singleton.mp z
  rcases hp' with hp' | rfl
  · exact ⟨NV.keep e _ _ (N.nv p hp').1, (N.nv p hp').2⟩
  · exact ⟨NV.keep e _ _ hk, hd⟩
theorem ND.keep {P : Program} {w : World} {K : PySem.W.Frag} {H' : Hp} (N : ND P w K H a ks) (e : Same H H') : ND P w K H' a ks :=
  ⟨e _ _ N.at_, N.sm, N.ln, fun p hp => ⟨NV.keep (Tups.of e) _ _ (N.nv p hp).1, (N.nv p hp).2⟩⟩
end
/-! ### rules -/
section
variable {X : Cx} {pos : Pos}
/-- {} -/
def tNdNew (P : Program) (w : World) : TE := fun _ H Q => ∀ p, H p = none → (p == sysModules) = false → Q (.ref p) (upd H p (ndO P w p []))
theorem nd_empty {P : Program} {w : World} (h : Heap) : ndP P w h.objs.size [] (h.push { cls := .type "dict", data := .dict #[] }) :=
  ⟨_, #[], 0, Heap.get?_push_size _ rfl, ⟨rfl, rfl, rfl⟩, rfl, rfl, List.nodup_nil⟩
theorem pe_ndnew : PE X (.Dict [] [] pos) (tNdNew X.prog X.w) := ⟨fun pins s σ H Q I h =>
  wpAny_Dict_empty ⟨.ref s.heap.objs.size, _, I.laid (a := s.heap.objs.size) (o := ndO X.prog X.w s.heap.objs.size []) (t' := s.toks) (fun _ _ q => Heap.get?_push_of_some _ q) (Nat.le_refl _) (nd_obj (nd_empty s.heap)), rfl,
    h _ (I.hok.fresh (Nat.le_refl _)) (beq_eq_false_iff_ne.mpr (Ne.symm (Nat.ne_of_lt I.big)))⟩⟩
theorem nd_new {P : Program} {w : World} {K : PySem.W.Frag} {H : Hp} {p : Addr} (sm : (p == sysModules) = false) : ND P w K (upd H p (ndO P w p [])) p [] := ⟨upd_same, sm, Nat.zero_le _, fun _ z => nomatch z⟩
/-- d[k] = True -/
def rNdSet (P : Program) (w : World) (K : PySem.W.Frag) : TSet := fun o i v H Q => ∃ (a b : Addr) (ks : Ks) (k : NestedKey), o = .ref a ∧ i = .ref b ∧ v = .bl true ∧ ND P w K H a ks ∧ ks.length < 1000 ∧ NV K H (.ref b) k ∧ k.depth ≤ 8 ∧ Q (upd H a (ndO P w a (putN ks k b)))
theorem set_nd (hu : X.A.units + 64 < cLine) : PSet X (rNdSet X.prog X.w X.K) := by
  intro pins s σ H o i v ov iv u Q I ro ri rv h
  obtain ⟨a, b, ks, k, rfl, rfl, rfl, N, hl, hk, hd, q⟩ := h
  cases (show ov = Value.ref a from ro)
  cases (show iv = Value.ref b from ri)
  cases (show u = Value.bool true from rv)
  have hz : (xsOf ks).length ≤ sizeLine := by
    unfold xsOf
    rw [List.length_map]
    exact Nat.le_trans N.ln (by decide)
  refine wpAny_setItem_heap (hsz := hz) (knd := nestedKind X.prog X.w) (by show X.A.units + 1 + 8 < cLine; omega) ⟨nv_is I k _ _ hk rfl, hd⟩ (nd_dict I N) fun h' hm hs => ?_
  exact ⟨_, nd_put I N hm hs, q⟩
/-- list(d) -/
def rNdList (P : Program) (w : World) (K : PySem.W.Frag) : List V → Hp → VK → Prop := fun xs H Q => ∃ (a : Addr) (ks : Ks), xs = [.ref a] ∧ ND P w K H a ks ∧ ∀ l, H l = none → Q (.ref l) (upd H l (.lst (ks.map fun p => V.ref p.2)))
theorem call_listNd (hc : X.calm = true) : CallR X (.type "list") (rNdList X.prog X.w X.K) := by
  intro pins s σ H xs us Q I r h
  obtain ⟨a, ks, rfl, N, q⟩ := h
  obtain ⟨u, rfl, ru⟩ := vals1 r
  cases (show u = Value.ref a from ru)
  obtain ⟨o, es, ep, h1, h2, h3, h4, h5⟩ := nd_at I N.at_
  have sz : es.size = ks.length := by
    rw [← Array.length_toList, h4, List.length_map]
    unfold xsOf
    rw [List.length_map]
  refine PySem.W.kdl_call (KdlSrc.rawDict (es := es) (ep := ep) N.sm) (I.ok.hd hc) ⟨o, h1, h2, h3⟩ (by rw [sz]; exact Nat.le_trans N.ln (by decide)) fun h' tk acc c kp eS it => ?_
  have rel : ∀ (js : Ks) (vs : List Value), vs = js.map (fun p => Value.ref p.2) → Vals (js.map fun p => V.ref p.2) vs := fun js => by
    induction js with
    | nil => intro vs e; subst e; exact .nil
    | cons p r ih => intro vs e; subst e; exact .cons rfl (ih _ rfl)
  have ea : acc.toList = ks.map fun p => Value.ref p.2 := by
    refine List.ext_getElem? fun j => ?_
    rw [List.getElem?_map, Array.getElem?_toList]
    have qe := entry_at h4 j
    unfold xsOf at qe
    rw [List.getElem?_map] at qe
    cases hj : acc[j]? with
    | none =>
      have g : ks.length ≤ j := by
        have := Array.getElem?_eq_none_iff.mp hj
        have e1 := it.1
        omega
      rw [List.getElem?_eq_none g]
      rfl
    | some v =>
      obtain ⟨hi, hv⟩ := it.2 j v hj
      rw [Array.getElem?_eq_getElem hi] at qe
      cases hb : ks[j]? with
      | none => rw [hb] at qe; cases qe
      | some p =>
        rw [hb] at qe
        have e2 : es[j] = entryOfKey (nestedKind X.prog X.w) (p.1, p.2, Value.bool true) := Option.some.inj qe
        rw [hv, e2]
        rfl
  have new : ObjOk X.prog X.w (upd H s.heap.objs.size (.lst (ks.map fun p => V.ref p.2))) h' s.heap.objs.size (.lst (ks.map fun p => V.ref p.2)) := by
    refine ⟨by rw [List.length_map]; exact Nat.le_trans N.ln (by decide), acc.toList, c, rel ks _ ea, ?_⟩
    rw [eS]
  exact ⟨.ref s.heap.objs.size, _, I.laid (t' := tk) kp (Nat.le_refl _) new, rfl, q _ (I.hok.fresh (Nat.le_refl _))⟩
/-- {k: True} -/
def tNdOne (P : Program) (w : World) (K : PySem.W.Frag) (tk tv : TE) : TE := fun σ H Q => ∀ p, H p = none → (p == sysModules) = false → tk σ (upd H p (ndO P w p [])) fun x H1 => tv σ H1 fun y H2 => ∃ (b : Addr) (k : NestedKey), x = .ref b ∧ y = .bl true ∧ NV K H2 (.ref b) k ∧ k.depth ≤ 8 ∧ H2 p = some (ndO P w p []) ∧ Q (.ref p) (upd H2 p (ndO P w p [(k, b)]))
theorem pe_ndone {e f : Expr} {tk tv : TE} (hu : X.A.units + 64 < cLine) (he : PE X e tk) (hf : PE X f tv) : PE X (.Dict [some e] [f] pos) (tNdOne X.prog X.w X.K tk tv) := by
  constructor
  intro pins s σ H Q I h
  have I1 : Inv X pins σ (upd H s.heap.objs.size (ndO X.prog X.w s.heap.objs.size [])) { s with heap := s.heap.push { cls := .type "dict", data := .dict #[] } } :=
    I.laid (a := s.heap.objs.size) (t' := s.toks) (fun _ _ q => Heap.get?_push_of_some _ q) (Nat.le_refl _) (nd_obj (nd_empty s.heap))
  have sm : (s.heap.objs.size == sysModules) = false := beq_eq_false_iff_ne.mpr (Ne.symm (Nat.ne_of_lt I.big))
  have run := (pps_cons (pos := pos) he hf pps_nil).run pins _ σ _ (fun ps H2 => match ps with
    | [(x, y)] => ∃ (b : Addr) (k : NestedKey), x = .ref b ∧ y = .bl true ∧ NV X.K H2 (.ref b) k ∧ k.depth ≤ 8 ∧ H2 s.heap.objs.size = some (ndO X.prog X.w s.heap.objs.size []) ∧ Q (.ref s.heap.objs.size) (upd H2 s.heap.objs.size (ndO X.prog X.w s.heap.objs.size [(k, b)]))
    | _ => False) I1 ?rd
  case rd => exact h s.heap.objs.size (I.hok.fresh (Nat.le_refl _)) sm
  rw [arm_eval_Dict, show (evalEachOpt [some e] X.env).zip ((evalEach [f] X.env).map fun v => do let x ← v; standAt pos; pure x) = (pairTrees [some e] [f] X.env pos).map fun p => (some p.1, p.2) from rfl, dictDisplay_pairs (pairTrees [some e] [f] X.env pos) (by intro z; cases z) (by show 1 < 17; decide)]
  refine wpAny_bind (wpAny_standAt (wpAny_bind (wpAny_subDictH (knd := nestedKind X.prog X.w) (Q := fun d s' => wpAny (model X.prog X.w) X.A (pure (Value.ref d)) (EP X pins σ Q) X.xe s') (by show X.A.units + 8 < cLine; omega) (by show 1 ≤ 15; decide) (wpAny_mono run ?_ fun _ _ z => z))))
  rintro vs t ⟨ps, H2, I2, rv, hps⟩
  match ps, rv, hps with
  | [(x, y)], .cons (b := v0) r1 .nil, hps =>
    obtain ⟨b, k, rfl, rfl, hk, hd, e0, q⟩ := hps
    obtain ⟨u1, u2⟩ := v0
    cases (show u1 = Value.ref b from r1.1)
    cases (show u2 = Value.bool true from r1.2)
    have N0 : ND X.prog X.w X.K H2 s.heap.objs.size [] := ⟨e0, sm, Nat.zero_le _, fun _ z => nomatch z⟩
    refine ⟨[(k, b, Value.bool true)], ⟨rfl, rfl, ⟨nv_is I2 k _ _ hk rfl, hd⟩, trivial⟩, nd_dict I2 N0, fun h' tk hm hs => wpAny_pure ?_⟩
    exact ⟨.ref s.heap.objs.size, _, nd_put (t' := tk) I2 N0 hm hs, rfl, q⟩
end
end Nd
/-! ### {k: True for x in ..} -/
namespace Nd
open PySem PySem.Spec PyProof.Rows L2
/-- one store of such a comprehension: D's dict gets the key of y -/
def NdTurn (P : Program) (w : World) (K : PySem.W.Frag) (D : Addr) (y z : V) (G : Hp) (Nx : Hp → Prop) : Prop := ∃ (b : Addr) (ks : Ks) (k : NestedKey), y = .ref b ∧ z = .bl true ∧ ND P w K G D ks ∧ ks.length < 1000 ∧ NV K G (.ref b) k ∧ k.depth ≤ 8 ∧ Nx (upd G D (ndO P w D (putN ks k b)))
/-- the comprehension: D is the new dict -/
def tNdc (P : Program) (w : World) (K : PySem.W.Frag) (wi : TI) (g : TG) (tt : TT) (tk tv : TE) (vs : List Nat) : TE := fun σ H Q => wi σ H fun J G => ∀ D, G D = none → (D == sysModules) = false →
  ∃ W : Nat → Nat → Hp → Prop, (∃ m, W 0 m (upd G D (ndO P w D []))) ∧ ∀ i m G1, W i m G1 →
    (J.stop i G1 ∧ Q (.ref D) G1) ∨ (J.go i G1 ∧ ∃ Nx : Hp → Prop, (∀ G2, Nx G2 → ∃ m', m' < m ∧ W (i + 1) m' G2) ∧ ∀ x G2, J.yld i G1 x G2 → g x (wipe σ vs) G2 fun ρ G3 => wipe ρ vs = wipe σ vs ∧ tt ρ G3 fun b G4 =>
      if b = true then tk ρ G4 fun y G5 => tv ρ G5 fun z G6 => NdTurn P w K D y z G6 Nx else Nx G4)
section
variable {X : Cx}
theorem nd_dictSet {pins : List (Addr × Obj)} {σ : L2.St} {H : Hp} {s : Shared} {E : Value → Shared → Prop} {D : Addr} {y z : V} {u r : Value} {Nx : Hp → Prop} {Q : Unit → Shared → Prop} (hu : X.A.units + 64 < cLine) (I : Inv X pins σ H s) (ry : RelV y u) (rz : RelV z r) (t : NdTurn X.prog X.w X.K D y z H Nx)
    (q : ∀ G s', Inv X pins σ G s' → Nx G → Q () s') : wpAny (model X.prog X.w) X.A (dictSet D u r) Q E s := by
  obtain ⟨b, ks, k, rfl, rfl, N, hl, hk, hd, nx⟩ := t
  cases (show u = Value.ref b from ry)
  cases (show r = Value.bool true from rz)
  have hz : (xsOf ks).length ≤ sizeLine := by
    unfold xsOf
    rw [List.length_map]
    exact Nat.le_trans N.ln (by decide)
  exact wpAny_dictSet_heap (hsz := hz) (knd := nestedKind X.prog X.w) (by show X.A.units + 8 < cLine; omega) ⟨nv_is I k _ _ hk rfl, hd⟩ (nd_dict I N) fun h' hm hs => q _ _ (nd_put I N hm hs) nx
theorem pe_ndc {kx vx tg iter : Expr} {ifs : List Expr} {scope : Scope} {own : List (Str × Nat)} {pos : Pos} {wi : TI} {g : TG} {tt : TT} {tk tv : TE} (hc : X.calm = true) (hN : X.N.Nodup) (hu : X.A.units + 64 < cLine) (hi : PI X tg iter wi) (ok : BlkOk X.N X.env.scope scope own)
    (hg : ∀ (s : Shared) (H : Hp) (C : Addr) (cl : List (Str × Addr)) (fp : List Addr), PG (X.blk s H scope (compEnvC scope cl C X.env) fp) tg g)
    (ht : ∀ (s : Shared) (H : Hp) (C : Addr) (cl : List (Str × Addr)) (fp : List Addr), PTs (X.blk s H scope (compEnvC scope cl C X.env) fp) ifs tt)
    (hk : ∀ (s : Shared) (H : Hp) (C : Addr) (cl : List (Str × Addr)) (fp : List Addr), PE (X.blk s H scope (compEnvC scope cl C X.env) fp) kx tk)
    (hv : ∀ (s : Shared) (H : Hp) (C : Addr) (cl : List (Str × Addr)) (fp : List Addr), PE (X.blk s H scope (compEnvC scope cl C X.env) fp) vx tv) (hs : ∀ x, foldedSetIterable iter X.env x = pure x := by intro _; rfl) :
    PE X (.DictComp kx vx [⟨tg, iter, ifs, 0⟩] scope pos) (tNdc X.prog X.w X.K wi g tt tk tv (own.map (·.2))) := by
  constructor
  intro pins s σ H Q I hrd
  rw [arm_eval_DictComp]
  have frees : ∀ y ∈ scope.names, y.2 = .free → ∃ c, X.env.cells.lookup y.1 = some c := fun y hy e => (ok.free y hy e).elim (fun z => I.ok.has _ (.inl z)) fun z => I.ok.has _ (.inr z)
  refine wpAny_comprehension_free rfl hs (closure_ok frees) ok.kind (fun y hy e => by rw [ok.uniq y hy, e]) (thn (hi.run pins s σ H _ I hrd) fun xv t1 hx => thn hx ?_)
  rintro itv t2 ⟨it, fp, tn, J, G, rfl, I2, T, st2, f2, q⟩
  refine wpAny_newObj_type (newEnv_comp ?_)
  have sm : (t2.heap.objs.size == sysModules) = false := beq_eq_false_iff_ne.mpr (Ne.symm (Nat.ne_of_lt I2.big))
  obtain ⟨W, ⟨m0, w0⟩, turn⟩ := q t2.heap.objs.size (I2.hok.fresh (Nat.le_refl _)) sm
  have I3 : Inv X pins σ (upd G t2.heap.objs.size (ndO X.prog X.w t2.heap.objs.size [])) { t2 with heap := t2.heap.push { cls := .type "dict", data := .dict #[] } } :=
    I2.laid (t' := t2.toks) (fun b o e => Heap.get?_push_of_some _ e) (Nat.le_refl _) (nd_obj (nd_empty t2.heap))
  generalize hD : t2.heap.objs.size = D at w0 turn I3 sm ⊢
  generalize ht3 : ({ t2 with heap := t2.heap.push { cls := .type "dict", data := .dict #[] } } : Shared) = t3 at I3
  have e3 : t3.heap = t2.heap.push { cls := .type "dict", data := .dict #[] } := by rw [← ht3]
  have old : ∀ b ∈ fp, b < t2.heap.objs.size := fun b hb => by
    obtain ⟨o, e, _⟩ := T.obj _ _ st2 b hb
    exact Heap.lt_size e
  have f3 : ∀ b ∈ fp, FpOk X pins (upd G D (ndO X.prog X.w D [])) b ∧ b < t3.heap.objs.size := fun b hb => by
    have lt := old b hb
    refine ⟨⟨?_, (f2 b hb).2⟩, by rw [e3, Heap.size_push]; exact Nat.lt_succ_of_lt lt⟩
    rw [upd_ne (by rw [← hD]; exact Nat.ne_of_lt lt)]
    exact (f2 b hb).1
  have st3 : tn 0 t3.heap := T.keep _ _ _ st2 fun b _ o e => by rw [e3]; exact Heap.get?_push_of_some _ e
  have I4 := block_start I3 ok hN f3
  have pg := hg t3 (upd G D (ndO X.prog X.w D [])) t3.heap.objs.size (cellsFrom (t3.heap.objs.size + 1) scope.names (cloFrom X.env.cells scope.names [])) fp
  have pt := ht t3 (upd G D (ndO X.prog X.w D [])) t3.heap.objs.size (cellsFrom (t3.heap.objs.size + 1) scope.names (cloFrom X.env.cells scope.names [])) fp
  have pk := hk t3 (upd G D (ndO X.prog X.w D [])) t3.heap.objs.size (cellsFrom (t3.heap.objs.size + 1) scope.names (cloFrom X.env.cells scope.names [])) fp
  have pv := hv t3 (upd G D (ndO X.prog X.w D [])) t3.heap.objs.size (cellsFrom (t3.heap.objs.size + 1) scope.names (cloFrom X.env.cells scope.names [])) fp
  show codeAny _ _ (.compStart (.DictComp kx vx [⟨tg, iter, ifs, 0⟩] scope pos) 0 (.ref it) (.ref D) (compEnvC scope (cellsFrom (t3.heap.objs.size + 1) scope.names (cloFrom X.env.cells scope.names [])) t3.heap.objs.size X.env))
    (compPost (model X.prog X.w) X.A X.xe _ _ (.ref D) t3.heap.objs.size) { t3 with heap := pushCells (t3.heap.push { cls := .type "dict", data := .dict #[] }) scope.names }
  have apart : ∀ b ∈ fp, (upd G D (ndO X.prog X.w D [])) b = none := fun b hb => (f3 b hb).1.1
  generalize hce : compEnvC scope (cellsFrom (t3.heap.objs.size + 1) scope.names (cloFrom X.env.cells scope.names [])) t3.heap.objs.size X.env = ce at I4 pg pt pk pv ⊢
  have cL : ce.locals = t3.heap.objs.size := by subst hce; rfl
  generalize hG3 : upd G D (ndO X.prog X.w D []) = G3 at I3 I4 pg pt pk pv w0 apart f3
  generalize ht4 : ({ t3 with heap := pushCells (t3.heap.push { cls := .type "dict", data := .dict #[] }) scope.names } : Shared) = t4 at I4 ⊢
  have st4 : tn 0 t4.heap := T.keep _ _ _ st3 fun b _ o e => by rw [← ht4]; exact pushCells_keeps _ _ _ _ (Heap.get?_push_of_some _ e)
  have still : ∀ {ρ : L2.St} {G' : Hp} {t' : Shared}, Inv (X.blk t3 G3 scope ce fp) [] ρ G' t' → (∀ b ∈ fp, G' b = none) → ∀ b ∈ fp, FpOk (X.blk t3 G3 scope ce fp) [] G' b := fun {ρ G' t'} I' hn b hb =>
    ⟨hn b hb, (I'.ok.exf b hb).1, I'.ok.exfs b hb, .inl hb, fun x c e => (I'.ok.exf b hb).2 x c e, fun p hp => absurd (show p ∈ ([] : List (Addr × Obj)) ++ [] from hp) (by simp)⟩
  refine codeAny_compStart_dict ?loop (T.self X.A 0 _ _ _ st4 ?loop)
  refine compLoop_anyD (fun n t' => ∃ i G', Inv (X.blk t3 G3 scope ce fp) [] (wipe σ (own.map (·.2))) G' t' ∧ tn i t'.heap ∧ (∀ b ∈ fp, G' b = none) ∧ W i n G') ?_ m0 ⟨0, G3, I4, st4, apart, w0⟩
  rintro n t5 ⟨i, G5, I5, st5, n5, w5⟩
  rcases turn i n G5 w5 with ⟨stop, fin⟩ | ⟨go, Nx, hNx, step⟩
  · refine thnF (T.done (X.blk t3 G3 scope ce fp) rfl rfl rfl hc i [] t5 _ G5 (fun _ _ => False) I5 (still I5 n5) st5 stop) ?_
    rintro r t6 ⟨rfl, I6⟩
    have I7 : Inv X pins σ G5 t6 := I3.call' (ch := fp) I6.os I6.base I6.hok I6.bare fun b hb => ⟨(f3 b hb).1.2.2.2.1, (f3 b hb).1.2.1, (f3 b hb).1.2.2.2.2.1, (f3 b hb).1.2.2.2.2.2⟩
    have nC : G5 t3.heap.objs.size = none := by
      have z : G5 ce.locals = none := I6.free
      rw [cL] at z
      exact z
    obtain ⟨m, hn, _⟩ := I6.loc
    have hn' : t6.heap.Ns ce.locals m := hn
    rw [cL] at hn'
    obtain ⟨f0, f1, f2', f3', f4, f5⟩ := I3.fpOk (Nat.le_refl _) nC
    exact ⟨m, hn', fun h'' sb => ⟨.ref D, G5, I7.turned (t' := t6.toks) (fun b o hb e => (sb.2 b hb).trans e) f0 f1 f3' f4 f5, rfl, fin⟩⟩
  · refine thnF (T.item (X.blk t3 G3 scope ce fp) rfl rfl rfl hc i [] t5 _ G5 (fun _ _ => False) I5 (still I5 n5) st5 go) ?_
    rintro r t6 ⟨u, rfl, h6⟩
    refine thnF h6 ?_
    rintro _ t7 ⟨x, G7, I7, r7, y7, st7, n7⟩
    refine thnF (pg.run _ t7 _ G7 x u _ (I7.pinned (still I7 n7) (T.obj _ _ st7)) r7 (step x G7 y7)) ?_
    rintro _ t8 ⟨ρ, G8, I8, hw8, q8⟩
    refine thnF (pt.run _ t8 ρ G8 _ I8 q8) ?_
    rintro b t9 ⟨G9, I9, q9⟩
    have back : ∀ {t' : Shared} {G' : Hp}, Inv (X.blk t3 G3 scope ce fp) ([] ++ pinsAt fp t7.heap) ρ G' t' → Nx G' → ∃ m, m < n ∧ ∃ i G', Inv (X.blk t3 G3 scope ce fp) [] (wipe σ (own.map (·.2))) G' t' ∧ tn i t'.heap ∧ (∀ b ∈ fp, G' b = none) ∧ W i m G' := fun {t' G'} I' nx => by
      obtain ⟨m', lt, w'⟩ := hNx G' nx
      have pinned : ∀ b ∈ fp, ∀ o, t7.heap.get? b = some o → t'.heap.get? b = some o ∧ G' b = none := fun b hb o e =>
        ⟨(I'.pin (b, o) (List.mem_append_right _ (List.mem_append_right _ (mem_pinsAt hb e)))).1, (I'.pin (b, o) (List.mem_append_right _ (List.mem_append_right _ (mem_pinsAt hb e)))).2.1⟩
      refine ⟨m', lt, i + 1, G', (I'.unpinned (pins := [])).weak (by rw [← hw8, wipe_length]) (fun j v e => ?_), T.keep _ _ _ st7 fun b hb o e => (pinned b hb o e).1, fun b hb => ?_, w'⟩
      · rw [← hw8] at e
        exact (wipe_some e).1
      · obtain ⟨o, e, _⟩ := T.obj _ _ st7 b hb
        exact (pinned b hb o e).2
    cases b with
    | false =>
      simp only [Bool.false_eq_true, if_false] at q9 ⊢
      exact back I9 q9
    | true =>
      simp only [if_true] at q9 ⊢
      refine thnF (pk.run _ t9 ρ G9 _ I9 q9) ?_
      rintro z t10 ⟨yk, G10, I10, r10, q10⟩
      refine thnF (pv.run _ t10 ρ G10 _ I10 q10) ?_
      rintro z2 t11 ⟨yv, G11, I11, r11, nt⟩
      exact nd_dictSet (X := X.blk t3 G3 scope ce fp) hu I11 r10 r11 nt fun G12 t12 I12 nx => back I12 nx
end
end Nd
/-! ### truth, comprehensions -/
namespace Nd
open PySem PySem.Spec PyProof.Rows L2
section
variable {prog : Program} {w : World} {KK : Type} [DecidableEq KK] {knd : HeapKind prog w KK} {A : Around} {E : Value → Shared → Prop} {s : Shared}
theorem truthy_keyed {d : Addr} {xs : List (KK × Addr × Value)} {Q : Bool → Shared → Prop} (sm : (d == sysModules) = false) (hm : s.heap.DictOfH knd d xs) (fit : (xs.length : Int) < 2 ^ 63) (h : Q (!xs.isEmpty) { s with toks := s.toks + 1 + 1 }) :
    wpAny (model prog w) A (truthy (.ref d)) Q E s := by
  have same : ((xs.length : Int) != 0) = !xs.isEmpty := by cases xs <;> simp <;> omega
  have ln : wpAny (model prog w) A (runValue (.builtin "len" ⟨[.ref d], []⟩)) (fun r t => r = .int xs.length (s.toks + 1) ∧ Q (!xs.isEmpty) t) E s := by
    refine wpAny_runValue (codeAny_builtin PySem.entry_len ?_)
    rw [Around.under_plainId PySem.plain_len _]
    refine wpAny_mono (wpAny_len_body_dictH (Q := fun r t => r = .int xs.length (s.toks + 1) ∧ Q (!xs.isEmpty) t) sm hm fit ⟨rfl, h⟩) ?_ fun _ _ z => z
    rintro fin t ⟨r, rfl, q⟩
    exact q
  unfold truthy
  first
    | refine wpAny_bind (wpAny_callSpecial?_none (name := Str.ofString "__bool__") hm.typeIs noBool_dict ?_)
    | refine wpAny_bind (wpAny_pure (wpAny_bind (wpAny_callSpecial?_none (name := Str.ofString "__bool__") hm.typeIs noBool_dict ?_)))
  first
    | refine wpAny_bind (wpAny_specialOf (name := Str.ofString "__len__") hm.typeIs F.slot_dict_len.lookup ?_)
    | refine wpAny_bind (wpAny_pure (wpAny_bind (wpAny_specialOf (name := Str.ofString "__len__") hm.typeIs F.slot_dict_len.lookup ?_)))
  have fin : ∀ r t, (r = Value.int xs.length (s.toks + 1) ∧ Q (!xs.isEmpty) t) → Q ((xs.length : Int) != 0) t := fun r t z => same ▸ z.2
  first
    | exact wpAny_bind (wpAny_mono ln (fun r t z => by obtain ⟨rfl, _⟩ := id z; exact wpAny_pure (fin _ t z)) fun _ _ z => z)
    | exact wpAny_bind (wpAny_pure (wpAny_bind (wpAny_mono ln (fun r t z => by obtain ⟨rfl, _⟩ := id z; exact wpAny_pure (fin _ t z)) fun _ _ z => z)))
end
section
variable {X : Cx}
/-- a test that is the dict's truth -/
def tNdTru (P : Program) (w : World) (K : PySem.W.Frag) (ta : TE) : TT := fun σ H Q => ta σ H fun x G => ∃ (a : Addr) (ks : Ks), x = .ref a ∧ ND P w K G a ks ∧ Q (!ks.isEmpty) G
theorem pt_nd {e : Expr} {te : TE} (he : PE X e te) (hi : ∀ whole, isTrue e X.env whole = (do let v ← whole; standAt e.pos; holding [v] (truthy v)) := by intro _; rfl) : PT X e (tNdTru X.prog X.w X.K te) := by
  constructor
  intro pins s σ H Q I h
  refine isTrue_plain (thn (he.run pins s σ H _ I h) ?_) (hi _)
  rintro v t ⟨x, G, J, r, a, ks, rfl, N, q⟩
  cases (show v = Value.ref a from r)
  have e1 : (xsOf ks).length = ks.length := by unfold xsOf; rw [List.length_map]
  have e2 : (xsOf ks).isEmpty = ks.isEmpty := by cases ks <;> rfl
  have ln := N.ln
  exact truthy_keyed N.sm (nd_dict J N) (by omega) ⟨G, J.tok _, by rw [e2]; exact q⟩
end
end Nd
/-! ## enumerate(xs, start=k), min(xs, default=d) of nothing, what is never reached -/
namespace Nd
open PySem PySem.Spec PyProof.Rows L2
theorem pe_no {X : Cx} {e : Expr} : PE X e (fun _ _ _ => False) := ⟨fun _ _ _ _ _ _ h => h.elim⟩
/-- the list at a, each item in a new pair with its number from k on -/
def ItS (K : PySem.W.Frag) (a : Addr) (k : Int) : It :=
  ⟨fun i G => ∃ (xs : List V) (x : V), SqL K G a xs ∧ xs[i]? = some x, fun i G v G' => ∃ T x, v = .ref T ∧ G T = none ∧ G' = upd G T (.tup [.int (k + (i : Int)), x]) ∧ ∀ xs, SqL K G a xs → xs[i]? = some x, fun i G => ∃ xs : List V, SqL K G a xs ∧ xs.length = i⟩
theorem turn_from {P : Program} {w : World} {K : PySem.W.Frag} {elts : List Expr} {kk : Nat} {tpos : Pos} (a e it : Addr) (k : Int) :
    Turn P w K (.Tuple elts kk tpos) (ItS K a k) [e, it] e (fun i h => (∃ o, IsEnum h e it (k + (i : Int)) o) ∧ h.IsListIter it a i ∧ e ≠ it) where
  mem := List.mem_cons_self
  obj := by
    rintro i h ⟨⟨o, he⟩, ⟨ob, ho, hc, hd⟩, _⟩ b hb
    rcases List.mem_cons.mp hb with rfl | hb
    · exact ⟨_, he, fun v z => nomatch z⟩
    · cases List.mem_singleton.mp hb
      exact ⟨ob, ho, fun v z => by rw [hd] at z; cases z⟩
  keep := fun i h h' ⟨⟨o, he⟩, hi, ne⟩ st => ⟨⟨o, st e (by simp) _ he⟩, hi.at fun ob z => st it (by simp) ob z, ne⟩
  item := by
    intro X hP hw hK hc i pins s σ H E I hf st hg
    subst hP hw hK
    obtain ⟨⟨o, he⟩, hit, ne⟩ := st
    obtain ⟨xs, x, hq, hx⟩ := hg
    obtain ⟨its, rv, p, hz⟩ := I.list hq
    obtain ⟨u, hu, ru⟩ := rv.get hx
    have le : e < s.heap.objs.size := Heap.lt_size he
    have li : it < s.heap.objs.size := by obtain ⟨_, q, _⟩ := hit; exact Heap.lt_size q
    have ha := p.isList
    have nai : a ≠ it := fun z => by
      obtain ⟨o1, q1, c1, _⟩ := ha
      obtain ⟨o2, q2, c2, _⟩ := hit
      rw [z, q2] at q1
      cases q1
      rw [c1] at c2
      exact absurd (Value.type.inj c2) (by decide)
    have nae : e ≠ a := fun z => by
      obtain ⟨o1, q1, c1, _⟩ := ha
      rw [← z, he] at q1
      cases q1
      exact absurd (Value.type.inj (show Value.type "enumerate" = Value.type "list" from c1)) (by decide)
    have lt : i < its.toArray.size := by
      have := (List.getElem?_eq_some_iff.mp hu).1
      simpa using this
    refine wpAny_pyNext_enum_itemC (Draws.list (A := X.A.in1) (I.ok.hd hc) it a nai its.toArray) he ⟨hit, ha⟩ lt ne (by simp [ne, nae]) fun y h' tk hy ho hst hT hsz stay => ?_
    have ey : y = u := by
      have z : its.toArray[i]? = some y := hy
      rw [List.getElem?_toArray, hu] at z
      exact (Option.some.inj z).symm
    subst ey
    refine ⟨_, rfl, wpAny_letOwnedTupleGo_enum (s := { s with heap := h', toks := tk + 1 }) ho fun h2 he2 sb => ?_⟩
    have hT2 : h2.get? s.heap.objs.size = some { cls := .type "tuple", data := .seq #[.int (k + (i : Int)) tk, y] } := (sb.2 _ (Nat.ne_of_gt le)).trans hT
    have new : ObjOk X.prog X.w (upd H s.heap.objs.size (.tup [.int (k + (i : Int)), x])) h2 s.heap.objs.size (.tup [.int (k + (i : Int)), x]) :=
      ⟨by show 2 ≤ sizeLine; decide, [.int (k + (i : Int)) tk, y], .cons ⟨_, rfl⟩ (.cons ru .nil), ⟨_, hT2, rfl, _, rfl⟩⟩
    have I1 : Inv X pins σ (upd H s.heap.objs.size (.tup [.int (k + (i : Int)), x])) { s with heap := h2, toks := tk + 1 } :=
      I.turnedNew (ch := [e, it]) (fun b ob hb q => (sb.2 b (fun z => hb (by simp [z]))).trans (stay b ob (fun z => hb (by simp [z])) (fun z => hb (by simp [z])) q)) hf (Nat.le_refl _) new
    refine ⟨.ref s.heap.objs.size, _, I1, rfl, ⟨_, x, rfl, I.hok.fresh (Nat.le_refl _), rfl, fun ys hy' => by rw [I.list_inj hy' hq]; exact hx⟩, ⟨⟨y, ?_⟩, hst.1.at fun ob q => (sb.2 it (Ne.symm ne)).trans q, ne⟩, fun b hb => ?_⟩
    · rw [show k + ((i + 1 : Nat) : Int) = k + (i : Int) + 1 by omega]; exact he2
    · have lb : b < s.heap.objs.size := by
        rcases List.mem_cons.mp hb with rfl | hb
        · exact le
        · cases List.mem_singleton.mp hb; exact li
      rw [upd_ne (Nat.ne_of_lt lb)]
      exact (hf b hb).1
  done := by
    intro X hP hw hK hc i pins s σ H E I hf st hg
    subst hP hw hK
    obtain ⟨⟨o, he⟩, hit, ne⟩ := st
    obtain ⟨xs, hq, hx⟩ := hg
    obtain ⟨its, rv, p, hz⟩ := I.list hq
    obtain ⟨f0, f1, f2, f3, f4, f5⟩ := hf it (by simp)
    have hl := rv.length
    have ha := p.isList
    have nai : a ≠ it := fun z => by
      obtain ⟨o1, q1, c1, _⟩ := ha
      obtain ⟨o2, q2, c2, _⟩ := hit
      rw [z, q2] at q1
      cases q1
      rw [c1] at c2
      exact absurd (Value.type.inj c2) (by decide)
    have sz : its.toArray.size = i := by
      rw [List.size_toArray, ← hl]
      exact hx
    exact wpAny_pyNext_enum_endD (Draws.list (A := X.A.in1) (I.ok.hd hc) it a nai its.toArray) he ⟨by rw [sz]; exact hit, ha⟩ fun h' eb => ⟨rfl, I.turned (t' := s.toks) (fun b o hb q => eb b o hb q) f0 f1 f3 f4 f5⟩
  self := fun A i s Q E ⟨⟨_, he⟩, _⟩ h => wpAny_pyIter_enum he h
def iFrom (K : PySem.W.Frag) (k : Int) (ta : TA) : TI := fun σ G R => ta σ G fun vs G1 => ∃ a xs, vs = [.ref a] ∧ SqL K G1 a xs ∧ R (ItS K a k) G1
section
variable {X : Cx}
/-- a built-in class called with keywords -/
theorem callWith_tyK {M : Model} {A : Around} {E : Value → Shared → Prop} {s : Shared} {env : Env} {pos : Pos} {T : String} {e : Expr} {rest : List Expr} {kws : List Keyword} {Q : Value → Shared → Prop}
    (h : wpAny M A (spliced (backTo pos (starEach (e :: rest) env))) (fun vs t1 => wpAny M A (evalAll ((backToKw pos (keywordEach kws env)).map (·.2))) (fun zs t2 => wpAny M A (call (.type T) vs (((backToKw pos (keywordEach kws env)).filterMap (·.1)).zip zs)) Q E t2) E t1) E s)
    (h1 : backTo pos (starEach (e :: rest) env) = (false, eval e env) :: backTo pos (starEach rest env)) (h2 : (backTo pos (starEach (e :: rest) env)).any (·.1) = false) (h3 : (backToKw pos (keywordEach kws env)).all (·.1.isSome) = true) (h4 : (backToKw pos (keywordEach kws env)).any (·.1.isNone) = false) :
    wpAny M A (callWith pos (.type T) [] (backTo pos (starEach (e :: rest) env)) (backToKw pos (keywordEach kws env))) Q E s := by
  unfold callWith
  rw [h1] at h ⊢
  refine wpAny_bind (wpAny_holding (wpAny_mono (PyProof.Rows.evalArgs_kwB (Q := fun a t => wpAny M A (call (.type T) a.pos a.kw) Q E t) h3 h) (fun a t1 q => wpAny_bind (wpAny_standAt ?_)) fun _ _ z => z))
  rw [← h1]
  simp only [h2, h4, Bool.or_false]
  refine wpAny_bind (wpAny_pure ?_)
  exact wpAny_bind (wpAny_mono q (fun r t2 hr => wpAny_bind (wpAny_holding (wpAny_point (wpAny_pure hr)))) fun _ _ z => z)
/-- enumerate(e, start=k), k written -/
theorem pi_from {e : Expr} {ta : TA} {p pos tpos p2 p3 : Pos} {elts : List Expr} {kk j : Nat} {k : Int} (hm : X.mg "enumerate" = none) (h0 : -(2 ^ 63) ≤ k) (h1 : k < 2 ^ 63) (ha : PA X [e] ta) (hg : Gl X "enumerate" := by rfl)
    (g1 : backTo pos (starEach [e] X.env) = (false, eval e X.env) :: backTo pos (starEach [] X.env) := by rfl) (g2 : (backTo pos (starEach [e] X.env)).any (·.1) = false := by rfl) :
    PI X (.Tuple elts kk tpos) (.Call (.Name "enumerate" p) [e] [⟨some "start", .Constant (.int k) j p2, p3⟩] pos) (iFrom X.K k ta) := by
  constructor
  intro pins s σ H R I h
  refine wpAny_Call_Name_kw (ld_blt I hg hm boot_enumerate ?_ (by decide) (by decide))
  refine callWith_tyK (thn (ha.run pos pins s σ H _ I h) ?_) g1 g2 rfl rfl
  rintro us t1 ⟨vs, G1, I1, r1, a, xs, rfl, hq, q⟩
  have hk : PK X [⟨some "start", .Constant (.int k) j p2, p3⟩] (tCons (tC (.int k)) tNil) := pk_cons pe_int pk_nil
  refine thn (hk.run pos pins t1 σ G1 (fun zs G2 => zs = [.int k] ∧ G2 = G1) I1 ⟨rfl, rfl⟩) ?_
  rintro ws t2 ⟨zs, G2, I2, r2, rfl, rfl⟩
  match us, r1, ws, r2 with
  | [u], .cons ru .nil, [z], .cons rz .nil =>
    cases (show u = Value.ref a from ru)
    obtain ⟨tk, rfl⟩ := (show ∃ t, z = Value.int k t from rz)
    obtain ⟨its, rv, pl, hz⟩ := I2.list hq
    refine enum_begins_start (begins_list a its.toArray) pl.isList h0 h1 fun h' he hit hsz hkeep => wpAny_pyIter_enum he ?_
    have I3 : Inv X pins σ G2 { t2 with heap := h' } := I2.kept (t' := t2.toks) hkeep
    refine ⟨t2.heap.objs.size + 1, [t2.heap.objs.size + 1, t2.heap.objs.size], _, _, G2, rfl, I3, turn_from a (t2.heap.objs.size + 1) t2.heap.objs.size k, ⟨⟨.none, ?_⟩, ⟨_, hit, rfl, rfl⟩, Nat.succ_ne_self _⟩, fun b hb => ?_, q⟩
    · rw [show k + ((0 : Nat) : Int) = k by omega]; exact he
    · have le : t2.heap.objs.size ≤ b := by
        rcases List.mem_cons.mp hb with rfl | hb
        · exact Nat.le_add_right _ _
        · cases List.mem_singleton.mp hb; exact Nat.le_refl _
      exact I2.fpOk le (I2.hok.fresh le)
/-- min([], default=d) -/
theorem call_min0 (hc : X.calm = true) (hu : X.A.units + 64 < cLine) : CallRK X (.builtin "min") ["default"] (fun xs zs G Q => ∃ a d, xs = [.ref a] ∧ zs = [d] ∧ SqL X.K G a [] ∧ Q d G) := by
  intro pins s σ H xs zs us ws Q I r1 r2 h
  obtain ⟨a, d, rfl, rfl, hq, q⟩ := h
  match us, r1, ws, r2 with
  | [u], .cons ru .nil, [z], .cons rz .nil =>
    cases (show u = Value.ref a from ru)
    obtain ⟨its, rv, pl, hz⟩ := I.list hq
    cases rv
    refine PySem.W.min_list_default (xs := []) (as := []) (I.ok.hd hc) pl.isList .nil ⟨fun _ z => (List.not_mem_nil z).elim, fun _ z => (List.not_mem_nil z).elim⟩ (by simp only [PyData.depthAll]; omega) (fun _ h' tk k => ⟨d, H, I.kept (t' := tk) k, rz, q⟩) (fun y ys i v h' tk bs e => nomatch e)
end
end Nd
/-! ## len(o), o[i], o == p, o != p of an own class with its own methods -/
namespace Dun
open PySem PySem.Spec PyProof.Rows L2
section
variable {X : Cx} {n : Nat} {CX : CXT} {C f : Addr} {fd : FuncData} {ps : List Str} {sp : Sp} {E : XK}
/-- a def called at some room below -/
theorem run_at {A : Around} {pins : List (Addr × Obj)} {σ : L2.St} {H : Hp} {s : Shared} {Q : VK} {us : List Value} {vs : List V} (F : FnOk X.prog X.w X.K X.mg X.base CX n f fd ps sp) (sb : L2.Sub X n A) (hb : Binds X.K fd ps []) (hx : Passes CX X E)
    (I : Inv X pins σ H s) (r : Vals vs us) (h : sp vs H Q E) : wpAny (model X.prog X.w) A (call (.ref f) us) (EP X pins σ Q) X.xe s := by
  have hl : us.length = ps.length := by rw [← r.length]; exact F.len _ _ _ _ h
  have e0 : Env0 X.prog X.w X.K X.mg X.base A X.stack s H := by
    have e := I.env0
    exact ⟨by rw [sb.fr]; exact e.frames, e.mod, e.bs, e.bsz, e.funs, e.frf, e.hok, e.bare⟩
  refine wpAny_call (codeAny_mono (F.run A X.stack s H ⟨us, []⟩ us vs Q E sb.room e0 (by
    have z := hb s us I.kIn (by simpa using hl)
    simpa using z) r h) fun r s' hq => ?_)
  cases r with
  | error e => exact hx pins σ H s e s' I hq
  | ok fl =>
    cases fl with
    | ret u => exact I.after hq
    | next => exact False.elim hq
    | brk => exact False.elim hq
    | cont => exact False.elim hq
theorem cmp_back {pins : List (Addr × Obj)} {σ : L2.St} {Q : VK} {v : Value} {s' : Shared} (h : EP X pins σ Q v s') : PySem.W.CmpBack (EP X pins σ Q) v s' := by
  obtain ⟨z, H', I, r, q⟩ := h
  cases v with
  | notImplemented => cases z <;> first | exact (nomatch (show Value.notImplemented = _ from r)) | (obtain ⟨t, e⟩ := r; cases e) | cases r
  | _ => exact ⟨z, H', I, r, q⟩
/-- a dunder of the class at C is the def at f -/
structure Dn (K : PySem.W.Frag) (C : Addr) (nm : Str) (f : Addr) : Prop where
  hs : PySem.W.findIn K (.ref C) nm = some (some (.ref f))
  hf : PySem.W.isFn K (.ref f) = true
  fn : PySem.W.fnIn K f = true
/-- o[i] -/
def tIxO (C : Addr) (sp : Sp) (E : XK) (ta tb : TE) : TE := fun σ H Q => ta σ H fun x H1 => tb σ H1 fun y H2 => ∃ a dx fs, x = .ref a ∧ H2 a = some (.ins C dx fs) ∧ sp [.ref a, y] H2 Q E
theorem pe_ixO {a b : Expr} {ta tb : TE} {pos : Pos} (F : FnOk X.prog X.w X.K X.mg X.base CX n f fd ps sp) (hr : Room (n + 1) X.A) (d : Dn X.K C "__getitem__" f) (hb : Binds X.K fd ps []) (hx : Passes CX X E) (ha : PE X a ta) (hi : PE X b tb)
    (hsl : ∀ o i, subscripted b true o i = runValue (.builtin "lifetime.subscript" ⟨[o, i], []⟩) := by intro _ _; rfl) :
    PE X (.Subscript a b pos) (tIxO C sp E ta tb) := by
  refine ⟨fun pins s σ H Q I h => ?_⟩
  refine Subscript_ (binT ha hi I h fun v u s2 x y H2 I2 rx ry q => ?_)
  obtain ⟨p, dx, fs, rfl, hp, q⟩ := q
  cases (show v = Value.ref p from rx)
  obtain ⟨mA, J, _⟩ := ins_get I2.hok hp
  obtain ⟨od, J, _⟩ := J.look
  obtain ⟨m, hF⟩ := I2.fr
  exact PySem.W.sub_K hF I2.ok.mod.kin J d.hs d.fn d.hf (run_at (A := X.A.in1) F ⟨hr.in1, rfl⟩ hb hx I2 (.cons (show L2.RelV (.ref p) (.ref p) from rfl) (.cons ry .nil)) q) (hsl _ _)
/-- len(o) -/
theorem call_lenO (F : FnOk X.prog X.w X.K X.mg X.base CX n f fd ps sp) (hr : Room (n + 1) X.A) (d : Dn X.K C "__len__" f) (hb : Binds X.K fd ps []) (hx : Passes CX X E) :
    CallR X (.builtin "len") (fun xs H Q => ∃ a dx fs, xs = [.ref a] ∧ H a = some (.ins C dx fs) ∧ sp [.ref a] H (fun v H' => ∃ z : Int, v = .int z ∧ 0 ≤ z ∧ z < 2 ^ 63 ∧ Q (.int z) H') E) := by
  intro pins s σ H xs us Q I r h
  obtain ⟨a, dx, fs, rfl, ha, q⟩ := h
  obtain ⟨u, rfl, ru⟩ := vals1 r
  cases (show u = Value.ref a from ru)
  obtain ⟨mA, J, _⟩ := ins_get I.hok ha
  obtain ⟨od, J, _⟩ := J.look
  obtain ⟨m, hF⟩ := I.fr
  refine PySem.W.len_K hF I.ok.mod.kin J d.hs d.hf (wpAny_mono (run_at (A := X.A.in1) F ⟨hr.in1, rfl⟩ hb hx I (.cons (show L2.RelV (.ref a) (.ref a) from rfl) .nil) q) (fun v s' hv => ?_) fun _ _ z => z)
  obtain ⟨_, H', I', rv, z, rfl, z0, z1, qz⟩ := hv
  obtain ⟨t, rfl⟩ := (show ∃ t, v = Value.int z t from rv)
  exact ⟨⟨z0, z1⟩, .int z, H', I'.tok _, ⟨_, rfl⟩, qz⟩
/-- what stands on the right -/
inductive Rt (K : PySem.W.Frag) (H : Hp) (C : Addr) : V → Prop
  | own {b dy : Addr} {gs : List (Str × V)} (h : H b = some (.ins C dy gs)) : Rt K H C (.ref b)
  | str (x : Str) (h : PySem.W.subIn K (.type "str") (.ref C) = some false) : Rt K H C (.str x)
theorem rt_looks {pins : List (Addr × Obj)} {σ : L2.St} {H : Hp} {s : Shared} {y : V} {u : Value} (I : Inv X pins σ H s) (r : RelV y u) (h : Rt X.K H C y) : ∃ tb, PySem.W.Looks (model X.prog X.w) s.heap (typeOf u) tb ∧ PySem.W.notFirst X.K C tb = true := by
  cases h with
  | @own b dy gs h =>
    cases (show u = Value.ref b from r)
    obtain ⟨mB, J, _⟩ := ins_get I.hok h
    obtain ⟨od, J, _⟩ := J.look
    exact ⟨_, J.type, by simp [PySem.W.notFirst]⟩
  | str x h =>
    obtain ⟨t, rfl⟩ := (show ∃ t, u = Value.str x t from r)
    refine ⟨.type "str", PySem.W.Looks.of_pure rfl, ?_⟩
    unfold PySem.W.notFirst
    rw [h]
    simp
def rEqO (K : PySem.W.Frag) (C : Addr) (sp : Sp) (E : XK) : R2 := fun x y H Q => ∃ a dx fs, x = .ref a ∧ H a = some (.ins C dx fs) ∧ Rt K H C y ∧ sp [.ref a, y] H Q E
theorem op_eqO (F : FnOk X.prog X.w X.K X.mg X.base CX n f fd ps sp) (hr : Room n X.A) (d : Dn X.K C "__eq__" f) (hb : Binds X.K fd ps []) (hx : Passes CX X E) : OpR X (compareOp .Eq) (rEqO X.K C sp E) := by
  intro pins s σ H x y v u Q I rx ry h
  obtain ⟨a, dx, fs, rfl, ha, hy, q⟩ := h
  cases (show v = Value.ref a from rx)
  obtain ⟨tb, hl, hn⟩ := rt_looks I ry hy
  obtain ⟨mA, J, _⟩ := ins_get I.hok ha
  obtain ⟨od, J, _⟩ := J.look
  obtain ⟨m, hF⟩ := I.fr
  exact PySem.W.cmp_K (op := .Eq) hr.units0 hF I.ok.mod.kin J hl hn d.hs d.hf (wpAny_mono (run_at F ⟨hr, rfl⟩ hb hx I (.cons (show L2.RelV (.ref a) (.ref a) from rfl) (.cons ry .nil)) q) (fun v s' hv => cmp_back hv) fun _ _ z => z)
/-- != without an own one: the other answer of == -/
theorem objNe {A : Around} {s : Shared} {x L : Addr} {b : Value} {h₀ : Heap} {ox : Obj} {od : Option Obj} {K : PySem.W.Frag} {Q : Fin → Shared → Prop} {E : Value → Shared → Prop} (hu : A.units < cLine) (XK : K.In s.heap) (J : PySem.W.InstAt s.heap x ox C od) (d : Dn K C "__eq__" f)
    (h : wpAny (model X.prog X.w) A (call (.ref f) [.ref x, b]) (fun v s' => ∃ z, v = .bool z ∧ Q (.done (.ret (.bool (!z)))) s') E s) :
    wpAny (model X.prog X.w) A (Builtin.«object.__ne__» ⟨[.ref x, b], []⟩) Q E s := by
  unfold Builtin.«object.__ne__»
  refine wpAny_bind (wpAny_pure ?_)
  refine wpAny_bind (wpAny_cRoomFor hu ?_)
  refine wpAny_bind (PySem.W.ifBound_K XK J d.hs d.hf (wpAny_mono h (fun v s' hv => ?_) fun _ _ z => z))
  obtain ⟨z, rfl, q⟩ := hv
  exact wpAny_bind (wpAny_truthy_bool (wpAny_pure q))
def rNeO (K : PySem.W.Frag) (C : Addr) (sp : Sp) (E : XK) : R2 := fun x y H Q => ∃ a dx fs, x = .ref a ∧ H a = some (.ins C dx fs) ∧ Rt K H C y ∧ sp [.ref a, y] H (fun v H' => ∃ z, v = .bl z ∧ Q (.bl (!z)) H') E
theorem op_neO (F : FnOk X.prog X.w X.K X.mg X.base CX n f fd ps sp) (hr : Room (n + 1) X.A) (d : Dn X.K C "__eq__" f) (hno : PySem.W.findIn X.K (.ref C) "__ne__" = some (some (.builtin "object.__ne__"))) (hm : PySem.W.mroIn X.K C (.type "object") = some true) (hb : Binds X.K fd ps []) (hx : Passes CX X E) : OpR X (compareOp .NotEq) (rNeO X.K C sp E) := by
  intro pins s σ H x y v u Q I rx ry h
  obtain ⟨a, dx, fs, rfl, ha, hy, q⟩ := h
  cases (show v = Value.ref a from rx)
  obtain ⟨tb, hl, hn⟩ := rt_looks I ry hy
  obtain ⟨mA, J, _⟩ := ins_get I.hok ha
  obtain ⟨od, J, _⟩ := J.look
  obtain ⟨m, hF⟩ := I.fr
  have XK := I.ok.mod.kin.keeps hF.keep
  have body : wpAny (model X.prog X.w) X.A (call (.builtin "object.__ne__") [.ref a, u]) (fun v s' => ∃ z, v = .bool z ∧ EP X pins σ Q (.bool z) s') X.xe s := by
    refine wpAny_call (codeAny_call_builtin PySem.F.cmp_object.ne.plain PySem.F.cmpEntry_ne (PySem.W.check_slot PySem.F.cmpKind_ne PySem.F.cmpSplit_ne (J.type.andThen (PySem.W.looks_mroIn XK hm)) (PySem.F.cmpArgs_ne _ _) ?_))
    refine objNe (A := X.A.in1) (L := a) (h₀ := X.base) hr.in1.units0 XK J d (wpAny_mono (run_at (A := X.A.in1) F ⟨hr.in1, rfl⟩ hb hx I (.cons (show L2.RelV (.ref a) (.ref a) from rfl) (.cons ry .nil)) q) (fun v s' hv => ?_) fun _ _ z => z)
    obtain ⟨_, H', I', rv, z, rfl, qz⟩ := hv
    cases (show v = Value.bool z from rv)
    exact ⟨z, rfl, ⟨!z, rfl, ⟨V.bl (!z), H', I', rfl, qz⟩⟩⟩
  have one : wpAny (model X.prog X.w) X.A (tryCompare (.ref a) "__ne__" u) (fun r s' => ∃ z, r = some (.bool z) ∧ EP X pins σ Q (.bool z) s') X.xe s := by
    unfold tryCompare
    refine wpAny_bind ?_
    simp only [callSpecialIfBound?, bindSpecialIfBound?]
    refine wpAny_holding (wpAny_bind (wpAny_bind (wpAny_bind (J.type.here ((PySem.W.looks_findIn XK hno).here ?_)))))
    refine wpAny_bind (wpAny_askSetting (wpAny_ite ?_))
    have fin : wpAny (model X.prog X.w) X.A (call (.builtin "object.__ne__") ([.ref a] ++ [u]) >>= fun v => pure (some v)) (fun r s' => wpAny (model X.prog X.w) X.A (match r with | some .notImplemented => pure none | none => pure none | some v => pure (some v)) (fun r s' => ∃ z, r = some (.bool z) ∧ EP X pins σ Q (.bool z) s') X.xe s') X.xe s :=
      wpAny_bind (wpAny_mono body (fun v s' h' => wpAny_pure (by obtain ⟨z, rfl, q⟩ := h'; exact wpAny_pure ⟨z, rfl, q⟩)) fun _ _ h' => h')
    split
    · exact wpAny_bind (wpAny_of_eq (PySem.F.cmp_object.ne.bind _) (wpAny_pure (by exact fin)))
    · exact wpAny_tryCatch (wpAny_bind (wpAny_of_eq (PySem.F.cmp_object.ne.bind _) (wpAny_pure (by exact fin))))
  show wpAny (model X.prog X.w) X.A (richCompare .NotEq (.ref a) u) (EP X pins σ Q) X.xe s
  unfold richCompare
  simp only [oneThing_ref]
  refine wpAny_holding (wpAny_bind (wpAny_cRoomFor hr.units0 ?_))
  refine wpAny_bind (J.type.here (wpAny_bind (hl.here ?_)))
  have last : wpAny (model X.prog X.w) X.A (tryCompare (.ref a) "__ne__" u) (fun r s' => ∃ v, r = some v ∧ EP X pins σ Q v s') X.xe s := wpAny_mono one (fun r s' z => by obtain ⟨z, rfl, q⟩ := z; exact ⟨_, rfl, q⟩) fun _ _ z => z
  split
  · rename_i q
    have e : PySem.W.subIn X.K tb (.ref C) = some false := by
      rcases Bool.or_eq_true_iff.mp hn with e | e
      · rw [beq_iff_eq.mp e] at q; simp at q
      · exact beq_iff_eq.mp e
    refine wpAny_bind ((PySem.W.looks_subIn XK e).here ?_)
    simp only [Bool.false_eq_true, if_false]
    refine wpAny_bind (wpAny_mono last (fun r s' z => ?_) fun _ _ e => e)
    obtain ⟨v, rfl, hq⟩ := z
    exact wpAny_pure hq
  · refine wpAny_bind (wpAny_pure ?_)
    simp only [Bool.false_eq_true, if_false]
    refine wpAny_bind (wpAny_mono last (fun r s' z => ?_) fun _ _ e => e)
    obtain ⟨v, rfl, hq⟩ := z
    exact wpAny_pure hq
end
end Dun
/-! ## tuples item by item the same; in over a tuple of data; {k: True for x in list} by an invariant -/
namespace Dun
open PySem PySem.Spec PyProof.Rows L2
section
variable {X : Cx}
/-- a value that is equal to itself at any time -/
def selfV : V → Bool
  | .non => true
  | .bl _ => true
  | .int _ => true
  | .str _ => true
  | .ref _ => true
  | _ => false
theorem self_eqAt {A : Around} {s : Shared} {x : V} {u v : Value} (ru : RelV x u) (rv : RelV x v) (h : selfV x = true) : SeqAt.EqAt A s u v true := by
  have fl : ∀ {z : V}, flatV z = true → eqV z z = true → RelV z u → RelV z v → SeqAt.EqAt A s u v true := fun hf he r1 r2 => by
    have q := eqAt_V (A := A) (s := s) r1 r2 hf hf
    rw [he] at q
    exact q
  cases x with
  | non => exact fl rfl rfl ru rv
  | bl b => exact fl rfl (by simp [eqV]) ru rv
  | int i => exact fl rfl (by simp [eqV]) ru rv
  | str y => exact fl rfl (by simp [eqV]) ru rv
  | ref a =>
    cases (show u = Value.ref a from ru)
    cases (show v = Value.ref a from rv)
    exact SeqAt.EqAt.same _
  | _ => cases h
/-- t != u, two tuples of the same items -/
def rNeSame (K : PySem.W.Frag) : R2 := fun x y H Q => ∃ a b xs, x = .ref a ∧ y = .ref b ∧ SqT K H a xs ∧ SqT K H b xs ∧ xs.all selfV = true ∧ Q (.bl false) H
theorem op_neSame (hu : X.A.units < cLine) : OpR X (compareOp .NotEq) (rNeSame X.K) := by
  intro pins s σ H x y v u Q I rx ry h
  obtain ⟨a, b, xs, rfl, rfl, ha, hb, hs, q⟩ := h
  cases (show v = Value.ref a from rx)
  cases (show u = Value.ref b from ry)
  obtain ⟨its, r, e, z⟩ := I.tuple ha
  obtain ⟨its2, r2, e2, z2⟩ := I.tuple hb
  have hsz : its.toArray.size = its2.toArray.size := by rw [List.size_toArray, List.size_toArray, ← r.length, ← r2.length]
  refine SeqAt.RcNeAt.tuples (e := fun _ => true) e e2 hu (fun j h1 h2 => ?_) X.prog X.w X.xe _ ?_
  · have g1 : its[j]? = some its.toArray[j] := by
      have h1' : j < its.length := by simpa using h1
      rw [List.getElem?_eq_getElem h1'] <;> simp
    have g2 : its2[j]? = some its2.toArray[j] := by
      have h2' : j < its2.length := by simpa using h2
      rw [List.getElem?_eq_getElem h2'] <;> simp
    have k1 : j < xs.length := by rw [r.length]; simpa using h1
    obtain ⟨u, hu1, ru⟩ := r.get (List.getElem?_eq_getElem k1)
    obtain ⟨v, hv1, rv⟩ := r2.get (List.getElem?_eq_getElem k1)
    rw [g1] at hu1
    rw [g2] at hv1
    rw [Option.some.inj hu1, Option.some.inj hv1]
    exact self_eqAt ru rv (List.all_eq_true.mp hs _ (List.getElem_mem k1))
  · have hh : (!((List.range (min its.toArray.size its2.toArray.size)).all (fun _ => true) && its.toArray.size == its2.toArray.size)) = false := by
      rw [hsz]
      simp
    rw [hh]
    exact ⟨.bl false, H, I, rfl, q⟩
def rInDT (K : PySem.W.Frag) : R2 := fun x y H Q => ∃ d ds, Dp K H x d ∧ Dp K H y (.tuple ds) ∧ SeqAt.shaped d = true ∧ SeqAt.shaped (.tuple ds) = true ∧ Q (.bl (ds.any fun z => PyData.eqv z d)) H
theorem op_inDT (hu : X.A.units + 65 < cLine) : OpR X (compareOp .In) (rInDT X.K) := by
  intro pins s σ H x y v u Q I rx ry h
  obtain ⟨d, ds, hd, he, sd, se, q⟩ := h
  obtain ⟨as, r1⟩ := Dp.reads I d x v hd rx
  obtain ⟨bs, r2⟩ := Dp.reads I (.tuple ds) y u he ry
  exact SeqAt.in_tuple_reads r2 r1 (SeqAt.canLay_of_shaped se) (SeqAt.canLay_of_shaped sd) (room_in_shaped sd hu) ⟨.bl _, H, I, rfl, q⟩
end
/-- {key: True for x in list}: Pv i says what stands behind i turns -/
theorem ndc_list {P : Program} {w : World} {K : PySem.W.Frag} {a D : Addr} {xs : List V} {g : TG} {tt : TT} {tk tv : TE} {vs : List Nat} {σ : L2.St} {H : Hp} {Qd : Hp → Prop} (Pv : Nat → Hp → Prop) (h0 : Pv 0 (upd H D (Nd.ndO P w D [])))
    (hl : ∀ i H', i ≤ xs.length → Pv i H' → SqL K H' a xs)
    (hs : ∀ i x H', xs[i]? = some x → Pv i H' → g x (wipe σ vs) H' fun ρ H1 => wipe ρ vs = wipe σ vs ∧ tt ρ H1 fun b H4 => if b = true then tk ρ H4 fun y H2 => tv ρ H2 fun z H3 => Nd.NdTurn P w K D y z H3 (Pv (i + 1)) else Pv (i + 1) H4)
    (hd : ∀ H', Pv xs.length H' → Qd H') :
    ∃ W : Nat → Nat → Hp → Prop, (∃ m, W 0 m (upd H D (Nd.ndO P w D []))) ∧ ∀ i m G1, W i m G1 →
    ((Itl K a).stop i G1 ∧ Qd G1) ∨ ((Itl K a).go i G1 ∧ ∃ Nx : Hp → Prop, (∀ G2, Nx G2 → ∃ m', m' < m ∧ W (i + 1) m' G2) ∧ ∀ x G2, (Itl K a).yld i G1 x G2 → g x (wipe σ vs) G2 fun ρ G3 => wipe ρ vs = wipe σ vs ∧ tt ρ G3 fun b G4 =>
      if b = true then tk ρ G4 fun y G5 => tv ρ G5 fun z G6 => Nd.NdTurn P w K D y z G6 Nx else Nx G4) := by
  refine ⟨fun i m H => m = xs.length - i ∧ i ≤ xs.length ∧ Pv i H, ⟨xs.length, by simp, Nat.zero_le _, h0⟩, ?_⟩
  rintro i m H ⟨rfl, hi, p⟩
  have q := hl i H hi p
  by_cases hlt : i < xs.length
  · refine .inr ⟨⟨xs, xs[i], q, by simp [hlt]⟩, Pv (i + 1), fun H' p' => ⟨xs.length - (i + 1), by omega, rfl, hlt, p'⟩, fun x H' y => ?_⟩
    obtain ⟨e, y⟩ := y
    subst e
    exact hs i x _ (y xs q) p
  · have e : i = xs.length := by omega
    subst e
    exact .inl ⟨⟨xs, q, Nat.le_refl _⟩, hd H p⟩
/-- for n, x in enumerate(xs, start=k) -/
theorem for_from {K : PySem.W.Frag} {a : Addr} {k : Int} {xs : List V} {g : TG} {tb : TS} {D : Ends} {σ : L2.St} {H : Hp} (Pv : Nat → L2.St → Hp → Prop) (h0 : Pv 0 σ H) (hl : ∀ i σ H, i ≤ xs.length → Pv i σ H → SqL K H a xs)
    (hs : ∀ i x σ H T, xs[i]? = some x → Pv i σ H → H T = none → g (.ref T) σ (upd H T (.tup [.int (k + (i : Int)), x])) fun σ2 H2 => tb { D with nx := Pv (i + 1), ct := Pv (i + 1), bk := D.nx } σ2 H2) (hd : ∀ σ H, Pv xs.length σ H → D.nx σ H) :
    ∃ W : Nat → Nat → L2.St → Hp → Prop, (∃ m, W 0 m σ H) ∧ ∀ i m σ H, W i m σ H →
      ((Nd.ItS K a k).stop i H ∧ D.nx σ H) ∨ ((Nd.ItS K a k).go i H ∧ ∃ N : L2.St → Hp → Prop, (∀ σ' H', N σ' H' → ∃ m', m' < m ∧ W (i + 1) m' σ' H') ∧ ∀ x H', (Nd.ItS K a k).yld i H x H' → g x σ H' fun σ2 H2 => tb { D with nx := N, ct := N, bk := D.nx } σ2 H2) := by
  refine ⟨fun i m σ H => m = xs.length - i ∧ i ≤ xs.length ∧ Pv i σ H, ⟨xs.length, by simp, Nat.zero_le _, h0⟩, ?_⟩
  rintro i m σ H ⟨rfl, hi, p⟩
  have q := hl i σ H hi p
  by_cases hlt : i < xs.length
  · refine .inr ⟨⟨xs, xs[i], q, by simp [hlt]⟩, Pv (i + 1), fun σ' H' p' => ⟨xs.length - (i + 1), by omega, rfl, hlt, p'⟩, fun x H' y => ?_⟩
    obtain ⟨T, z, rfl, nT, rfl, y⟩ := y
    exact hs i z σ H T (y xs q) p nT
  · have e : i = xs.length := by omega
    subst e
    exact .inl ⟨⟨xs, q, rfl⟩, hd σ H p⟩
/-! ### heaps -/
theorem free_upd {H : Hp} {a b : Addr} {o : HO} (h : L2.upd H a o b = none) : H b = none ∧ b ≠ a := by
  have n : b ≠ a := fun e => by rw [e, upd_same] at h; cases h
  rw [upd_ne n] at h
  exact ⟨h, n⟩
theorem free_same {H H' : Hp} {a : Addr} (e : Same H H') (h : H' a = none) : H a = none := by
  cases q : H a with
  | none => rfl
  | some o => rw [e _ _ q] at h; cases h
theorem same_out {H G : Hp} {a : Addr} {o : HO} (e : Same H G) (h : H a = none) : Same H (L2.upd G a o) := fun b u q => by
  rw [upd_ne (ne_of_none q h)]
  exact e b u q
theorem same_new {H G : Hp} {a : Addr} {o : HO} (e : Same H G) (h : G a = none) : Same H (L2.upd G a o) := same_out e (free_same e h)
theorem sqt_tups {K : PySem.W.Frag} {H H' : Hp} {a : Addr} {xs : List V} (e : Nd.Tups H H') (h : SqT K H a xs) : SqT K H' a xs := h.elim (fun z => .inl (e _ _ z)) .inr
theorem tups_lst {H : Hp} {a : Addr} {ys : List V} {o : HO} (h : H a = some (.lst ys)) : Nd.Tups H (L2.upd H a o) := Nd.Tups.upd fun xs r => by
  rcases r with r | ⟨z, r⟩
  · rw [h] at r; cases r
  · rw [h] at r; cases r
theorem tups_ins {H : Hp} {a C dx : Addr} {fs : List (Str × V)} {o : HO} (h : H a = some (.ins C dx fs)) : Nd.Tups H (L2.upd H a o) := Nd.Tups.upd fun xs r => by
  rcases r with r | ⟨z, r⟩
  · rw [h] at r; cases r
  · rw [h] at r; cases r
theorem sql_ne {K : PySem.W.Frag} {H : Hp} {a b : Addr} {xs : List V} {o : HO} (h : SqL K H a xs) (n : a ≠ b) : SqL K (L2.upd H b o) a xs := by
  rcases h with (h | ⟨z, h⟩) | h
  · exact .inl (.inl (by rw [upd_ne n]; exact h))
  · exact .inl (.inr ⟨z, by rw [upd_ne n]; exact h⟩)
  · exact .inr h
theorem sqt_list_same {K : PySem.W.Frag} {H H' : Hp} {a : Addr} {xs : List V} (h : SqL K H a xs) (e : Same H H') : SqL K H' a xs := by
  rcases h with (h | ⟨o, h⟩) | h
  · exact .inl (.inl (e _ _ h))
  · exact .inl (.inr ⟨o, e _ _ h⟩)
  · exact .inr h
end Dun
/-! ## own instances made, own methods called, where what is raised is wished for at the caller's slots -/
namespace Mkx
open PySem PySem.Spec PyProof.Rows L2
/-- nothing is raised after all -/
theorem pass_no {X : Cx} : Passes (L2.CX X.prog X.w) X (fun _ _ _ => False) := fun pins σ H s e s' I c => by
  obtain ⟨_, _, _, _, _, _, _, _, _, _, _, _, no⟩ := c
  exact no.elim
def tMakeS (C : Addr) (sp : Sp) (W : WX) (ta : TA) : TE := fun σ H Q => ta σ H fun vs G => ∀ x dx, G x = none → G dx = none → dx ≠ x →
  sp (.ref x :: vs) (upd (upd G dx (.own x)) x (.ins C dx [])) (fun v G2 => v = .non ∧ Q (.ref x) G2) (WE W σ)
def tMethS (C : Addr) (nm : Str) (sp : Sp) (W : WX) (to : TE) (ta : TA) : TE := fun σ H Q => to σ H fun x G => ∃ a dx fs, x = .ref a ∧ G a = some (.ins C dx fs) ∧ fs.lookup nm = none ∧ ta σ G fun vs G2 => sp (x :: vs) G2 Q (WE W σ)
section
variable {X : Cx} {W : WX} {n : Nat} {C g : Addr} {fd : FuncData} {ps : List Str} {sp : Sp} {x nm : Str} {p pos apos : Pos} {e o : Expr} {es : List Expr} {to : TE} {ta : TA}
theorem run_mkS {pins : List (Addr × Obj)} {σ : L2.St} {G : Hp} {t : Shared} {Q : VK} {us : List Value} {vs : List V} (M : Mk X.K C g) (F : FnOk X.prog X.w X.K X.mg X.base (L2.CX X.prog X.w) n g fd ps sp) (room : Room (n + 1) X.A) (bd : Binds X.K fd ps []) (tk : Takes X W) (J : Inv X pins σ G t) (rv : Vals vs us)
    (want : ∀ x dx, G x = none → G dx = none → dx ≠ x → sp (.ref x :: vs) (upd (upd G dx (.own x)) x (.ins C dx [])) (fun v G2 => v = .non ∧ Q (.ref x) G2) (WE W σ)) : wpAny (model X.prog X.w) X.A (call (.ref C) us) (EP X pins σ Q) X.xe t := by
  have go := want (t.heap.objs.size + 1) t.heap.objs.size (J.hok.fresh (Nat.le_succ _)) (J.hok.fresh (Nat.le_refl _)) (Nat.ne_of_lt (Nat.lt_succ_self _))
  have J2 := Inv.made (C := C) J
  have both : Vals (V.ref (t.heap.objs.size + 1) :: vs) (Value.ref (t.heap.objs.size + 1) :: us) := .cons rfl rv
  have len : (Value.ref (t.heap.objs.size + 1) :: us).length = ps.length := both.length.symm.trans (F.len _ _ _ _ go)
  have binds := bd _ (Value.ref (t.heap.objs.size + 1) :: us) J2.kIn (by rw [List.append_nil]; exact len)
  rw [List.append_nil] at binds
  refine wpAny_call (make_map (f := g) J.kIn M.makes M.init (beq_iff_eq.mp M.fn) (codeAny_mono (F.run _ X.stack _ _ ⟨Value.ref (t.heap.objs.size + 1) :: us, []⟩ _ _ _ (WE W σ) (room.make C us []) (J2.env0.make C us []) binds both go) fun r t' done => ?_))
  match r, done with
  | .error er, done => exact passAt tk σ pins _ _ er t' J2 done
  | .ok (.ret u), done =>
    obtain ⟨v, G', J3, rr, ev, q3⟩ := J2.after done
    subst ev
    exact ⟨rr, ⟨V.ref (t.heap.objs.size + 1), G', J3, rfl, q3⟩⟩
  | .ok .next, done => exact False.elim done
  | .ok .brk, done => exact False.elim done
  | .ok .cont, done => exact False.elim done
theorem pe_makeS (M : Mk X.K C g) (F : FnOk X.prog X.w X.K X.mg X.base (L2.CX X.prog X.w) n g fd ps sp) (room : Room (n + 1) X.A) (gl : Gl X x) (hm : X.mg x = some (.ref C)) (bd : Binds X.K fd ps []) (tk : Takes X W) (args : PA X (e :: es) ta)
    (hdb : (x == ("__debug__" : Str)) = false := by decide) (first : starEach (e :: es) X.env = (false, eval e X.env) :: starEach es X.env := by rfl) (plain : (backTo pos (starEach es X.env)).any (·.1) = false := by rfl) : PE X (.Call (.Name x p) (e :: es) [] pos) (tMakeS C sp W ta) := by
  constructor
  intro pins t σ G Q J want
  refine wpAny_Call_Name_kw (ld_glob J gl hm ?_ hdb)
  refine PySem.W.callWith_K (h₀ := X.base) J.ok.mod.kin M.kp (thn (args.run pos pins t σ G _ J want) ?_) first plain
  rintro us t1 ⟨vs, G1, J1, rv, q⟩
  exact ⟨J1.kIn, run_mkS M F room bd tk J1 rv q⟩
theorem pe_methS {pl : Sem Bool} (ho : PE X o to) (c : Cls X.K C) (m : Meth X.K C nm g) (F : FnOk X.prog X.w X.K X.mg X.base (L2.CX X.prog X.w) n g fd ps sp) (room : Room n X.A) (bd : Binds X.K fd ps []) (tk : Takes X W) (args : PA X (e :: es) ta)
    (first : starEach (e :: es) X.env = (false, eval e X.env) :: starEach es X.env := by rfl) (plain : (backTo pos (starEach es X.env)).any (·.1) = false := by rfl)
    (shape : eval (.Call (.Attribute o nm apos) (e :: es) [] pos) X.env = (eval o X.env >>= fun ov => standAt apos.atName >>= fun _ => holding [ov] (getMethod ov nm pl) >>= fun fa => callWith pos fa.1 fa.2 (backTo pos (starEach (e :: es) X.env)) (backToKw pos (keywordEach [] X.env))) := by rfl) :
    PE X (.Call (.Attribute o nm apos) (e :: es) [] pos) (tMethS C nm sp W to ta) := by
  constructor
  intro pins t σ G Q J want
  refine PySem.W.methodCall_KW (pl := pl) (thn (ho.run pins t σ G _ J want) ?_) shape
  rintro u t1 ⟨_, G1, J1, ru, a, dx, fs, rfl, ea, l, q⟩
  cases (show u = Value.ref a from ru)
  refine getmeth_ok J1 ea c m l ?_
  refine PySem.W.callWith_K (first := [.ref a]) (h₀ := X.base) J1.ok.mod.kin m.kp (thn (args.run pos pins t1 σ G1 _ J1 q) ?_) first plain
  rintro us t2 ⟨vs, G2, J2, rv, q2⟩
  exact ⟨J2.kIn, run_fnS (E := WE W) (us := .ref a :: us) (vs := .ref a :: vs) F room bd (passAt tk σ) J2 (.cons rfl rv) q2⟩
end
end Mkx
/-! ## enumerate(t), t a tuple -/
namespace PySem
set_option maxHeartbeats 1000000 in
theorem meets_enumerate_one {v : Value} {o : Obj} {H : Heap → Prop} (B : Begins v o H) :
    Meets (Builtin.«enumerate.__new__» ⟨[.type "enumerate", v], []⟩) (fun _ R s => H s.heap ∧
      R (.ok (.ret (.ref (s.heap.push o).objs.size))) { s with heap := (s.heap.push o).push { cls := .type "enumerate", data := .fields #[.none, .bool false, .ref s.heap.objs.size, rawInt 0, .none, .none] } }) :=
  .of_wp fun prog w A R s h => by
    obtain ⟨hp, g, d, tk, os⟩ := s; obtain ⟨h1, h⟩ := h
    have hsub := sub_enumerate
    have q1 : ∀ {A' : Around} {E : Value → Shared → Prop} {Q : Value → Shared → Prop}, Q (.ref hp.objs.size) ⟨hp.push o, g, d, tk, os⟩ → wpAny (model prog w) A' (pyIter v) Q E ⟨hp, g, d, tk, os⟩ :=
      fun q => B.iter prog w _ _ ⟨hp, g, d, tk, os⟩ _ h1 q
    wp_walk using q1
    refine wpAny_stack_any fun st => wpAny_pure ?_
    split
    · rename_i c _ _ _ _ _
      cases (c == Value.type "enumerate")
      · wp_walk using q1
        exact ⟨_, rfl, h⟩
      · wp_walk using q1
        exact ⟨_, rfl, h⟩
    · wp_walk using q1
      exact ⟨_, rfl, h⟩
theorem enum_begins_one {prog : Program} {w : World} {A : Around} {E : Value → Shared → Prop} {s : Shared} {v : Value} {o : Obj} {H : Heap → Prop} {Q : Value → Shared → Prop} (B : Begins v o H) (h1 : H s.heap)
    (h : ∀ h', IsEnum h' (s.heap.objs.size + 1) s.heap.objs.size 0 .none → h'.get? s.heap.objs.size = some o → h'.objs.size = s.heap.objs.size + 2 →
      (∀ b o, s.heap.get? b = some o → h'.get? b = some o) → Q (.ref (s.heap.objs.size + 1)) { s with heap := h' }) :
    wpAny (model prog w) A (call (.type "enumerate") [v]) Q E s := by
  refine callType_new F.called_enumerate (by decide) (F.typeCall_enumerate_1 _) (F.newCall_enumerate_1 _) (fun obj => F.args_object_init_2 obj _) F.entry_enumerate_new
    (meets_enumerate_one B) ⟨h1, ?_⟩
  have hz : (s.heap.push o).objs.size = s.heap.objs.size + 1 := Heap.size_push ..
  show _ ∧ _
  rw [hz]
  have he : IsEnum ((s.heap.push o).push { cls := .type "enumerate", data := .fields #[.none, .bool false, .ref s.heap.objs.size, rawInt 0, .none, .none] }) (s.heap.objs.size + 1) s.heap.objs.size 0 .none := by
    have := Heap.get?_push_size (s.heap.push o) (o := { cls := .type "enumerate", data := .fields #[.none, .bool false, .ref s.heap.objs.size, rawInt 0, .none, .none] }) rfl
    rw [hz] at this; exact this
  refine ⟨⟨_, he, rfl⟩, h _ he (Heap.get?_push_of_some _ (Heap.get?_push_size _ B.free)) (by rw [Heap.size_push, hz]) fun b o x => Heap.get?_push_of_some _ (Heap.get?_push_of_some _ x)⟩
end PySem
namespace Nd
open PySem PySem.Spec PyProof.Rows L2
/-- the tuple at a, each item in a new pair with its number -/
def ItT (K : PySem.W.Frag) (a : Addr) : It :=
  ⟨fun i G => ∃ (xs : List V) (x : V), SqT K G a xs ∧ xs[i]? = some x, fun i G v G' => ∃ T x, v = .ref T ∧ G T = none ∧ G' = upd G T (.tup [.int (i : Nat), x]) ∧ ∀ xs, SqT K G a xs → xs[i]? = some x, fun i G => ∃ xs : List V, SqT K G a xs ∧ xs.length = i⟩
theorem turn_enumT {P : Program} {w : World} {K : PySem.W.Frag} {elts : List Expr} {kk : Nat} {tpos : Pos} (a e it : Addr) :
    Turn P w K (.Tuple elts kk tpos) (ItT K a) [e, it] e (fun i h => (∃ o, IsEnum h e it (i : Nat) o) ∧ h.IsTupleIter it a i ∧ e ≠ it) where
  mem := List.mem_cons_self
  obj := by
    rintro i h ⟨⟨o, he⟩, ⟨ob, ho, hc, hd⟩, _⟩ b hb
    rcases List.mem_cons.mp hb with rfl | hb
    · exact ⟨_, he, fun v z => nomatch z⟩
    · cases List.mem_singleton.mp hb
      exact ⟨ob, ho, fun v z => by rw [hd] at z; cases z⟩
  keep := fun i h h' ⟨⟨o, he⟩, hi, ne⟩ st => ⟨⟨o, st e (by simp) _ he⟩, hi.at fun ob z => st it (by simp) ob z, ne⟩
  item := by
    intro X hP hw hK hc i pins s σ H E I hf st hg
    subst hP hw hK
    obtain ⟨⟨o, he⟩, hit, ne⟩ := st
    obtain ⟨xs, x, hq, hx⟩ := hg
    obtain ⟨its, rv, p, hz⟩ := I.tuple hq
    obtain ⟨u, hu, ru⟩ := rv.get hx
    have le : e < s.heap.objs.size := Heap.lt_size he
    have li : it < s.heap.objs.size := by obtain ⟨_, q, _⟩ := hit; exact Heap.lt_size q
    have ha : s.heap.IsTuple a its.toArray := p
    have nai : a ≠ it := fun z => by
      obtain ⟨o1, q1, c1, _⟩ := ha
      obtain ⟨o2, q2, c2, _⟩ := hit
      rw [z, q2] at q1
      cases q1
      rw [c1] at c2
      exact absurd (Value.type.inj c2) (by decide)
    have nae : e ≠ a := fun z => by
      obtain ⟨o1, q1, c1, _⟩ := ha
      rw [← z, he] at q1
      cases q1
      exact absurd (Value.type.inj (show Value.type "enumerate" = Value.type "tuple" from c1)) (by decide)
    have lt : i < its.toArray.size := by
      have := (List.getElem?_eq_some_iff.mp hu).1
      simpa using this
    refine wpAny_pyNext_enum_itemC (Draws.tuple (A := X.A.in1) (I.ok.hd hc) it a nai its.toArray) he ⟨hit, ha⟩ lt ne (by simp [ne, nae]) fun y h' tk hy ho hst hT hsz stay => ?_
    have ey : y = u := by
      have z : its.toArray[i]? = some y := hy
      rw [List.getElem?_toArray, hu] at z
      exact (Option.some.inj z).symm
    subst ey
    refine ⟨_, rfl, wpAny_letOwnedTupleGo_enum (s := { s with heap := h', toks := tk + 1 }) ho fun h2 he2 sb => ?_⟩
    have hT2 : h2.get? s.heap.objs.size = some { cls := .type "tuple", data := .seq #[.int (i : Nat) tk, y] } := (sb.2 _ (Nat.ne_of_gt le)).trans hT
    have new : ObjOk X.prog X.w (upd H s.heap.objs.size (.tup [.int (i : Nat), x])) h2 s.heap.objs.size (.tup [.int (i : Nat), x]) :=
      ⟨by show 2 ≤ sizeLine; decide, [.int (i : Nat) tk, y], .cons ⟨_, rfl⟩ (.cons ru .nil), ⟨_, hT2, rfl, _, rfl⟩⟩
    have I1 : Inv X pins σ (upd H s.heap.objs.size (.tup [.int (i : Nat), x])) { s with heap := h2, toks := tk + 1 } :=
      I.turnedNew (ch := [e, it]) (fun b ob hb q => (sb.2 b (fun z => hb (by simp [z]))).trans (stay b ob (fun z => hb (by simp [z])) (fun z => hb (by simp [z])) q)) hf (Nat.le_refl _) new
    refine ⟨.ref s.heap.objs.size, _, I1, rfl, ⟨_, x, rfl, I.hok.fresh (Nat.le_refl _), rfl, fun ys hy' => by rw [I.tuple_inj hy' hq]; exact hx⟩, ⟨⟨y, ?_⟩, hst.1.at fun ob q => (sb.2 it (Ne.symm ne)).trans q, ne⟩, fun b hb => ?_⟩
    · rw [show ((i + 1 : Nat) : Int) = (i : Int) + 1 by omega]; exact he2
    · have lb : b < s.heap.objs.size := by
        rcases List.mem_cons.mp hb with rfl | hb
        · exact le
        · cases List.mem_singleton.mp hb; exact li
      rw [upd_ne (Nat.ne_of_lt lb)]
      exact (hf b hb).1
  done := by
    intro X hP hw hK hc i pins s σ H E I hf st hg
    subst hP hw hK
    obtain ⟨⟨o, he⟩, hit, ne⟩ := st
    obtain ⟨xs, hq, hx⟩ := hg
    obtain ⟨its, rv, p, hz⟩ := I.tuple hq
    obtain ⟨f0, f1, f2, f3, f4, f5⟩ := hf it (by simp)
    have hl := rv.length
    have ha : s.heap.IsTuple a its.toArray := p
    have nai : a ≠ it := fun z => by
      obtain ⟨o1, q1, c1, _⟩ := ha
      obtain ⟨o2, q2, c2, _⟩ := hit
      rw [z, q2] at q1
      cases q1
      rw [c1] at c2
      exact absurd (Value.type.inj c2) (by decide)
    have sz : its.toArray.size = i := by
      rw [List.size_toArray, ← hl]
      exact hx
    exact wpAny_pyNext_enum_endD (Draws.tuple (A := X.A.in1) (I.ok.hd hc) it a nai its.toArray) he ⟨by rw [sz]; exact hit, ha⟩ fun h' eb => ⟨rfl, I.turned (t' := s.toks) (fun b o hb q => eb b o hb q) f0 f1 f3 f4 f5⟩
  self := fun A i s Q E ⟨⟨_, he⟩, _⟩ h => wpAny_pyIter_enum he h
def iEnumT (K : PySem.W.Frag) (ta : TA) : TI := fun σ G R => ta σ G fun vs G1 => ∃ a xs, vs = [.ref a] ∧ SqT K G1 a xs ∧ R (ItT K a) G1
theorem pi_enumT {X : Cx} {e : Expr} {ta : TA} {p pos tpos : Pos} {elts : List Expr} {kk : Nat} (hg : Gl X "enumerate") (hm : X.mg "enumerate" = none) (ha : PA X [e] ta) (hs : starEach [e] X.env = [(false, eval e X.env)] := by rfl) :
    PI X (.Tuple elts kk tpos) (.Call (.Name "enumerate" p) [e] [] pos) (iEnumT X.K ta) := by
  refine ⟨fun pins s σ H R I h => ?_⟩
  refine Call_ (ld_blt I hg hm boot_enumerate (PyProof.Rows.callWith_type1 (thn (ha.run pos pins s σ H _ I h) fun us s1 ⟨vs, H1, I1, r1, q1⟩ => ?_) hs rfl))
  obtain ⟨a, xs, ex, hq, q⟩ := q1
  subst ex
  cases r1 with
  | cons r rr =>
    cases rr
    cases r
    obtain ⟨its, rv, p', hz⟩ := I1.tuple hq
    have hT : s1.heap.IsTuple a its.toArray := p'
    refine PySem.enum_begins_one (begins_tuple a its.toArray) hT fun h' he hit hsz hk => wpAny_pyIter_enum he ?_
    have I2 : Inv X pins σ H1 { s1 with heap := h' } := I1.kept (t' := s1.toks) hk
    refine ⟨s1.heap.objs.size + 1, [s1.heap.objs.size + 1, s1.heap.objs.size], _, _, H1, rfl, I2, turn_enumT a (s1.heap.objs.size + 1) s1.heap.objs.size, ⟨⟨.none, he⟩, ⟨_, hit, rfl, rfl⟩, Nat.succ_ne_self _⟩, fun b hb => ?_, q⟩
    have e' : b = s1.heap.objs.size + 1 ∨ b = s1.heap.objs.size := by simpa using hb
    have hle : s1.heap.objs.size ≤ b := by
      rcases e' with z | z
      · rw [z]; exact Nat.le_add_right _ _
      · rw [z]; exact Nat.le_refl _
    exact I1.fpOk hle (I1.hok.fresh hle)
/-- for n, x in enumerate(t) -/
theorem for_enumT {K : PySem.W.Frag} {a : Addr} {xs : List V} {g : TG} {tb : TS} {D : Ends} {σ : L2.St} {H : Hp} (Pv : Nat → L2.St → Hp → Prop) (h0 : Pv 0 σ H) (hl : ∀ i σ H, i ≤ xs.length → Pv i σ H → SqT K H a xs)
    (hs : ∀ i x σ H T, xs[i]? = some x → Pv i σ H → H T = none → g (.ref T) σ (upd H T (.tup [.int (i : Nat), x])) fun σ2 H2 => tb { D with nx := Pv (i + 1), ct := Pv (i + 1), bk := D.nx } σ2 H2) (hd : ∀ σ H, Pv xs.length σ H → D.nx σ H) :
    ∃ W : Nat → Nat → L2.St → Hp → Prop, (∃ m, W 0 m σ H) ∧ ∀ i m σ H, W i m σ H →
      ((Nd.ItT K a).stop i H ∧ D.nx σ H) ∨ ((Nd.ItT K a).go i H ∧ ∃ N : L2.St → Hp → Prop, (∀ σ' H', N σ' H' → ∃ m', m' < m ∧ W (i + 1) m' σ' H') ∧ ∀ x H', (Nd.ItT K a).yld i H x H' → g x σ H' fun σ2 H2 => tb { D with nx := N, ct := N, bk := D.nx } σ2 H2) := by
  refine ⟨fun i m σ H => m = xs.length - i ∧ i ≤ xs.length ∧ Pv i σ H, ⟨xs.length, by simp, Nat.zero_le _, h0⟩, ?_⟩
  rintro i m σ H ⟨rfl, hi, p⟩
  have q := hl i σ H hi p
  by_cases hlt : i < xs.length
  · refine .inr ⟨⟨xs, xs[i], q, by simp [hlt]⟩, Pv (i + 1), fun σ' H' p' => ⟨xs.length - (i + 1), by omega, rfl, hlt, p'⟩, fun x H' y => ?_⟩
    obtain ⟨T, z, rfl, nT, rfl, y⟩ := y
    exact hs i z σ H T (y xs q) p nT
  · have e : i = xs.length := by omega
    subst e
    exact .inl ⟨⟨xs, q, rfl⟩, hd σ H p⟩
end Nd
/-! ## o.f as one of several targets -/
namespace Nd
open PySem PySem.Spec PyProof.Rows L2
def gFld (K : PySem.W.Frag) (to : TE) (f : Str) : TG := fun v σ H Q => to σ H fun x H2 => ∃ a C dx fs, x = .ref a ∧ H2 a = some (.ins C dx fs) ∧ Cls K C ∧ NoAttr K C f ∧ fs.length < 1000 ∧ Q σ (upd H2 a (.ins C dx (putF f v fs)))
theorem pg_fld {X : Cx} {o : Expr} {f : Str} {pos : Pos} {to : TE} (ho : PE X o to)
    (ha : ∀ v, assign (.Attribute o f pos) X.env v = (do
      let ov ← holding [v] (eval o X.env)
      standAt pos.atName
      holding [v, ov] (setAttr ov f v)
      release [v, ov] []) := by intro _; rfl) : PG X (.Attribute o f pos) (gFld X.K to f) := by
  refine ⟨fun pins s σ H v u Q I r h => ?_⟩
  rw [ha]
  refine wpAny_bind (wpAny_holding (thn (ho.run pins s σ H _ I h) fun ov s1 ⟨x, H1, I1, r1, q1⟩ => ?_))
  obtain ⟨a, C, dx, fs, ex, ea, c, n, l, q2⟩ := q1
  subst ex
  obtain rfl : ov = Value.ref a := r1
  refine wpAny_bind (wpAny_standAt (wpAny_bind (wpAny_holding (setattr_ok I1 ea c n l r fun s2 I2 => ?_))))
  exact wpAny_release ⟨σ, _, I2, q2⟩
end Nd
/-! ## What the top has left, told by one look at all objects; the head whose product does not grow -/
namespace Hf
open PySem PySem.Spec PyProof.Rows L2 Hx
def asN : Nat → List Addr
  | 0 => []
  | n + 1 => n :: asN n
/-- all objects, the module's names first, then the newest -/
def frN (g : Addr → Option Obj) (n : Nat) : PySem.W.Frag := He.frG g (mainGlobals :: asN n)
abbrev Tst : Type := PySem.W.Frag → Bool
def obsN (fa : List He.Fa) (fn : List He.DefD) (ts : List He.Tab) (ex : List Tst) (K : PySem.W.Frag) : He.AlX := (He.obsT fa fn ts K, ex.all fun f => f K)
def valN (fn : List He.DefD) (ts : List He.Tab) (w : World) : He.AlX := (He.valT fn ts w, true)
structure Says (fa : List He.Fa) (fn : List He.DefD) (ts : List He.Tab) (ex : List Tst) (w : World) (K : PySem.W.Frag) : Prop where
  t : He.SaysT fa fn ts w K
  e : (ex.all fun f => f K) = true
def hook (fa : List He.Fa) (fn : List He.DefD) (ts : List He.Tab) (ex : List Tst) : PySem.W.Hook where
  α := He.AlX
  obs := fun s => obsN fa fn ts ex (frN s.heap.get? s.heap.objs.size)
  val := fun w => valN fn ts w
  says := fun w h => ∃ K : PySem.W.Frag, K.In h ∧ Says fa fn ts ex w K
  of := fun _ _ e => ⟨_, He.frG_in, ⟨congrArg (fun z : He.AlX => z.1) e, congrArg (fun z : He.AlX => z.2) e⟩⟩
  keeps := fun _ _ _ ⟨K, hK, c⟩ k => ⟨K, PySem.W.Frag.In.keeps hK k, c⟩
def ob (fa : List He.Fa) (fn : List He.DefD) (ts : List He.Tab) (ex : List Tst) (s : PySem.W.SharedT) : He.AlX := obsN fa fn ts ex (frN (HandSHeadRun.getT s) s.n)
theorem ob_eq (fa : List He.Fa) (fn : List He.DefD) (ts : List He.Tab) (ex : List Tst) (s : PySem.W.SharedT) : ob fa fn ts ex s = (hook fa fn ts ex).obs s.abs := by
  have e : HandSHeadRun.getT s = s.abs.heap.get? := funext fun a => HandSHeadRun.getT_eq s a
  have n : s.abs.heap.objs.size = s.n := PySem.W.absHeap_size s.tree s.n s.life
  show obsN fa fn ts ex (frN (HandSHeadRun.getT s) s.n) = obsN fa fn ts ex (frN s.abs.heap.get? s.abs.heap.objs.size)
  rw [e, n]
section
variable {fa : List He.Fa} {fn : List He.DefD} {ts : List He.Tab} {ex : List Tst} {w : World} {K : PySem.W.Frag} {h : Heap} {mg : Str → Option Value}
theorem Says.x (c : Says fa fn ts ex w K) (i : Nat) {f : Tst} (h : ex[i]? = some f := by rfl) : f K = true := List.all_eq_true.mp c.e f (List.mem_of_getElem? h)
theorem Says.glo (c : Says fa fn ts ex w K) (X : K.In h) (G : h.Ns mainGlobals mg) (i : Nat) {x : Str} (e : fa[i]? = some (.glo x) := by rfl) : mg x = some (.ref (He.ga K x)) := He.glo_ok X G (c.t.d.fact i e)
theorem Says.free (c : Says fa fn ts ex w K) (X : K.In h) (G : h.Ns mainGlobals mg) (i : Nat) {x : Str} (e : fa[i]? = some (.free x) := by rfl) : mg x = none := He.free_ok X G (c.t.d.fact i e)
theorem Says.int (c : Says fa fn ts ex w K) (X : K.In h) (G : h.Ns mainGlobals mg) (i : Nat) {x : Str} {n : Int} (e : fa[i]? = some (.int x n) := by rfl) : ∃ t, mg x = some (.int n t) := He.int_ok X G (c.t.d.fact i e)
theorem fun_of {x qual : Str} {st : Stmt} {f : Addr} {fd : FuncData} {kws : List (Str × V)} (F : FunD K x qual (defArgs st) (defBody st) (defScope st) [] kws f fd) : Fun K x qual st f fd := by
  obtain ⟨oc, od, dV, kV, doc, pm, an, cdv, ct, osl, e, l, c, hd, _⟩ := F.ex
  rcases hd with ⟨_, e2⟩ | ⟨e2, _⟩
  · subst e2
    exact ⟨⟨oc, od, kV, doc, pm, an, cdv, ct, osl, e, l, c⟩, F.kp⟩
  · exact absurd rfl e2
theorem Says.fun (c : Says fa fn ts ex w K) (i : Nat) {x qual : Str} {st : Stmt} {p : Str × Option Str} (e : fn[i]? = some ⟨p, x, qual, defArgs st, defBody st, defScope st, [], []⟩ := by rfl) : ∃ fd, Fun K x qual st (He.fAd K p) fd := by
  obtain ⟨fd, F⟩ := c.t.d.def_ i e
  exact ⟨fd, fun_of F⟩
end
/-! ### classes -/
def namesB (K : PySem.W.Frag) (C : Addr) (fl : List Str) : Bool := fl.all fun x => decide (PySem.W.findIn K (.ref C) x = some none)
def clB (K : PySem.W.Frag) (C f : Addr) (fl : List Str) : Bool := PySem.W.makesIn K C && (decide (PySem.W.findIn K (.ref C) "__init__" = some (some (.ref f))) && (PySem.W.isFn K (.ref f) && (PySem.W.keepIn K (.ref C) && (PySem.W.plainGet K C Str.empty && (PySem.W.hasDictIn K C && (PySem.W.plainOver K C &&
  (decide (PySem.W.findIn K (.ref C) "__setattr__" = some (some (.builtin "object.__setattr__"))) && namesB K C fl)))))))
theorem cl_of {K : PySem.W.Frag} {C f : Addr} {fl : List Str} (b : clB K C f fl = true) : Mk K C f ∧ Cls K C ∧ ∀ x ∈ fl, NoAttr K C x := by
  unfold clB namesB at b
  simp only [Bool.and_eq_true, decide_eq_true_eq, List.all_eq_true] at b
  obtain ⟨a1, a2, a3, a4, a5, a6, a7, a8, a9⟩ := b
  exact ⟨⟨a1, a2, a3, a4⟩, ⟨a5, a6, a7, a8⟩, a9⟩
def methB (K : PySem.W.Frag) (C : Addr) (m : Str) (f : Addr) : Bool := decide (PySem.W.findIn K (.ref C) m = some (some (.ref f))) && (PySem.W.isFn K (.ref f) && (PySem.W.keepIn K (.ref f) && PySem.W.fnIn K f))
theorem meth_of {K : PySem.W.Frag} {C : Addr} {m : Str} {f : Addr} (b : methB K C m f = true) : Meth K C m f ∧ Dun.Dn K C m f := by
  unfold methB at b
  simp only [Bool.and_eq_true, decide_eq_true_eq] at b
  obtain ⟨a1, a2, a3, a4⟩ := b
  exact ⟨⟨a1, a2, a3⟩, ⟨a1, a2, a4⟩⟩
/-! ### error classes -/
def excB (K : PySem.W.Frag) (C D : Addr) : Bool := match K.lookup C with
  | some ⟨.type t, _, .cls cd, sl⟩ => decide (t = "type") && (decide (cd.mro = [.ref C, .ref D, .type "ValueError", .type "Exception", .type "BaseException", .type "object"]) && (cd.hasDict && (!cd.hasDel && (match sl.toList with
    | [_, _, _, _, some (.builtin n), _] => decide (n = "ValueError.__new__")
    | _ => false))))
  | _ => false
theorem exc_of {K : PySem.W.Frag} {C D : Addr} (b : excB K C D = true) : ∃ (nm q : Str) (N : Addr) (bs : List Value) (sn : List Str) (sub : List Value) (ab : Bool) (col : Option Bool) (dd : Option Addr) (m0 m1 m2 m3 m5 : Option Value),
    K.lookup C = some (excClassObj nm q C N bs [.ref D, .type "ValueError", .type "Exception", .type "BaseException", .type "object"] true sn sub ab col dd m0 m1 m2 m3 m5 "ValueError.__new__") := by
  unfold excB at b
  cases e : K.lookup C with
  | none =>
    rw [e] at b
    cases b
  | some o =>
    obtain ⟨oc, od, dt, sl⟩ := o
    rw [e] at b
    cases oc with
    | type t =>
      cases dt with
      | cls cd =>
        obtain ⟨nm, bs, mro, ns, qn, hd, sn, sb, ab, col, del⟩ := cd
        dsimp only at b
        rw [Bool.and_eq_true, Bool.and_eq_true, Bool.and_eq_true, Bool.and_eq_true, decide_eq_true_eq, decide_eq_true_eq] at b
        obtain ⟨rfl, rfl, rfl, h4, h5⟩ := b
        cases del with
        | true => cases h4
        | false =>
          split at h5
          · rename_i a0 a1 a2 a3 n a5 es
            have en : n = "ValueError.__new__" := of_decide_eq_true h5
            subst en
            have esl : sl = #[a0, a1, a2, a3, some (.builtin "ValueError.__new__"), a5] := by
              rw [← Array.toArray_toList (xs := sl), es]
            subst esl
            exact ⟨nm, qn, ns, bs, sn, sb, ab, col, od, a0, a1, a2, a3, a5, rfl⟩
          · cases h5
      | _ => cases b
    | _ => cases dt <;> cases b
theorem clT_of {K : PySem.W.Frag} {mg : Str → Option Value} {x qual : Str} {st : Stmt} {ps fl : List Str} {C f D : Addr} {h : Heap} (X : K.In h) (G : h.Ns mainGlobals mg) (aC : PySem.W.nsIn K mainGlobals x = some (some (.ref C))) (b : excB K C D = true) {fd : FuncData} (F : Fun K "__init__" qual st f fd)
    (hb : ∀ (kV doc pm : Value) (an : Option Addr) (cdv ct : Value) (us : List Value), us.length = ps.length → bindArgs (PySem.W.fnOf "__init__" qual (defArgs st) (defBody st) (defScope st) .none kV doc pm an cdv ct) ⟨us, []⟩ = pure (ps.zip us)) (b2 : clsB K C f fl = true) : ClT K mg x qual st ps fl C f := by
  obtain ⟨nm, q, N, bs, sn, sub, ab, col, dd, m0, m1, m2, m3, m5, e⟩ := exc_of b
  obtain ⟨⟨oc, od, kV, doc, pm, an, cdv, ct, osl, e1, l, c⟩, kp⟩ := F
  subst e1
  exact cl_mk X G aC e l c kp hb b2
def baseB (K : PySem.W.Frag) (D : Addr) : Bool := PySem.W.readsIn K D (.type "type") && (decide (PySem.W.specialIn K (.ref D) "__getattribute__" = some (some (.builtin "type.__getattribute__"))) && (match PySem.W.findCls K (.ref D) (.type "type") "__init__" with
  | some (.val (.builtin n)) => decide (n = "ValueError.__init__")
  | _ => false))
theorem base_of {K : PySem.W.Frag} {mg : Str → Option Value} {D : Addr} (g : mg "HeapError" = some (.ref D)) (b : baseB K D = true) : BaseT K mg D := by
  unfold baseB at b
  rw [Bool.and_eq_true, Bool.and_eq_true, decide_eq_true_eq] at b
  obtain ⟨h1, h2, h3⟩ := b
  split at h3
  · rename_i n e
    have en : n = "ValueError.__init__" := of_decide_eq_true h3
    subst en
    exact ⟨g, ⟨h1, h2⟩, e⟩
  · cases h3
/-! ### constants -/
def valsB : List V → List Value → Bool
  | [], [] => true
  | .str x :: r, .str y _ :: s => decide (x = y) && valsB r s
  | .int i :: r, .int j _ :: s => decide (i = j) && valsB r s
  | .non :: r, .none :: s => valsB r s
  | .ref a :: r, .ref b :: s => decide (a = b) && valsB r s
  | _, _ => false
theorem vals_of : ∀ (xs : List V) (us : List Value), valsB xs us = true → Vals xs us
  | [], [], _ => .nil
  | .str x :: r, .str y t :: s, h => by
    rw [valsB, Bool.and_eq_true, decide_eq_true_eq] at h
    obtain ⟨rfl, h⟩ := h
    exact .cons ⟨t, rfl⟩ (vals_of r s h)
  | .int i :: r, .int j t :: s, h => by
    rw [valsB, Bool.and_eq_true, decide_eq_true_eq] at h
    obtain ⟨rfl, h⟩ := h
    exact .cons ⟨t, rfl⟩ (vals_of r s h)
  | .non :: r, .none :: s, h => .cons rfl (vals_of r s h)
  | .ref a :: r, .ref b :: s, h => by
    rw [valsB, Bool.and_eq_true, decide_eq_true_eq] at h
    obtain ⟨rfl, h⟩ := h
    exact .cons rfl (vals_of r s h)
def tupB (K : PySem.W.Frag) (a : Addr) (xs : List V) : Bool := match K.lookup a with
  | some ⟨.type c, _, .seq its _, _⟩ => decide (c = "tuple") && (decide (its.size ≤ 1000) && valsB xs its.toList)
  | _ => false
theorem tup_of {K : PySem.W.Frag} {a : Addr} {xs : List V} (b : tupB K a xs = true) : ∀ H, SqT K H a xs := fun H => by
  unfold tupB at b
  split at b
  · rename_i c od its n sl e
    rw [Bool.and_eq_true, Bool.and_eq_true, decide_eq_true_eq, decide_eq_true_eq] at b
    obtain ⟨rfl, h1, h2⟩ := b
    exact .inr ⟨_, its, n, e, rfl, rfl, Nat.le_trans h1 (by decide), vals_of _ _ h2⟩
  · cases b
/-- what the dict at a tells for the key x -/
def inB (K : PySem.W.Frag) (a : Addr) (x : Str) (f : Addr) : Bool := decide (PySem.W.nsIn K a x = some (some (.ref f)))
def notB (K : PySem.W.Frag) (a : Addr) (x : Str) : Bool := decide (PySem.W.nsIn K a x = some none)
def addr (K : PySem.W.Frag) (a : Addr) (i : Nat) : Addr := match K.lookup a with
  | some ⟨_, _, .seq its _, _⟩ => (match its.toList[i]? with
    | some (.ref b) => b
    | _ => 0)
  | _ => 0
end Hf
/-! ## The run's equation in parts: what is looked at is cut, each part has a run of its own -/
namespace Hf
open PySem PySem.W PySem.Calls PySem.Spec PyProof.Rows L2 Hx
structure Part where
  fa : List He.Fa := []
  fn : List He.DefD := []
  ts : List He.Tab := []
  ex : List Tst := []
def Part.obs (p : Part) (K : PySem.W.Frag) : He.AlX := obsN p.fa p.fn p.ts p.ex K
def Part.val (p : Part) (w : World) : He.AlX := valN p.fn p.ts w
abbrev Part.Says (p : Part) (w : World) (K : PySem.W.Frag) : Prop := Hf.Says p.fa p.fn p.ts p.ex w K
def obP (p : Part) (s : PySem.W.SharedT) : He.AlX := p.obs (frN (HandSHeadRun.getT s) s.n)
def obL (ps : List Part) (s : PySem.W.SharedT) : List He.AlX := ps.map fun p => obP p s
theorem map_of : ∀ {ps : List Part} {K : PySem.W.Frag} {w : World}, (ps.map fun p => p.obs K) = (ps.map fun p => p.val w) → ∀ p ∈ ps, p.obs K = p.val w
  | [], _, _, _, p, h => by cases h
  | a :: r, K, w, e, p, h => by
    have e1 : a.obs K = a.val w ∧ (r.map fun p => p.obs K) = (r.map fun p => p.val w) := by
      have e' : a.obs K :: (r.map fun p => p.obs K) = a.val w :: (r.map fun p => p.val w) := e
      exact ⟨List.head_eq_of_cons_eq e', List.tail_eq_of_cons_eq e'⟩
    rcases List.mem_cons.mp h with rfl | h
    · exact e1.1
    · exact map_of e1.2 p h
def hookP (ps : List Part) : PySem.W.Hook where
  α := List He.AlX
  obs := fun s => ps.map fun p => p.obs (frN s.heap.get? s.heap.objs.size)
  val := fun w => ps.map fun p => p.val w
  says := fun w h => ∃ K : PySem.W.Frag, K.In h ∧ ∀ p ∈ ps, p.Says w K
  of := fun _ _ e => ⟨_, He.frG_in, fun p hp => ⟨congrArg (fun z : He.AlX => z.1) (map_of e p hp), congrArg (fun z : He.AlX => z.2) (map_of e p hp)⟩⟩
  keeps := fun _ _ _ ⟨K, hK, c⟩ k => ⟨K, PySem.W.Frag.In.keeps hK k, c⟩
theorem obL_eq (ps : List Part) (s : PySem.W.SharedT) : obL ps s = (hookP ps).obs s.abs := by
  have e : HandSHeadRun.getT s = s.abs.heap.get? := funext fun a => HandSHeadRun.getT_eq s a
  have n : s.abs.heap.objs.size = s.n := PySem.W.absHeap_size s.tree s.n s.life
  show (ps.map fun p => p.obs (frN (HandSHeadRun.getT s) s.n)) = (ps.map fun p => p.obs (frN s.abs.heap.get? s.abs.heap.objs.size))
  rw [e, n]
noncomputable abbrev endN (r : PySem.W.OpenRow) (M : Nat) (w : World) (os : OsState) : Option PySem.W.SharedT := HandSHeadRun.endF (HandSHeadRun.stepQ (HandSHeadRun.denQ HandSHeadRun.tabQ) r.prog w) M r.prog w os
def RunA (r : PySem.W.OpenRow) (q : Program) (M : Nat) (loose : List PySem.Str) (w : World) : Prop := ∀ os : OsState, (endN r M w os).map (fun s => (HandSHeadRun.looksF r.prog (boot_heap w.params) s.abs, HandSHeadRun.seenQ q loose (importedModules r.prog.main.body) (fun s => PySem.W.xlAt q [] s && PySem.W.recOk r.toRowW.records s) s.abs)) = some (true, PySem.W.openGood q loose)
def RunB (r : PySem.W.OpenRow) (M : Nat) (p : Part) (w : World) : Prop := ∀ os : OsState, (endN r M w os).map (obP p) = some (p.val w)
theorem run_all {r : PySem.W.OpenRow} {q : Program} {M : Nat} {loose : List PySem.Str} {ps : List Part} {w : World} (a : RunA r q M loose w) (b : ∀ p ∈ ps, RunB r M p w) : HandSHeadRun.RunEq r q (hookP ps) (obL ps) M loose w := fun os => by
  obtain ⟨s, e, h⟩ := Option.map_eq_some_iff.mp (a os)
  obtain ⟨h1, h2⟩ := Prod.mk.inj h
  have hb : obL ps s = ps.map fun p => p.val w := by
    refine List.map_congr_left fun p hp => ?_
    have z := b p hp os
    rw [e] at z
    exact Option.some.inj z
  show (endN r M w os).map _ = _
  rw [e]
  exact congrArg some (Prod.ext h1 (Prod.ext h2 hb))
end Hf
/-! ## The same with empty tables of code objects left out, for defs that make lambdas -/
namespace Hf
open PySem PySem.W PySem.Calls PySem.Spec PyProof.Rows L2 Hx
/-- all objects but the empty tables -/
def frE (g : Addr → Option Obj) (n : Nat) : PySem.W.Frag := He.frT g (mainGlobals :: asN n)
def obPE (p : Part) (s : PySem.W.SharedT) : He.AlX := p.obs (frE (HandSHeadRun.getT s) s.n)
def tabE (tf : List He.Defn) (s : PySem.W.SharedT) : Bool := He.tabsB (HandSHeadRun.getT s) tf (frE (HandSHeadRun.getT s) s.n)
def obLE (ps : List Part) (tf : List He.Defn) (s : PySem.W.SharedT) : List He.AlX × Bool := (ps.map fun p => obPE p s, tabE tf s)
structure TabsOf (tf : List He.Defn) (K : PySem.W.Frag) (h : Heap) : Prop where
  hd : ∀ p ∈ tf, PySem.W.codeHdIn K (He.cT K p).1 (He.cT K p).2 = true
  out : ∀ p ∈ tf, K.lookup (He.cT K p).2 = none
  empty : ∀ p ∈ tf, h.get? (He.cT K p).2 = some { cls := .none, data := .fields #[] }
theorem tabs_of {tf : List He.Defn} {h : Heap} {as : List Addr} (e : He.tabsB h.get? tf (He.frT h.get? as) = true) : TabsOf tf (He.frT h.get? as) h := by
  have key : ∀ p ∈ tf, PySem.W.codeHdIn (He.frT h.get? as) (He.cT (He.frT h.get? as) p).1 (He.cT (He.frT h.get? as) p).2 = true ∧ ∃ o, h.get? (He.cT (He.frT h.get? as) p).2 = some o ∧ He.emptyTab o = true := fun p hp => by
    obtain ⟨h3, h4⟩ := Bool.and_eq_true_iff.mp (List.all_eq_true.mp e p hp)
    refine ⟨h3, ?_⟩
    cases q : h.get? (He.cT (He.frT h.get? as) p).2 with
    | none =>
      rw [q] at h4
      cases h4
    | some o =>
      rw [q] at h4
      exact ⟨o, rfl, h4⟩
  exact ⟨fun p hp => (key p hp).1, fun p hp => by
    obtain ⟨_, o, q, z⟩ := key p hp
    exact He.frT_none q z, fun p hp => by
    obtain ⟨_, o, q, z⟩ := key p hp
    rw [q, He.emptyTab_eq z]⟩
def hookE (ps : List Part) (tf : List He.Defn) : PySem.W.Hook where
  α := List He.AlX × Bool
  obs := fun s => (ps.map fun p => p.obs (frE s.heap.get? s.heap.objs.size), He.tabsB s.heap.get? tf (frE s.heap.get? s.heap.objs.size))
  val := fun w => (ps.map fun p => p.val w, true)
  says := fun w h => ∃ K : PySem.W.Frag, K.In h ∧ (∀ p ∈ ps, p.Says w K) ∧ TabsOf tf K h
  of := fun _ _ e => by
    have e1 := congrArg (fun z : List He.AlX × Bool => z.1) e
    have e2 := congrArg (fun z : List He.AlX × Bool => z.2) e
    exact ⟨_, He.frT_in, fun p hp => ⟨congrArg (fun z : He.AlX => z.1) (map_of e1 p hp), congrArg (fun z : He.AlX => z.2) (map_of e1 p hp)⟩, tabs_of e2⟩
  keeps := fun _ _ _ ⟨K, hK, c, t⟩ k => ⟨K, PySem.W.Frag.In.keeps hK k, c, t.hd, t.out, fun p hp => k _ _ (t.empty p hp)⟩
theorem obLE_eq (ps : List Part) (tf : List He.Defn) (s : PySem.W.SharedT) : obLE ps tf s = (hookE ps tf).obs s.abs := by
  have e : HandSHeadRun.getT s = s.abs.heap.get? := funext fun a => HandSHeadRun.getT_eq s a
  have n : s.abs.heap.objs.size = s.n := PySem.W.absHeap_size s.tree s.n s.life
  show (ps.map fun p => p.obs (frE (HandSHeadRun.getT s) s.n), He.tabsB (HandSHeadRun.getT s) tf (frE (HandSHeadRun.getT s) s.n)) = (ps.map fun p => p.obs (frE s.abs.heap.get? s.abs.heap.objs.size), He.tabsB s.abs.heap.get? tf (frE s.abs.heap.get? s.abs.heap.objs.size))
  rw [e, n]
def RunBE (r : PySem.W.OpenRow) (M : Nat) (p : Part) (w : World) : Prop := ∀ os : OsState, (endN r M w os).map (obPE p) = some (p.val w)
def RunTE (r : PySem.W.OpenRow) (M : Nat) (tf : List He.Defn) (w : World) : Prop := ∀ os : OsState, (endN r M w os).map (tabE tf) = some true
theorem run_allE {r : PySem.W.OpenRow} {q : Program} {M : Nat} {loose : List PySem.Str} {ps : List Part} {tf : List He.Defn} {w : World} (a : RunA r q M loose w) (b : ∀ p ∈ ps, RunBE r M p w) (t : RunTE r M tf w) : HandSHeadRun.RunEq r q (hookE ps tf) (obLE ps tf) M loose w := fun os => by
  obtain ⟨s, e, h⟩ := Option.map_eq_some_iff.mp (a os)
  obtain ⟨h1, h2⟩ := Prod.mk.inj h
  have hb : (ps.map fun p => obPE p s) = ps.map fun p => p.val w := by
    refine List.map_congr_left fun p hp => ?_
    have z := b p hp os
    rw [e] at z
    exact Option.some.inj z
  have ht : tabE tf s = true := by
    have z := t os
    rw [e] at z
    exact Option.some.inj z
  show (endN r M w os).map _ = _
  rw [e]
  exact congrArg some (Prod.ext h1 (Prod.ext h2 (Prod.ext hb ht)))
end Hf
namespace H2
open PySem PySem.Spec PyProof.Rows L2 Hx Nd Dun
def top (i : Nat) : Stmt := PySem.Challenge.pw_heapcode_k36_places_items_and_heaps.main.body.getD i (.Pass ⟨0, 0, 0, 0⟩)
abbrev sBag : Stmt := top 116
abbrev sDraw : Stmt := top 117
section
variable {P : Program} {w : World} {K : PySem.W.Frag} {mg : Str → Option Value} {base : Heap} {D : Addr}

abbrev iBadKind : Stmt := inClass (top 8) 0
theorem scBadKind : FnScope ["self", "kind"] ["self", "kind"] (defScope iBadKind) := ⟨rfl, rfl, rfl, by decide +kernel, rfl, by decide +kernel, by decide +kernel⟩
theorem okBadKind {fI : Addr} {fd : FuncData} (F : Fun K "__init__" "BadKind.__init__" iBadKind fI fd) (B : BaseT K mg D) : FnOk P w K mg base CX0 1 fI fd ["self", "kind"] (spI1 K "kind") := by
  refine F.ok scBadKind (fun vs H Q E h => ?_) (fun cdv A outer s H vs Q E hr h => ?_)
  · obtain ⟨a, C, v, rfl, _⟩ := h
    rfl
  · obtain ⟨a, C, v, rfl, T, n1, ea, q⟩ := h
    refine ⟨_, pss_cons (ps_expr (pe_binit B.gB B.rdB B.fcB (pa_cons (pv 0) (pa_cons pe_str pa_nil)))) (pss_one (ps_ost (pv 0) (pv 1))), ?_⟩
    refine ⟨_, rfl, a, C, _, rfl, (by show 1 ≤ 1000; decide), T, ea, _, rfl, _, rfl, a, C, rfl, T, n1, .inl ⟨ea, fun dx nd ne => ?_⟩⟩
    exact q dx nd ne
abbrev iBadWidth : Stmt := inClass (top 9) 0
theorem scBadWidth : FnScope ["self", "width"] ["self", "width"] (defScope iBadWidth) := ⟨rfl, rfl, rfl, by decide +kernel, rfl, by decide +kernel, by decide +kernel⟩
theorem okBadWidth {fI : Addr} {fd : FuncData} (F : Fun K "__init__" "BadWidth.__init__" iBadWidth fI fd) (B : BaseT K mg D) : FnOk P w K mg base CX0 1 fI fd ["self", "width"] (spI1 K "width") := by
  refine F.ok scBadWidth (fun vs H Q E h => ?_) (fun cdv A outer s H vs Q E hr h => ?_)
  · obtain ⟨a, C, v, rfl, _⟩ := h
    rfl
  · obtain ⟨a, C, v, rfl, T, n1, ea, q⟩ := h
    refine ⟨_, pss_cons (ps_expr (pe_binit B.gB B.rdB B.fcB (pa_cons (pv 0) (pa_cons pe_str pa_nil)))) (pss_one (ps_ost (pv 0) (pv 1))), ?_⟩
    refine ⟨_, rfl, a, C, _, rfl, (by show 1 ≤ 1000; decide), T, ea, _, rfl, _, rfl, a, C, rfl, T, n1, .inl ⟨ea, fun dx nd ne => ?_⟩⟩
    exact q dx nd ne
abbrev iBadLine : Stmt := inClass (top 10) 0
theorem scBadLine : FnScope ["self", "line"] ["self", "line"] (defScope iBadLine) := ⟨rfl, rfl, rfl, by decide +kernel, rfl, by decide +kernel, by decide +kernel⟩
theorem okBadLine {fI : Addr} {fd : FuncData} (F : Fun K "__init__" "BadLine.__init__" iBadLine fI fd) (B : BaseT K mg D) : FnOk P w K mg base CX0 1 fI fd ["self", "line"] (spI1 K "line") := by
  refine F.ok scBadLine (fun vs H Q E h => ?_) (fun cdv A outer s H vs Q E hr h => ?_)
  · obtain ⟨a, C, v, rfl, _⟩ := h
    rfl
  · obtain ⟨a, C, v, rfl, T, n1, ea, q⟩ := h
    refine ⟨_, pss_cons (ps_expr (pe_binit B.gB B.rdB B.fcB (pa_cons (pv 0) (pa_cons pe_str pa_nil)))) (pss_one (ps_ost (pv 0) (pv 1))), ?_⟩
    refine ⟨_, rfl, a, C, _, rfl, (by show 1 ≤ 1000; decide), T, ea, _, rfl, _, rfl, a, C, rfl, T, n1, .inl ⟨ea, fun dx nd ne => ?_⟩⟩
    exact q dx nd ne
abbrev iRefused : Stmt := inClass (top 11) 0
theorem scRefused : FnScope ["self", "line"] ["self", "line"] (defScope iRefused) := ⟨rfl, rfl, rfl, by decide +kernel, rfl, by decide +kernel, by decide +kernel⟩
theorem okRefused {fI : Addr} {fd : FuncData} (F : Fun K "__init__" "Refused.__init__" iRefused fI fd) (B : BaseT K mg D) : FnOk P w K mg base CX0 1 fI fd ["self", "line"] (spI1 K "line") := by
  refine F.ok scRefused (fun vs H Q E h => ?_) (fun cdv A outer s H vs Q E hr h => ?_)
  · obtain ⟨a, C, v, rfl, _⟩ := h
    rfl
  · obtain ⟨a, C, v, rfl, T, n1, ea, q⟩ := h
    refine ⟨_, pss_cons (ps_expr (pe_binit B.gB B.rdB B.fcB (pa_cons (pv 0) (pa_cons pe_str pa_nil)))) (pss_one (ps_ost (pv 0) (pv 1))), ?_⟩
    refine ⟨_, rfl, a, C, _, rfl, (by show 1 ≤ 1000; decide), T, ea, _, rfl, _, rfl, a, C, rfl, T, n1, .inl ⟨ea, fun dx nd ne => ?_⟩⟩
    exact q dx nd ne
abbrev iBadItem : Stmt := inClass (top 12) 0
theorem scBadItem : FnScope ["self", "index"] ["self", "index"] (defScope iBadItem) := ⟨rfl, rfl, rfl, by decide +kernel, rfl, by decide +kernel, by decide +kernel⟩
theorem okBadItem {fI : Addr} {fd : FuncData} (F : Fun K "__init__" "BadItem.__init__" iBadItem fI fd) (B : BaseT K mg D) : FnOk P w K mg base CX0 1 fI fd ["self", "index"] (spI1 K "index") := by
  refine F.ok scBadItem (fun vs H Q E h => ?_) (fun cdv A outer s H vs Q E hr h => ?_)
  · obtain ⟨a, C, v, rfl, _⟩ := h
    rfl
  · obtain ⟨a, C, v, rfl, T, n1, ea, q⟩ := h
    refine ⟨_, pss_cons (ps_expr (pe_binit B.gB B.rdB B.fcB (pa_cons (pv 0) (pa_cons pe_str pa_nil)))) (pss_one (ps_ost (pv 0) (pv 1))), ?_⟩
    refine ⟨_, rfl, a, C, _, rfl, (by show 1 ≤ 1000; decide), T, ea, _, rfl, _, rfl, a, C, rfl, T, n1, .inl ⟨ea, fun dx nd ne => ?_⟩⟩
    exact q dx nd ne
abbrev iBadCase : Stmt := inClass (top 13) 0
theorem scBadCase : FnScope ["self", "what"] ["self", "what"] (defScope iBadCase) := ⟨rfl, rfl, rfl, by decide +kernel, rfl, by decide +kernel, by decide +kernel⟩
theorem okBadCase {fI : Addr} {fd : FuncData} (F : Fun K "__init__" "BadCase.__init__" iBadCase fI fd) (B : BaseT K mg D) : FnOk P w K mg base CX0 1 fI fd ["self", "what"] (spI1 K "what") := by
  refine F.ok scBadCase (fun vs H Q E h => ?_) (fun cdv A outer s H vs Q E hr h => ?_)
  · obtain ⟨a, C, v, rfl, _⟩ := h
    rfl
  · obtain ⟨a, C, v, rfl, T, n1, ea, q⟩ := h
    refine ⟨_, pss_cons (ps_expr (pe_binit B.gB B.rdB B.fcB (pa_cons (pv 0) (pa_cons pe_str pa_nil)))) (pss_one (ps_ost (pv 0) (pv 1))), ?_⟩
    refine ⟨_, rfl, a, C, _, rfl, (by show 1 ≤ 1000; decide), T, ea, _, rfl, _, rfl, a, C, rfl, T, n1, .inl ⟨ea, fun dx nd ne => ?_⟩⟩
    exact q dx nd ne
abbrev iTooMany : Stmt := inClass (top 14) 0
theorem scTooMany : FnScope ["self", "what", "many", "most"] ["self", "what", "many", "most"] (defScope iTooMany) := ⟨rfl, rfl, rfl, by decide +kernel, rfl, by decide +kernel, by decide +kernel⟩
theorem okTooMany {fI : Addr} {fd : FuncData} (F : Fun K "__init__" "TooMany.__init__" iTooMany fI fd) (B : BaseT K mg D) : FnOk P w K mg base CX0 1 fI fd ["self", "what", "many", "most"] (spI3 K "what" "many" "most") := by
  refine F.ok scTooMany (fun vs H Q E h => ?_) (fun cdv A outer s H vs Q E hr h => ?_)
  · obtain ⟨a, C, u, v, z, rfl, _⟩ := h
    rfl
  · obtain ⟨a, C, u, v, z, rfl, T, n1, n2, n3, ea, q⟩ := h
    refine ⟨_, pss_cons (ps_expr (pe_binit B.gB B.rdB B.fcB (pa_cons (pv 0) (pa_cons pe_str pa_nil)))) (pss_cons (ps_ost (pv 0) (pv 1)) (pss_cons (ps_ost (pv 0) (pv 2)) (pss_one (ps_ost (pv 0) (pv 3))))), ?_⟩
    refine ⟨_, rfl, a, C, _, rfl, (by show 1 ≤ 1000; decide), T, ea, _, rfl, _, rfl, a, C, rfl, T, n1, .inl ⟨ea, fun dx nd ne => ?_⟩⟩
    refine ⟨_, rfl, _, rfl, a, C, rfl, T, n2, .inr ⟨dx, _, upd_same, (by rw [upd_ne ne, upd_same]), (by show 1 ≤ 900; decide), ?_⟩⟩
    refine ⟨_, rfl, _, rfl, a, C, rfl, T, n3, .inr ⟨dx, _, (by rw [upd_ne ne.symm, upd_same]), upd_same, (by show 2 ≤ 900; decide), ?_⟩⟩
    exact q dx nd ne
theorem scBag : FnScope ["_law_script", "_law_fold", "_law_cell"] ["_law_script"] (defScope sBag) := ⟨rfl, rfl, rfl, by decide +kernel, rfl, by decide +kernel, by decide +kernel⟩
theorem ok_bag {f : Addr} {fd : FuncData} (F : Fun K "_law_bag" "_law_bag" sBag f fd) (B : BltT mg) : FnOk P w K mg base CX0 1 f fd ["_law_script"] (spBag K) := by
  refine F.ok scBag (fun vs H Q E h => ?_) (fun cdv A outer s H vs Q E hr h => ?_)
  · obtain ⟨a, ns, rfl, _⟩ := h
    rfl
  · obtain ⟨a, ns, rfl, hS, hl, q⟩ := h
    refine ⟨_, pss_cons (ps_set (i := 1) scBag.nd rfl (Or.inl rfl) pe_int)
      (pss_cons (ps_for PassesOwn.never rfl (pi_list (pv 0)) (pg_name (i := 2) scBag.nd rfl (Or.inl rfl))
        (pss_one (ps_set (i := 1) scBag.nd rfl (Or.inl rfl) (pe_op op_mod (pe_callTy call_int1 (by rfl) B.int (by decide +kernel) (pa_cons (pe_op op_add (pe_op op_mul (pv 1) pe_int) (pv 2)) pa_nil)) pe_int))))
      (pss_one (ps_ret (pe_disp (pps_cons pe_str (pe_callTy call_list_of (by rfl) B.list (by decide +kernel) (pa_cons (pv 0) pa_nil)) (pps_cons pe_str pe_int (pps_cons pe_str pe_int (pps_cons pe_str pe_int (pps_cons pe_str (pv 1) pps_nil))))) (by rfl) (by rfl) (fun z => by cases z) (by decide))))), ?_⟩
    refine ⟨_, rfl, a, rfl, ⟨_, hS⟩, for_list (K := K) (a := a) (xs := ns.map V.int) (fun i σ H' => H' = H ∧ ∃ (fo : Int) (v : Option V), σ = [some (.ref a), some (.int fo), v] ∧ 0 ≤ fo ∧ fo < 1000000009)
      ⟨rfl, 0, none, rfl, by decide, by decide⟩ (fun i σ H' _ ⟨e, _⟩ => by rw [e]; exact hS) ?_ ?_⟩
    · rintro i y σ H' hi ⟨rfl, fo, v, rfl, h0, h1⟩
      obtain ⟨u, rfl⟩ : ∃ u, y = V.int u := by
        rw [List.getElem?_map] at hi
        cases e : ns[i]? with
        | none => rw [e] at hi; cases hi
        | some u => rw [e] at hi; exact ⟨u, (Option.some.inj hi).symm⟩
      refine ⟨_, rfl, _, _, rfl, rfl, .inl ⟨by omega, by omega⟩, _, rfl, _, _, rfl, rfl, .inl ⟨_, rfl, _, _, rfl, rfl, (by show (0 : Int) < 1000000009; decide), ?_⟩⟩
      exact ⟨rfl, _, _, rfl, Int.emod_nonneg _ (by decide), Int.emod_lt_of_pos _ (by decide)⟩
    · rintro σ H' ⟨rfl, fo, v, rfl, h0, h1⟩
      refine fun p hp => ?_
      refine ⟨_, rfl, a, _, rfl, .inl (L2.Same.seq (new_same hp) hS), fun l hl' => ?_⟩
      have npl : p ≠ l := fun e => by rw [e, upd_same] at hl'; cases hl'
      have lnone : H' l = none := by rw [upd_ne npl.symm] at hl'; exact hl'
      refine ⟨_, rfl, ?_, [(kC, .ref l), (kA, .int 0), (kD, .int 0), (kN, .int 0), (kF, .int fo)], rfl, (by show 5 ≤ 15; decide), ?_⟩
      · rw [upd_ne npl, upd_same]
      · have em : mergeK [] [(kC, V.ref l), (kA, .int 0), (kD, .int 0), (kN, .int 0), (kF, .int fo)] = bagK l 0 0 0 fo := by
          simp [mergeK, putK, bagK, strN nCA, strN nCD, strN nCN, strN nCF, strN nAD, strN nAN, strN nAF, strN nDN, strN nDF, strN nNF]
        refine q p _ hp (fun b o e => ?_) ⟨l, ns, 0, 0, fo, (by rw [upd_same, em]; rfl), (by rw [upd_ne npl.symm, upd_same]), hl, by decide, by decide, h0, by omega⟩
        rw [upd_ne (ne_of_none e hp), upd_ne (ne_of_none e lnone), upd_ne (ne_of_none e hp)]
        exact e
theorem scDraw : FnScope ["_law_bag_here", "_law_limit", "_law_cell", "_law_digit", "_law_base"] ["_law_bag_here", "_law_limit"] (defScope sDraw) := ⟨rfl, rfl, rfl, by decide +kernel, rfl, by decide +kernel, by decide +kernel⟩
theorem ok_draw {f : Addr} {fd : FuncData} (F : Fun K "_law_draw" "_law_draw" sDraw f fd) (B : BltT mg) : FnOk P w K mg base CX0 1 f fd ["_law_bag_here", "_law_limit"] spDraw := by
  refine F.ok scDraw (fun vs H Q E h => ?_) (fun cdv A outer s H vs Q E hr h => ?_)
  · obtain ⟨p, n, m, rfl, _⟩ := h
    rfl
  · obtain ⟨p, n, m, rfl, ⟨l, ns, i, dg, fo, hp, hl, hlen, i0, d0, f0, f1⟩, hn, m0, m1, q⟩ := h
    have hu := hu_of hr
    have npl : l ≠ p := ne_of hl hp (by intro z; cases z)
    refine ⟨_, pss_cons (ps_dput hu (pv 0) pe_str (pe_op op_add (pe_dget hu (pv 0) pe_str (fun _ _ => rfl)) pe_int) rfl)
      (Evl.pss_cut (ps_if (PW.pt (pw_and (pt_cmpR op_eq (pe_dget hu (pv 0) pe_str (fun _ _ => rfl)) pe_int (nomark _)) (pw_and1 (pt_cmpR op_lt (pe_dget hu (pv 0) pe_str (fun _ _ => rfl)) (pe_callB call_len_seq (by rfl) B.len PySem.boot_len (pa_cons (pe_dget hu (pv 0) pe_str (fun _ _ => rfl)) pa_nil)) (nomark _)))))
          (pss_cons (ps_set (i := 2) scDraw.nd rfl (Or.inl rfl) (pe_ix ix_list (pe_dget hu (pv 0) pe_str (fun _ _ => rfl)) (pe_dget hu (pv 0) pe_str (fun _ _ => rfl)) (fun _ _ => rfl)))
          (pss_cons (ps_dput hu (pv 0) pe_str (pe_op op_add (pe_dget hu (pv 0) pe_str (fun _ _ => rfl)) pe_int) rfl)
          (pss_one (ps_if (pt_cmpR op_ge (pv 2) (pe_op op_pow pe_int pe_int) (nomark _))
            (pss_one (ps_dput hu (pv 0) pe_str (pe_op op_sub (pv 2) (pe_op op_pow pe_int pe_int)) rfl))
            (pss_one (ps_dput hu (pv 0) pe_str (pe_op op_mod (pe_callTy call_int1 (by rfl) B.int (by decide +kernel) (pa_cons (pe_op op_add (pe_op op_mul (pe_dget hu (pv 0) pe_str (fun _ _ => rfl)) pe_int) (pv 2)) pa_nil)) pe_int) rfl))))))
          pss_nil)
      (pss_cons (ps_if (pt_cmpR op_gt (pe_dget hu (pv 0) pe_str (fun _ _ => rfl)) pe_int (nomark _))
          (pss_cons (ps_set (i := 3) scDraw.nd rfl (Or.inl rfl) (pe_op op_mod (pe_callTy call_int1 (by rfl) B.int (by decide +kernel) (pa_cons (pe_dget hu (pv 0) pe_str (fun _ _ => rfl)) pa_nil)) (pv 1)))
          (pss_cons (ps_dput hu (pv 0) pe_str (pe_op op_fdivW (pe_dget hu (pv 0) pe_str (fun _ _ => rfl)) (pv 1)) rfl)
          (pss_one (ps_ret (pv 3)))))
          pss_nil)
      (pss_cons (ps_set (i := 4) scDraw.nd rfl (Or.inl rfl) (pe_op op_add (pe_op op_add (pe_dget hu (pv 0) pe_str (fun _ _ => rfl)) (pe_op op_mul (pe_dget hu (pv 0) pe_str (fun _ _ => rfl)) pe_int)) pe_int))
      (pss_one (ps_ret (pe_op op_mod (pe_op op_fdiv (pe_callTy call_int1 (by rfl) B.int (by decide +kernel) (pa_cons (pe_op op_mod (pe_op op_pow (pv 4) pe_int) pe_int) pa_nil)) pe_int) (pv 1))))))), ?_⟩
    have five : ∀ {l i dg ct fo}, (bagK l i dg ct fo).length < sizeLine := fun {l i dg ct fo} => by show 5 < sizeLine; decide
    -- bag["count"] = bag["count"] + 1
    refine ⟨_, rfl, p, _, rfl, (show DGet _ _ (kV kN) _ from by rw [← gN l i dg n fo]; exact DGet.k hp), _, _, rfl, rfl, _, rfl, p, _, rfl, DPut.k (k := kN) hp five, ?_⟩
    rw [pN]
    -- Mid: a bag again, with one more
    refine ⟨fun σ G => ∃ v : Option V, σ = [some (.ref p), some (.int m), v, none, none] ∧ Bag G p (n + 1) ∧ But p H G, ?_, ?_⟩
    · have hp1 : (upd H p (.dK (bagK l i dg ((n : Int) + 1) fo))) p = some (.dK (bagK l i dg ((n : Int) + 1) fo)) := upd_same
      have hl1 : ∀ o, (upd H p o) l = some (.lst (ns.map V.int)) := fun o => by rw [upd_ne npl]; exact hl
      have en : ((n : Int) + 1) = ((n + 1 : Nat) : Int) := by omega
      have mid : ∀ (i dg fo : Int), 0 ≤ i → 0 ≤ dg → 0 ≤ fo → fo < 2147483587 → Bag (upd H p (.dK (bagK l i dg ((n : Int) + 1) fo))) p (n + 1) := fun i dg fo a b c d =>
        ⟨l, ns, i, dg, fo, (by rw [upd_same, en]), hl1 _, hlen, a, b, c, d⟩
      refine ⟨_, rfl, p, _, rfl, (show DGet _ _ (kV kD) _ from by rw [← gD l i dg ((n : Int) + 1) fo]; exact DGet.k hp1), rfl, _, rfl, ?_⟩
      refine ite2 (fun c => ?_) (fun c => ?_)
      · refine ⟨_, rfl, p, _, rfl, (show DGet _ _ (kV kA) _ from by rw [← gA l i dg ((n : Int) + 1) fo]; exact DGet.k hp1), _, rfl, p, _, rfl, (show DGet _ _ (kV kC) _ from by rw [← gC l i dg ((n : Int) + 1) fo]; exact DGet.k hp1), l, _, rfl, .inl (SqL.of (hl1 _)), _, _, rfl, rfl, _, rfl, ?_⟩
        refine ite2 (fun c2 => ?_) (fun c2 => ?_)
        · have c3 : i < (ns.length : Int) := by
            have z := of_decide_eq_true c2
            rw [List.length_map] at z
            exact z
          obtain ⟨v, hv⟩ : ∃ v, ns[i.toNat]? = some v := ⟨_, List.getElem?_eq_getElem (by omega)⟩
          have hat : atI (ns.map V.int) i = some (.int v) := at_of (j := i.toNat) (by omega) (by rw [List.getElem?_map, hv] <;> rfl)
          refine ⟨_, rfl, p, _, rfl, (show DGet _ _ (kV kC) _ from by rw [← gC l i dg ((n : Int) + 1) fo]; exact DGet.k hp1), _, rfl, p, _, rfl, (show DGet _ _ (kV kA) _ from by rw [← gA l i dg ((n : Int) + 1) fo]; exact DGet.k hp1), l, _, _, _, rfl, rfl, SqL.of (hl1 _), hat, ?_⟩
          refine ⟨_, rfl, p, _, rfl, (show DGet _ _ (kV kA) _ from by rw [← gA l i dg ((n : Int) + 1) fo]; exact DGet.k hp1), _, _, rfl, rfl, _, rfl, p, _, rfl, DPut.k (k := kA) hp1 five, ?_⟩
          rw [pA, upd_upd]
          have hp2 : (upd H p (.dK (bagK l (i + 1) dg ((n : Int) + 1) fo))) p = some (.dK (bagK l (i + 1) dg ((n : Int) + 1) fo)) := upd_same
          refine ⟨_, rfl, _, _, rfl, rfl, ⟨by decide, by decide, by decide⟩, _, _, rfl, rfl, _, rfl, ?_⟩
          refine ite2 (fun c4 => ?_) (fun c4 => ?_)
          · have c5 : v ≥ (10 : Int) ^ (18 : Int).toNat := of_decide_eq_true c4
            refine ⟨_, rfl, _, _, rfl, rfl, ⟨by decide, by decide, by decide⟩, _, _, rfl, rfl, _, rfl, p, _, rfl, DPut.k (k := kD) hp2 five, ?_⟩
            rw [pD, upd_upd]
            exact ⟨_, rfl, mid _ _ _ (by omega) (Int.sub_nonneg_of_le c5) f0 f1, But.upd⟩
          · refine ⟨_, rfl, p, _, rfl, (show DGet _ _ (kV kF) _ from by rw [← gF l (i + 1) dg ((n : Int) + 1) fo]; exact DGet.k hp2), _, _, rfl, rfl, .inl ⟨by omega, by omega⟩, _, rfl, _, _, rfl, rfl, .inl ⟨_, rfl, _, _, rfl, rfl, (by show (0 : Int) < 2147483587; decide), _, rfl, p, _, rfl, DPut.k (k := kF) hp2 five, ?_⟩⟩
            rw [pF, upd_upd]
            exact ⟨_, rfl, mid _ _ _ (by omega) d0 (Int.emod_nonneg _ (by decide)) (Int.emod_lt_of_pos _ (by decide)), But.upd⟩
        · exact ⟨_, rfl, mid _ _ _ i0 d0 f0 f1, But.upd⟩
      · exact ⟨_, rfl, mid _ _ _ i0 d0 f0 f1, But.upd⟩
    · rintro σ G ⟨v, rfl, ⟨l, ns, i, dg, fo, hp, hl, hlen, i0, d0, f0, f1⟩, hB⟩
      have npl : l ≠ p := ne_of hl hp (by intro z; cases z)
      have hc : ((n + 1 : Nat) : Int) = (n : Int) + 1 := by omega
      refine ⟨_, rfl, p, _, rfl, (show DGet _ _ (kV kD) _ from by rw [← gD l i dg ((n + 1 : Nat) : Int) fo]; exact DGet.k hp), _, _, rfl, rfl, _, rfl, ?_⟩
      refine ite2 (fun c => ?_) (fun c => ?_)
      · refine ⟨_, rfl, p, _, rfl, (show DGet _ _ (kV kD) _ from by rw [← gD l i dg ((n + 1 : Nat) : Int) fo]; exact DGet.k hp), .inl ⟨_, rfl, _, rfl, _, _, rfl, rfl, m0, ?_⟩⟩
        refine ⟨_, rfl, p, _, rfl, (show DGet _ _ (kV kD) _ from by rw [← gD l i dg ((n + 1 : Nat) : Int) fo]; exact DGet.k hp), _, rfl, _, _, rfl, rfl, wide_div m0 m1 (by decide) (by decide), _, rfl, p, _, rfl, DPut.k (k := kD) hp five, ?_⟩
        rw [pD]
        refine ⟨_, rfl, ?_⟩
        refine q _ _ (Int.emod_nonneg _ (by omega)) (Int.emod_lt_of_pos _ m0) ⟨l, ns, i, dg / m, fo, upd_same, by rw [upd_ne npl]; exact hl, hlen, i0, Int.ediv_nonneg d0 (by omega), f0, f1⟩ (hB.trans But.upd)
      · refine ⟨_, rfl, p, _, rfl, (show DGet _ _ (kV kF) _ from by rw [← gF l i dg ((n + 1 : Nat) : Int) fo]; exact DGet.k hp), _, rfl, p, _, rfl, (show DGet _ _ (kV kN) _ from by rw [← gN l i dg ((n + 1 : Nat) : Int) fo]; exact DGet.k hp), _, _, rfl, rfl, .inl ⟨by omega, by omega⟩, _, _, rfl, rfl, _, _, rfl, rfl, ?_⟩
        refine ⟨_, rfl, _, _, rfl, rfl, big17 (by omega) (by omega), _, _, rfl, rfl, (by show (0 : Int) < 2305843009213693951; decide), .inl ⟨_, rfl, _, _, rfl, rfl, ⟨by decide, by decide⟩, _, rfl, _, _, rfl, rfl, m0, ?_⟩⟩
        exact q _ _ (Int.emod_nonneg _ (by omega)) (Int.emod_lt_of_pos _ m0) ⟨l, ns, i, dg, fo, hp, hl, hlen, i0, d0, f0, f1⟩ hB
abbrev s_parent : Stmt := top 2
abbrev n_parent : List Str := ["place", "width"]
theorem c_parent : FnScope n_parent ["place", "width"] (defScope s_parent) := ⟨rfl, rfl, rfl, by decide +kernel, rfl, by decide +kernel, by decide +kernel⟩
abbrev s_child : Stmt := top 3
abbrev n_child : List Str := ["place", "number", "width"]
theorem c_child : FnScope n_child ["place", "number", "width"] (defScope s_child) := ⟨rfl, rfl, rfl, by decide +kernel, rfl, by decide +kernel, by decide +kernel⟩
abbrev s_first_fault : Stmt := top 4
abbrev n_first_fault : List Str := ["items", "width", "place"]
theorem c_first_fault : FnScope n_first_fault ["items", "width"] (defScope s_first_fault) := ⟨rfl, rfl, rfl, by decide +kernel, rfl, by decide +kernel, by decide +kernel⟩
abbrev s_is_heap : Stmt := top 5
abbrev n_is_heap : List Str := ["items", "width"]
theorem c_is_heap : FnScope n_is_heap ["items", "width"] (defScope s_is_heap) := ⟨rfl, rfl, rfl, by decide +kernel, rfl, by decide +kernel, by decide +kernel⟩
abbrev s_read_number : Stmt := top 20
abbrev n_read_number : List Str := ["word", "width"]
theorem c_read_number : FnScope n_read_number ["word", "width"] (defScope s_read_number) := ⟨rfl, rfl, rfl, by decide +kernel, rfl, by decide +kernel, by decide +kernel⟩
abbrev s_read_side : Stmt := top 21
abbrev n_read_side : List Str := ["words", "place", "width", "number"]
theorem c_read_side : FnScope n_read_side ["words", "place", "width"] (defScope s_read_side) := ⟨rfl, rfl, rfl, by decide +kernel, rfl, by decide +kernel, by decide +kernel⟩
abbrev s_read_comparison : Stmt := top 22
abbrev n_read_comparison : List Str := ["words", "place", "width", "signs", "at", "word", "left", "right"]
theorem c_read_comparison : FnScope n_read_comparison ["words", "place", "width"] (defScope s_read_comparison) := ⟨rfl, rfl, rfl, by decide +kernel, rfl, by decide +kernel, by decide +kernel⟩
abbrev s_read_has : Stmt := top 23
abbrev n_read_has : List Str := ["words", "place", "width", "number"]
theorem c_read_has : FnScope n_read_has ["words", "place", "width"] (defScope s_read_has) := ⟨rfl, rfl, rfl, by decide +kernel, rfl, by decide +kernel, by decide +kernel⟩
abbrev s_read_plain_part : Stmt := top 24
abbrev n_read_plain_part : List Str := ["text", "place", "width", "words"]
theorem c_read_plain_part : FnScope n_read_plain_part ["text", "place", "width"] (defScope s_read_plain_part) := ⟨rfl, rfl, rfl, by decide +kernel, rfl, by decide +kernel, by decide +kernel⟩
abbrev s_read_part : Stmt := top 25
abbrev n_read_part : List Str := ["text", "place", "width", "denied", "plain"]
theorem c_read_part : FnScope n_read_part ["text", "place", "width"] (defScope s_read_part) := ⟨rfl, rfl, rfl, by decide +kernel, rfl, by decide +kernel, by decide +kernel⟩
abbrev s_read_test : Stmt := top 26
abbrev n_read_test : List Str := ["text", "place", "width", "parts", "part"]
theorem c_read_test : FnScope n_read_test ["text", "place", "width"] (defScope s_read_test) := ⟨rfl, rfl, rfl, by decide +kernel, rfl, by decide +kernel, by decide +kernel⟩
abbrev s_names_given : Stmt := top 27
abbrev n_names_given : List Str := ["test", "_", "left", "right"]
theorem c_names_given : FnScope n_names_given ["test"] (defScope s_names_given) := ⟨rfl, rfl, rfl, by decide +kernel, rfl, by decide +kernel, by decide +kernel⟩
abbrev s_Row_init : Stmt := inClass (top 32) 0
abbrev n_Row_init : List Str := ["self", "word", "place", "number", "test"]
theorem c_Row_init : FnScope n_Row_init ["self", "word", "place", "number", "test"] (defScope s_Row_init) := ⟨rfl, rfl, rfl, by decide +kernel, rfl, by decide +kernel, by decide +kernel⟩
abbrev s_row_with_test : Stmt := top 33
abbrev n_row_with_test : List Str := ["word", "place", "text", "width", "test"]
theorem c_row_with_test : FnScope n_row_with_test ["word", "place", "text", "width"] (defScope s_row_with_test) := ⟨rfl, rfl, rfl, by decide +kernel, rfl, by decide +kernel, by decide +kernel⟩
abbrev s_row_of_pick : Stmt := top 34
abbrev n_row_of_pick : List Str := ["place", "text", "width", "number"]
theorem c_row_of_pick : FnScope n_row_of_pick ["place", "text", "width"] (defScope s_row_of_pick) := ⟨rfl, rfl, rfl, by decide +kernel, rfl, by decide +kernel, by decide +kernel⟩
abbrev s_row_of_block_word : Stmt := top 35
abbrev n_row_of_block_word : List Str := ["word", "place", "opened", "takers"]
theorem c_row_of_block_word : FnScope n_row_of_block_word ["word", "place", "opened"] (defScope s_row_of_block_word) := ⟨rfl, rfl, rfl, by decide +kernel, rfl, by decide +kernel, by decide +kernel⟩
abbrev s_read_row : Stmt := top 36
abbrev n_read_row : List Str := ["line", "opened", "width", "loops", "block", "place", "word", "_", "text"]
theorem c_read_row : FnScope n_read_row ["line", "opened", "width"] (defScope s_read_row) := ⟨rfl, rfl, rfl, by decide +kernel, rfl, by decide +kernel, by decide +kernel⟩
abbrev s_blocks_behind : Stmt := top 37
abbrev n_blocks_behind : List Str := ["word", "opened"]
theorem c_blocks_behind : FnScope n_blocks_behind ["word", "opened"] (defScope s_blocks_behind) := ⟨rfl, rfl, rfl, by decide +kernel, rfl, by decide +kernel, by decide +kernel⟩
abbrev s_read_rows : Stmt := top 38
abbrev n_read_rows : List Str := ["lines", "width", "rows", "opened", "number", "line", "row"]
theorem c_read_rows : FnScope n_read_rows ["lines", "width"] (defScope s_read_rows) := ⟨rfl, rfl, rfl, by decide +kernel, rfl, by decide +kernel, by decide +kernel⟩
abbrev s_match_blocks : Stmt := top 40
abbrev n_match_blocks : List Str := ["rows", "heads", "ends", "opened", "at", "row"]
theorem c_match_blocks : FnScope n_match_blocks ["rows"] (defScope s_match_blocks) := ⟨rfl, rfl, rfl, by decide +kernel, rfl, by decide +kernel, by decide +kernel⟩
abbrev s_Flow_init : Stmt := inClass (top 41) 0
abbrev n_Flow_init : List Str := ["self", "rows", "at"]
theorem c_Flow_init : FnScope n_Flow_init ["self", "rows"] (defScope s_Flow_init) := ⟨rfl, rfl, rfl, by decide +kernel, rfl, by decide +kernel, by decide +kernel⟩
abbrev s_Flow_landing : Stmt := inClass (top 41) 1
abbrev n_Flow_landing : List Str := ["self", "at", "head"]
theorem c_Flow_landing : FnScope n_Flow_landing ["self", "at"] (defScope s_Flow_landing) := ⟨rfl, rfl, rfl, by decide +kernel, rfl, by decide +kernel, by decide +kernel⟩
abbrev s_Flow_way_past : Stmt := inClass (top 41) 2
abbrev n_Flow_way_past : List Str := ["self", "at", "place", "head"]
theorem c_Flow_way_past : FnScope n_Flow_way_past ["self", "at"] (defScope s_Flow_way_past) := ⟨rfl, rfl, rfl, by decide +kernel, rfl, by decide +kernel, by decide +kernel⟩
abbrev s_Flow_find_loops : Stmt := inClass (top 41) 3
abbrev n_Flow_find_loops : List Str := ["self", "found", "head", "end", "at"]
theorem c_Flow_find_loops : FnScope n_Flow_find_loops ["self"] (defScope s_Flow_find_loops) := ⟨rfl, rfl, rfl, by decide +kernel, rfl, by decide +kernel, by decide +kernel⟩
abbrev s_is_kind : Stmt := top 50
abbrev n_is_kind : List Str := ["value"]
theorem c_is_kind : FnScope n_is_kind ["value"] (defScope s_is_kind) := ⟨rfl, rfl, rfl, by decide +kernel, rfl, by decide +kernel, by decide +kernel⟩
abbrev s_is_width : Stmt := top 51
abbrev n_is_width : List Str := ["value"]
theorem c_is_width : FnScope n_is_width ["value"] (defScope s_is_width) := ⟨rfl, rfl, rfl, by decide +kernel, rfl, by decide +kernel, by decide +kernel⟩
abbrev s_allows : Stmt := top 52
abbrev n_allows : List Str := ["kind", "word"]
theorem c_allows : FnScope n_allows ["kind", "word"] (defScope s_allows) := ⟨rfl, rfl, rfl, by decide +kernel, rfl, by decide +kernel, by decide +kernel⟩
abbrev s_keeps_order : Stmt := top 57
abbrev n_keeps_order : List Str := ["way", "word", "loops", "home", "_", "once"]
theorem c_keeps_order : FnScope n_keeps_order ["way", "word"] (defScope s_keeps_order) := ⟨rfl, rfl, rfl, by decide +kernel, rfl, by decide +kernel, by decide +kernel⟩
abbrev s_way_behind : Stmt := top 59
abbrev n_way_behind : List Str := ["way", "line", "word", "loops", "home", "cut", "once", "known"]
theorem c_way_behind : FnScope n_way_behind ["way", "line", "word"] (defScope s_way_behind) := ⟨rfl, rfl, rfl, by decide +kernel, rfl, by decide +kernel, by decide +kernel⟩
abbrev s_is_turn : Stmt := top 60
abbrev n_is_turn : List Str := ["way", "word", "loops", "home", "_"]
theorem c_is_turn : FnScope n_is_turn ["way", "word"] (defScope s_is_turn) := ⟨rfl, rfl, rfl, by decide +kernel, rfl, by decide +kernel, by decide +kernel⟩
abbrev s_may_begin : Stmt := top 61
abbrev n_may_begin : List Str := ["way", "word", "loops", "home", "_"]
theorem c_may_begin : FnScope n_may_begin ["way", "word"] (defScope s_may_begin) := ⟨rfl, rfl, rfl, by decide +kernel, rfl, by decide +kernel, by decide +kernel⟩
abbrev s_Walk_init : Stmt := inClass (top 62) 0
abbrev n_Walk_init : List Str := ["self", "kind"]
theorem c_Walk_init : FnScope n_Walk_init ["self", "kind"] (defScope s_Walk_init) := ⟨rfl, rfl, rfl, by decide +kernel, rfl, by decide +kernel, by decide +kernel⟩
abbrev s_Walk_step : Stmt := inClass (top 62) 1
abbrev n_Walk_step : List Str := ["self", "line", "row"]
theorem c_Walk_step : FnScope n_Walk_step ["self", "line", "row"] (defScope s_Walk_step) := ⟨rfl, rfl, rfl, by decide +kernel, rfl, by decide +kernel, by decide +kernel⟩
abbrev s_Walk_begin_loop : Stmt := inClass (top 62) 2
abbrev n_Walk_begin_loop : List Str := ["self", "line", "word", "way", "behind", "loops", "_", "cut", "once"]
theorem c_Walk_begin_loop : FnScope n_Walk_begin_loop ["self", "line", "word"] (defScope s_Walk_begin_loop) := ⟨rfl, rfl, rfl, by decide +kernel, rfl, by decide +kernel, by decide +kernel⟩
abbrev s_Walk_stay_in_loop : Stmt := inClass (top 62) 3
abbrev n_Walk_stay_in_loop : List Str := ["self", "line", "word"]
theorem c_Walk_stay_in_loop : FnScope n_Walk_stay_in_loop ["self", "line", "word"] (defScope s_Walk_stay_in_loop) := ⟨rfl, rfl, rfl, by decide +kernel, rfl, by decide +kernel, by decide +kernel⟩
abbrev s_Walk_fork : Stmt := inClass (top 62) 4
abbrev n_Walk_fork : List Str := ["self", "line", "row", "ahead", "_", "way", "first"]
theorem c_Walk_fork : FnScope n_Walk_fork ["self", "line", "row"] (defScope s_Walk_fork) := ⟨rfl, rfl, rfl, by decide +kernel, rfl, by decide +kernel, by decide +kernel⟩
abbrev s_Walk_pass_line : Stmt := inClass (top 62) 5
abbrev n_Walk_pass_line : List Str := ["self", "line", "word", "way"]
theorem c_Walk_pass_line : FnScope n_Walk_pass_line ["self", "line", "word"] (defScope s_Walk_pass_line) := ⟨rfl, rfl, rfl, by decide +kernel, rfl, by decide +kernel, by decide +kernel⟩
abbrev s_Walk_end_ways : Stmt := inClass (top 62) 6
abbrev n_Walk_end_ways : List Str := ["self", "_", "home"]
theorem c_Walk_end_ways : FnScope n_Walk_end_ways ["self"] (defScope s_Walk_end_ways) := ⟨rfl, rfl, rfl, by decide +kernel, rfl, by decide +kernel, by decide +kernel⟩
abbrev s_least_break : Stmt := top 63
abbrev n_least_break : List Str := ["kind", "rows", "walk", "line", "row"]
theorem c_least_break : FnScope n_least_break ["kind", "rows"] (defScope s_least_break) := ⟨rfl, rfl, rfl, by decide +kernel, rfl, by decide +kernel, by decide +kernel⟩
abbrev s_Code_init : Stmt := inClass (top 66) 0
abbrev n_Code_init : List Str := ["self", "kind", "width", "text", "lines", "rows", "broken"]
theorem c_Code_init : FnScope n_Code_init ["self", "kind", "width", "text"] (defScope s_Code_init) := ⟨rfl, rfl, rfl, by decide +kernel, rfl, by decide +kernel, by decide +kernel⟩
abbrev s_Code_len : Stmt := inClass (top 66) 1
abbrev n_Code_len : List Str := ["self"]
theorem c_Code_len : FnScope n_Code_len ["self"] (defScope s_Code_len) := ⟨rfl, rfl, rfl, by decide +kernel, rfl, by decide +kernel, by decide +kernel⟩
abbrev s_Code_getitem : Stmt := inClass (top 66) 2
abbrev n_Code_getitem : List Str := ["self", "at"]
theorem c_Code_getitem : FnScope n_Code_getitem ["self", "at"] (defScope s_Code_getitem) := ⟨rfl, rfl, rfl, by decide +kernel, rfl, by decide +kernel, by decide +kernel⟩
abbrev s_Code_iter : Stmt := inClass (top 66) 3
abbrev n_Code_iter : List Str := ["self"]
theorem c_Code_iter : FnScope n_Code_iter ["self"] (defScope s_Code_iter) := ⟨rfl, rfl, rfl, by decide +kernel, rfl, by decide +kernel, by decide +kernel⟩
abbrev s_Code_eq : Stmt := inClass (top 66) 4
abbrev n_Code_eq : List Str := ["self", "other"]
theorem c_Code_eq : FnScope n_Code_eq ["self", "other"] (defScope s_Code_eq) := ⟨rfl, rfl, rfl, by decide +kernel, rfl, by decide +kernel, by decide +kernel⟩
abbrev s_Code_as_kind : Stmt := inClass (top 66) 5
abbrev n_Code_as_kind : List Str := ["self", "kind"]
theorem c_Code_as_kind : FnScope n_Code_as_kind ["self", "kind"] (defScope s_Code_as_kind) := ⟨rfl, rfl, rfl, by decide +kernel, rfl, by decide +kernel, by decide +kernel⟩
abbrev s_is_integer : Stmt := top 68
abbrev n_is_integer : List Str := ["value"]
theorem c_is_integer : FnScope n_is_integer ["value"] (defScope s_is_integer) := ⟨rfl, rfl, rfl, by decide +kernel, rfl, by decide +kernel, by decide +kernel⟩
abbrev s_is_item : Stmt := top 69
abbrev n_is_item : List Str := ["value"]
theorem c_is_item : FnScope n_is_item ["value"] (defScope s_is_item) := ⟨rfl, rfl, rfl, by decide +kernel, rfl, by decide +kernel, by decide +kernel⟩
abbrev s_first_bad_item : Stmt := top 70
abbrev n_first_bad_item : List Str := ["values", "marks", "index", "value"]
theorem c_first_bad_item : FnScope n_first_bad_item ["values"] (defScope s_first_bad_item) := ⟨rfl, rfl, rfl, by decide +kernel, rfl, by decide +kernel, by decide +kernel⟩
abbrev s_start_fits : Stmt := top 71
abbrev n_start_fits : List Str := ["kind", "count", "start"]
theorem c_start_fits : FnScope n_start_fits ["kind", "count", "start"] (defScope s_start_fits) := ⟨rfl, rfl, rfl, by decide +kernel, rfl, by decide +kernel, by decide +kernel⟩
abbrev s_given_fits : Stmt := top 72
abbrev n_given_fits : List Str := ["kind", "items", "given", "_", "mark"]
theorem c_given_fits : FnScope n_given_fits ["kind", "items", "given"] (defScope s_given_fits) := ⟨rfl, rfl, rfl, by decide +kernel, rfl, by decide +kernel, by decide +kernel⟩
abbrev s_trees_are_heaps : Stmt := top 73
abbrev n_trees_are_heaps : List Str := ["items", "width", "start", "within", "place", "above"]
theorem c_trees_are_heaps : FnScope n_trees_are_heaps ["items", "width", "start"] (defScope s_trees_are_heaps) := ⟨rfl, rfl, rfl, by decide +kernel, rfl, by decide +kernel, by decide +kernel⟩
abbrev s_is_heap_but_for : Stmt := top 74
abbrev n_is_heap_but_for : List Str := ["items", "width", "start", "above", "place", "low"]
theorem c_is_heap_but_for : FnScope n_is_heap_but_for ["items", "width", "start"] (defScope s_is_heap_but_for) := ⟨rfl, rfl, rfl, by decide +kernel, rfl, by decide +kernel, by decide +kernel⟩
abbrev s_leans_right : Stmt := top 75
abbrev n_leans_right : List Str := ["kind", "items", "width", "start", "key", "first", "item"]
theorem c_leans_right : FnScope n_leans_right ["kind", "items", "width", "start"] (defScope s_leans_right) := ⟨rfl, rfl, rfl, by decide +kernel, rfl, by decide +kernel, by decide +kernel⟩
abbrev s_list_fits : Stmt := top 76
abbrev n_list_fits : List Str := ["kind", "width", "items", "start"]
theorem c_list_fits : FnScope n_list_fits ["kind", "width", "items", "start"] (defScope s_list_fits) := ⟨rfl, rfl, rfl, by decide +kernel, rfl, by decide +kernel, by decide +kernel⟩
abbrev s_check_items : Stmt := top 77
abbrev n_check_items : List Str := ["items", "bad"]
theorem c_check_items : FnScope n_check_items ["items"] (defScope s_check_items) := ⟨rfl, rfl, rfl, by decide +kernel, rfl, by decide +kernel, by decide +kernel⟩
abbrev s_check_start_and_given : Stmt := top 78
abbrev n_check_start_and_given : List Str := ["kind", "items", "start", "given"]
theorem c_check_start_and_given : FnScope n_check_start_and_given ["kind", "items", "start", "given"] (defScope s_check_start_and_given) := ⟨rfl, rfl, rfl, by decide +kernel, rfl, by decide +kernel, by decide +kernel⟩
abbrev s_check_case : Stmt := top 79
abbrev n_check_case : List Str := ["code", "items", "start", "given"]
theorem c_check_case : FnScope n_check_case ["code", "items", "start", "given"] (defScope s_check_case) := ⟨rfl, rfl, rfl, by decide +kernel, rfl, by decide +kernel, by decide +kernel⟩
abbrev s_Player_init : Stmt := inClass (top 82) 0
abbrev n_Player_init : List Str := ["self", "code", "items", "start", "given"]
theorem c_Player_init : FnScope n_Player_init ["self", "code", "items", "start", "given"] (defScope s_Player_init) := ⟨rfl, rfl, rfl, by decide +kernel, rfl, by decide +kernel, by decide +kernel⟩
abbrev s_Player_item : Stmt := inClass (top 82) 1
abbrev n_Player_item : List Str := ["self", "place"]
theorem c_Player_item : FnScope n_Player_item ["self", "place"] (defScope s_Player_item) := ⟨rfl, rfl, rfl, by decide +kernel, rfl, by decide +kernel, by decide +kernel⟩
abbrev s_Player_mate_place : Stmt := inClass (top 82) 2
abbrev n_Player_mate_place : List Str := ["self"]
theorem c_Player_mate_place : FnScope n_Player_mate_place ["self"] (defScope s_Player_mate_place) := ⟨rfl, rfl, rfl, by decide +kernel, rfl, by decide +kernel, by decide +kernel⟩
abbrev s_Player_move : Stmt := inClass (top 82) 3
abbrev n_Player_move : List Str := ["self", "place"]
theorem c_Player_move : FnScope n_Player_move ["self", "place"] (defScope s_Player_move) := ⟨rfl, rfl, rfl, by decide +kernel, rfl, by decide +kernel, by decide +kernel⟩
abbrev s_Player_run : Stmt := inClass (top 82) 4
abbrev n_Player_run : List Str := ["self"]
theorem c_Player_run : FnScope n_Player_run ["self"] (defScope s_Player_run) := ⟨rfl, rfl, rfl, by decide +kernel, rfl, by decide +kernel, by decide +kernel⟩
abbrev s_Player_step : Stmt := inClass (top 82) 5
abbrev n_Player_step : List Str := ["self", "row", "action"]
theorem c_Player_step : FnScope n_Player_step ["self", "row"] (defScope s_Player_step) := ⟨rfl, rfl, rfl, by decide +kernel, rfl, by decide +kernel, by decide +kernel⟩
abbrev s_Player_meet_head : Stmt := inClass (top 82) 6
abbrev n_Player_meet_head : List Str := ["self", "sight"]
theorem c_Player_meet_head : FnScope n_Player_meet_head ["self"] (defScope s_Player_meet_head) := ⟨rfl, rfl, rfl, by decide +kernel, rfl, by decide +kernel, by decide +kernel⟩
abbrev s_Player_station : Stmt := inClass (top 82) 7
abbrev n_Player_station : List Str := ["self", "first", "children", "here", "rank"]
theorem c_Player_station : FnScope n_Player_station ["self"] (defScope s_Player_station) := ⟨rfl, rfl, rfl, by decide +kernel, rfl, by decide +kernel, by decide +kernel⟩
abbrev s_Player_branch : Stmt := inClass (top 82) 8
abbrev n_Player_branch : List Str := ["self", "test", "part", "holds"]
theorem c_Player_branch : FnScope n_Player_branch ["self", "test"] (defScope s_Player_branch) := ⟨rfl, rfl, rfl, by decide +kernel, rfl, by decide +kernel, by decide +kernel⟩
abbrev s_Player_ask : Stmt := inClass (top 82) 9
abbrev n_Player_ask : List Str := ["self", "part", "holds", "word", "left", "right", "one", "two", "found"]
theorem c_Player_ask : FnScope n_Player_ask ["self", "part"] (defScope s_Player_ask) := ⟨rfl, rfl, rfl, by decide +kernel, rfl, by decide +kernel, by decide +kernel⟩
abbrev s_Player_named_item : Stmt := inClass (top 82) 10
abbrev n_Player_named_item : List Str := ["self", "side", "word", "number"]
theorem c_Player_named_item : FnScope n_Player_named_item ["self", "side"] (defScope s_Player_named_item) := ⟨rfl, rfl, rfl, by decide +kernel, rfl, by decide +kernel, by decide +kernel⟩
abbrev s_Player_put_down : Stmt := inClass (top 82) 11
abbrev n_Player_put_down : List Str := ["self", "place", "item"]
theorem c_Player_put_down : FnScope n_Player_put_down ["self", "place", "item"] (defScope s_Player_put_down) := ⟨rfl, rfl, rfl, by decide +kernel, rfl, by decide +kernel, by decide +kernel⟩
abbrev s_Player_exchange : Stmt := inClass (top 82) 12
abbrev n_Player_exchange : List Str := ["self", "one", "two", "first", "second"]
theorem c_Player_exchange : FnScope n_Player_exchange ["self", "one", "two"] (defScope s_Player_exchange) := ⟨rfl, rfl, rfl, by decide +kernel, rfl, by decide +kernel, by decide +kernel⟩
abbrev s_Player_note_place : Stmt := inClass (top 82) 13
abbrev n_Player_note_place : List Str := ["self", "place", "item"]
theorem c_Player_note_place : FnScope n_Player_note_place ["self", "place"] (defScope s_Player_note_place) := ⟨rfl, rfl, rfl, by decide +kernel, rfl, by decide +kernel, by decide +kernel⟩
abbrev s_tell : Stmt := top 83
abbrev n_tell : List Str := ["player", "row", "item"]
theorem c_tell : FnScope n_tell ["player", "row"] (defScope s_tell) := ⟨rfl, rfl, rfl, by decide +kernel, rfl, by decide +kernel, by decide +kernel⟩
abbrev s_grab : Stmt := top 84
abbrev n_grab : List Str := ["player", "row", "held"]
theorem c_grab : FnScope n_grab ["player", "row"] (defScope s_grab) := ⟨rfl, rfl, rfl, by decide +kernel, rfl, by decide +kernel, by decide +kernel⟩
abbrev s_lay : Stmt := top 85
abbrev n_lay : List Str := ["player", "row"]
theorem c_lay : FnScope n_lay ["player", "row"] (defScope s_lay) := ⟨rfl, rfl, rfl, by decide +kernel, rfl, by decide +kernel, by decide +kernel⟩
abbrev s_longer : Stmt := top 86
abbrev n_longer : List Str := ["player", "row"]
theorem c_longer : FnScope n_longer ["player", "row"] (defScope s_longer) := ⟨rfl, rfl, rfl, by decide +kernel, rfl, by decide +kernel, by decide +kernel⟩
abbrev s_shorter : Stmt := top 87
abbrev n_shorter : List Str := ["player", "row"]
theorem c_shorter : FnScope n_shorter ["player", "row"] (defScope s_shorter) := ⟨rfl, rfl, rfl, by decide +kernel, rfl, by decide +kernel, by decide +kernel⟩
abbrev s_trade : Stmt := top 88
abbrev n_trade : List Str := ["player", "row"]
theorem c_trade : FnScope n_trade ["player", "row"] (defScope s_trade) := ⟨rfl, rfl, rfl, by decide +kernel, rfl, by decide +kernel, by decide +kernel⟩
abbrev s_to_start : Stmt := top 89
abbrev n_to_start : List Str := ["player", "row"]
theorem c_to_start : FnScope n_to_start ["player", "row"] (defScope s_to_start) := ⟨rfl, rfl, rfl, by decide +kernel, rfl, by decide +kernel, by decide +kernel⟩
abbrev s_note : Stmt := top 90
abbrev n_note : List Str := ["player", "row"]
theorem c_note : FnScope n_note ["player", "row"] (defScope s_note) := ⟨rfl, rfl, rfl, by decide +kernel, rfl, by decide +kernel, by decide +kernel⟩
abbrev s_note_mate : Stmt := top 91
abbrev n_note_mate : List Str := ["player", "row"]
theorem c_note_mate : FnScope n_note_mate ["player", "row"] (defScope s_note_mate) := ⟨rfl, rfl, rfl, by decide +kernel, rfl, by decide +kernel, by decide +kernel⟩
abbrev s_go : Stmt := top 92
abbrev n_go : List Str := ["player", "row", "place"]
theorem c_go : FnScope n_go ["player", "row"] (defScope s_go) := ⟨rfl, rfl, rfl, by decide +kernel, rfl, by decide +kernel, by decide +kernel⟩
abbrev s_pull : Stmt := top 93
abbrev n_pull : List Str := ["player", "row"]
theorem c_pull : FnScope n_pull ["player", "row"] (defScope s_pull) := ⟨rfl, rfl, rfl, by decide +kernel, rfl, by decide +kernel, by decide +kernel⟩
abbrev s_swap : Stmt := top 94
abbrev n_swap : List Str := ["player", "row"]
theorem c_swap : FnScope n_swap ["player", "row"] (defScope s_swap) := ⟨rfl, rfl, rfl, by decide +kernel, rfl, by decide +kernel, by decide +kernel⟩
abbrev s_pick : Stmt := top 95
abbrev n_pick : List Str := ["player", "row"]
theorem c_pick : FnScope n_pick ["player", "row"] (defScope s_pick) := ⟨rfl, rfl, rfl, by decide +kernel, rfl, by decide +kernel, by decide +kernel⟩
abbrev s_tree_of : Stmt := top 98
abbrev n_tree_of : List Str := ["start", "width", "count", "within", "place"]
theorem c_tree_of : FnScope n_tree_of ["start", "width", "count"] (defScope s_tree_of) := ⟨rfl, rfl, rfl, by decide +kernel, rfl, by decide +kernel, by decide +kernel⟩
abbrev s_owed_items : Stmt := top 99
abbrev n_owed_items : List Str := ["kind", "items", "given", "told", "whole"]
theorem c_owed_items : FnScope n_owed_items ["kind", "items", "given", "told"] (defScope s_owed_items) := ⟨rfl, rfl, rfl, by decide +kernel, rfl, by decide +kernel, by decide +kernel⟩
abbrev s_keeps_items : Stmt := top 100
abbrev n_keeps_items : List Str := ["kind", "width", "items", "start", "given", "left", "told", "within", "place", "item"]
theorem c_keeps_items : FnScope n_keeps_items ["kind", "width", "items", "start", "given", "left", "told"] (defScope s_keeps_items) := ⟨rfl, rfl, rfl, by decide +kernel, rfl, by decide +kernel, by decide +kernel⟩
abbrev s_keeps_orderP : Stmt := top 101
abbrev n_keeps_orderP : List Str := ["kind", "width", "start", "left", "within", "place"]
theorem c_keeps_orderP : FnScope n_keeps_orderP ["kind", "width", "start", "left"] (defScope s_keeps_orderP) := ⟨rfl, rfl, rfl, by decide +kernel, rfl, by decide +kernel, by decide +kernel⟩
abbrev s_keeps_told : Stmt := top 103
abbrev n_keeps_told : List Str := ["kind", "items", "start", "told", "key", "_"]
theorem c_keeps_told : FnScope n_keeps_told ["kind", "items", "start", "told"] (defScope s_keeps_told) := ⟨rfl, rfl, rfl, by decide +kernel, rfl, by decide +kernel, by decide +kernel⟩
abbrev s_keeps_places : Stmt := top 104
abbrev n_keeps_places : List Str := ["left", "entries", "noted", "place", "_", "mark"]
theorem c_keeps_places : FnScope n_keeps_places ["left", "entries", "noted"] (defScope s_keeps_places) := ⟨rfl, rfl, rfl, by decide +kernel, rfl, by decide +kernel, by decide +kernel⟩
abbrev s_broken_at_end : Stmt := top 105
abbrev n_broken_at_end : List Str := ["code", "items", "start", "given", "player", "entries", "left", "broken"]
theorem c_broken_at_end : FnScope n_broken_at_end ["code", "items", "start", "given", "player", "entries"] (defScope s_broken_at_end) := ⟨rfl, rfl, rfl, by decide +kernel, rfl, by decide +kernel, by decide +kernel⟩
abbrev s_broken_by : Stmt := top 106
abbrev n_broken_by : List Str := ["code", "items", "start", "given", "player", "entries"]
theorem c_broken_by : FnScope n_broken_by ["code", "items", "start", "given", "player", "entries"] (defScope s_broken_by) := ⟨rfl, rfl, rfl, by decide +kernel, rfl, by decide +kernel, by decide +kernel⟩
abbrev s_Table_init : Stmt := inClass (top 108) 0
abbrev n_Table_init : List Str := ["self", "older", "entries"]
theorem c_Table_init : FnScope n_Table_init ["self", "older", "entries"] (defScope s_Table_init) := ⟨rfl, rfl, rfl, by decide +kernel, rfl, by decide +kernel, by decide +kernel⟩
abbrev s_Table_whole : Stmt := inClass (top 108) 1
abbrev n_Table_whole : List Str := ["self", "layers", "table", "found", "entries"]
theorem c_Table_whole : FnScope n_Table_whole ["self"] (defScope s_Table_whole) := ⟨rfl, rfl, rfl, by decide +kernel, rfl, by decide +kernel, by decide +kernel⟩
abbrev s_Play_init : Stmt := inClass (top 110) 0
abbrev n_Play_init : List Str := ["self", "player", "broken", "table"]
theorem c_Play_init : FnScope n_Play_init ["self", "player", "broken", "table"] (defScope s_Play_init) := ⟨rfl, rfl, rfl, by decide +kernel, rfl, by decide +kernel, by decide +kernel⟩
abbrev s_Play_table : Stmt := inClass (top 110) 1
abbrev n_Play_table : List Str := ["self"]
theorem c_Play_table : FnScope n_Play_table ["self"] (defScope s_Play_table) := ⟨rfl, rfl, rfl, by decide +kernel, rfl, by decide +kernel, by decide +kernel⟩
abbrev s_Play_lines : Stmt := inClass (top 110) 2
abbrev n_Play_lines : List Str := ["self"]
theorem c_Play_lines : FnScope n_Play_lines ["self"] (defScope s_Play_lines) := ⟨rfl, rfl, rfl, by decide +kernel, rfl, by decide +kernel, by decide +kernel⟩
abbrev s_Play_sides : Stmt := inClass (top 110) 3
abbrev n_Play_sides : List Str := ["self"]
theorem c_Play_sides : FnScope n_Play_sides ["self"] (defScope s_Play_sides) := ⟨rfl, rfl, rfl, by decide +kernel, rfl, by decide +kernel, by decide +kernel⟩
abbrev s_Play_stations : Stmt := inClass (top 110) 4
abbrev n_Play_stations : List Str := ["self"]
theorem c_Play_stations : FnScope n_Play_stations ["self"] (defScope s_Play_stations) := ⟨rfl, rfl, rfl, by decide +kernel, rfl, by decide +kernel, by decide +kernel⟩
abbrev s_first_place : Stmt := top 111
abbrev n_first_place : List Str := ["kind", "count", "start"]
theorem c_first_place : FnScope n_first_place ["kind", "count", "start"] (defScope s_first_place) := ⟨rfl, rfl, rfl, by decide +kernel, rfl, by decide +kernel, by decide +kernel⟩
abbrev s_play : Stmt := top 112
abbrev n_play : List Str := ["code", "items", "start", "given", "entries", "place", "item", "player", "broken"]
theorem c_play : FnScope n_play ["code", "items", "start", "given"] (defScope s_play) := ⟨rfl, rfl, rfl, by decide +kernel, rfl, by decide +kernel, by decide +kernel⟩
abbrev s_build : Stmt := top 114
abbrev n_build : List Str := ["code", "items", "row", "last", "start", "player"]
theorem c_build : FnScope n_build ["code", "items"] (defScope s_build) := ⟨rfl, rfl, rfl, by decide +kernel, rfl, by decide +kernel, by decide +kernel⟩
abbrev s_Litems : Stmt := top 118
abbrev n_Litems : List Str := ["_law_bag_here", "_law_many", "_law_keys", "_law_marks", "_law_k"]
theorem c_Litems : FnScope n_Litems ["_law_bag_here", "_law_many", "_law_keys", "_law_marks"] (defScope s_Litems) := ⟨rfl, rfl, rfl, by decide +kernel, rfl, by decide +kernel, by decide +kernel⟩
abbrev s_Lis_heap : Stmt := top 119
abbrev n_Lis_heap : List Str := ["_law_items_here", "_law_width", "_law_k"]
theorem c_Lis_heap : FnScope n_Lis_heap ["_law_items_here", "_law_width"] (defScope s_Lis_heap) := ⟨rfl, rfl, rfl, by decide +kernel, rfl, by decide +kernel, by decide +kernel⟩
abbrev s_Lrefused : Stmt := top 120
abbrev n_Lrefused : List Str := ["_law_action", "e"]
theorem c_Lrefused : FnScope n_Lrefused ["_law_action"] (defScope s_Lrefused) := ⟨rfl, rfl, rfl, by decide +kernel, rfl, by decide +kernel, by decide +kernel⟩
abbrev s_law : Stmt := top 121
abbrev n_law : List Str := ["_law_script", "_law_bag_here", "_law_width", "_law_keys", "_law_items_here", "_law_faults", "_law_k", "_law_place", "_law_at", "_law_twice", "_law_odd", "_law_bad", "_law_code"]
theorem c_law : FnScope n_law ["_law_script"] (defScope s_law) := ⟨rfl, rfl, rfl, by decide +kernel, rfl, by decide +kernel, by decide +kernel⟩
end
end H2
namespace H2
open PySem PySem.Spec PyProof.Rows L2 Hx Nd Dun
section
variable {P : Program} {w : World} {K : PySem.W.Frag} {mg : Str → Option Value} {base : Heap} {D : Addr}
/-! ### facts of the top -/
structure FT (K : PySem.W.Frag) (mg : Str → Option Value) (x : Str) (st : Stmt) (ps : List Str) (f : Addr) : Prop where
  g : mg x = some (.ref f)
  fn : ∃ fd, Fun K x x st f fd ∧ Binds K fd ps []
structure MT (K : PySem.W.Frag) (C : Addr) (nm qual : Str) (st : Stmt) (ps : List Str) (f : Addr) : Prop where
  m : Meth K C nm f
  fn : ∃ fd, Fun K nm qual st f fd ∧ Binds K fd ps []
structure TupT (K : PySem.W.Frag) (mg : Str → Option Value) (x : Str) (a : Addr) (xs : List V) : Prop where
  g : mg x = some (.ref a)
  s : ∀ H, SqT K H a xs
def kindsV : List V := [.str "put", .str "take", .str "top", .str "out", .str "either", .str "above", .str "below", .str "tree"]
def widthsV : List V := [.int 2, .int 3, .int 4]
/-! ### is_kind, is_width, allows -/
def spIs (K : PySem.W.Frag) (ty : String) (xs : List V) : Sp := fun vs H Q _ => ∃ (v : V) (t : Value) (b : Bool), vs = [v] ∧ TyX K H v t ∧ PySem.W.kitOne K t (.type ty) = some b ∧ (b = true → flatV v = true) ∧ Q (.bl (b && inV v xs)) H
theorem ok_is_kind {f k : Addr} (T : FT K mg "is_kind" s_is_kind ["value"] f) (isi : mg "isinstance" = none) (st : mg "str" = none) (C : TupT K mg "KINDS" k kindsV) : ∃ fd, Fun K "is_kind" "is_kind" s_is_kind f fd ∧ Binds K fd ["value"] [] ∧ FnOk P w K mg base CX0 1 f fd ["value"] (spIs K "str" kindsV) := by
  obtain ⟨fd, F, b⟩ := T.fn
  refine ⟨fd, F, b, F.ok c_is_kind (fun vs H Q E h => ?_) (fun cdv A outer s H vs Q E hr h => ?_)⟩
  · obtain ⟨v, t, b, rfl, _⟩ := h
    rfl
  obtain ⟨v, t, b, rfl, ty, hk, hf, q⟩ := h
  refine ⟨_, pss_one (ps_ret (pe_and (pe_callB call_isi (by rfl) isi (by decide +kernel) (pa_cons (pv 0) (pa_cons (pe_bltn (x := "str") (v := .ty "str") rfl st (by decide +kernel) rfl) pa_nil))) (pe_one (pe_cmpR op_in_seq (pv 0) (pe_glob (v := .ref k) rfl C.g rfl) rfl)))), ?_⟩
  refine ⟨_, rfl, v, .ty "str", t, .type "str", b, rfl, .ty _, ty, hk, b, rfl, ?_⟩
  cases b with
  | false => exact q
  | true => exact ⟨_, rfl, k, kindsV, rfl, .inr (C.s H), hf rfl, rfl, q⟩
theorem ok_is_width {f k : Addr} (T : FT K mg "is_width" s_is_width ["value"] f) (isi : mg "isinstance" = none) (st : mg "int" = none) (C : TupT K mg "WIDTHS" k widthsV) : ∃ fd, Fun K "is_width" "is_width" s_is_width f fd ∧ Binds K fd ["value"] [] ∧ FnOk P w K mg base CX0 1 f fd ["value"] (spIs K "int" widthsV) := by
  obtain ⟨fd, F, b⟩ := T.fn
  refine ⟨fd, F, b, F.ok c_is_width (fun vs H Q E h => ?_) (fun cdv A outer s H vs Q E hr h => ?_)⟩
  · obtain ⟨v, t, b, rfl, _⟩ := h
    rfl
  obtain ⟨v, t, b, rfl, ty, hk, hf, q⟩ := h
  refine ⟨_, pss_one (ps_ret (pe_and (pe_callB call_isi (by rfl) isi (by decide +kernel) (pa_cons (pv 0) (pa_cons (pe_bltn (x := "int") (v := .ty "int") rfl st (by decide +kernel) rfl) pa_nil))) (pe_one (pe_cmpR op_in_seq (pv 0) (pe_glob (v := .ref k) rfl C.g rfl) rfl)))), ?_⟩
  refine ⟨_, rfl, v, .ty "int", t, .type "int", b, rfl, .ty _, ty, hk, b, rfl, ?_⟩
  cases b with
  | false => exact q
  | true => exact ⟨_, rfl, k, widthsV, rfl, .inr (C.s H), hf rfl, rfl, q⟩
/-- the words that stand in every kind -/
def freeW : List Str := ["tell", "grab", "note", "quit"]
structure AllT (K : PySem.W.Frag) (w : World) (mg : Str → Option Value) (d : Addr) : Prop where
  g : mg "ALLOWED" = some (.ref d)
  kd : ∃ es n, KDict K w d es n
  no : ∀ x ∈ freeW, PySem.W.nsIn K d x = some none
def spAllows : Sp := fun vs H Q _ => ∃ (v : V) (x : Str), vs = [v, .str x] ∧ x ∈ freeW ∧ Q (.bl true) H
theorem ok_allows {f d : Addr} (T : FT K mg "allows" s_allows ["kind", "word"] f) (C : AllT K w mg d) : ∃ fd, Fun K "allows" "allows" s_allows f fd ∧ Binds K fd ["kind", "word"] [] ∧ FnOk P w K mg base CX0 1 f fd ["kind", "word"] spAllows := by
  obtain ⟨fd, F, b⟩ := T.fn
  refine ⟨fd, F, b, F.ok c_allows (fun vs H Q E h => ?_) (fun cdv A outer s H vs Q E hr h => ?_)⟩
  · obtain ⟨v, x, rfl, _⟩ := h
    rfl
  obtain ⟨v, x, rfl, hx, q⟩ := h
  obtain ⟨es, n, kd⟩ := C.kd
  refine ⟨_, pss_one (ps_ret (pe_or (pe_cmpR (op_notIn_kd kd) (pv 1) (pe_glob (v := .ref d) rfl C.g rfl) rfl) (pe_one pe_no))), ?_⟩
  exact ⟨_, rfl, x, none, rfl, rfl, C.no x hx, true, rfl, q⟩
end
end H2
namespace H2
open PySem PySem.Spec PyProof.Rows L2 Hx Nd Dun
section
variable {P : Program} {w : World} {K : PySem.W.Frag} {mg : Str → Option Value} {base : Heap} {D : Addr}
theorem u65 {k : Nat} {A : Around} (r : Room k A) : A.units + 65 < cLine := by have := r.un; omega
/-! ### parts and tests: of 'inside' and 'below root' alone -/
def partTexts : List Str := ["inside", "below root"]
/-- the part that such a text is -/
def Part (K : PySem.W.Frag) (H : Hp) (p : Addr) : Prop := ∃ x : Str, x ∈ partTexts ∧ SqT K H p [.bl true, .str x, .non, .non]
/-- a test of one such part -/
def Test (K : PySem.W.Frag) (H : Hp) (t : Addr) : Prop := ∃ p, SqT K H t [.ref p] ∧ Part K H p
theorem Part.keep {H H' : Hp} {p : Addr} (h : Part K H p) (e : Same H H') : Part K H' p := by
  obtain ⟨x, hx, h⟩ := h
  exact ⟨x, hx, sqt_same e h⟩
theorem partOk {x : Str} (hx : x ∈ partTexts) : PyData.strOk x = true := by
  unfold partTexts at hx
  rcases List.mem_cons.mp hx with rfl | hx
  · decide +kernel
  · rcases List.mem_cons.mp hx with rfl | hx
    · decide +kernel
    · cases hx
theorem Test.keep {H H' : Hp} {p : Addr} (h : Test K H p) (e : Same H H') : Test K H' p := by
  obtain ⟨q, h1, h2⟩ := h
  exact ⟨q, sqt_same e h1, h2.keep e⟩
def spPlain (K : PySem.W.Frag) : Sp := fun vs H Q _ => ∃ (x : Str) (y z : V), vs = [.str x, y, z] ∧ x ∈ partTexts ∧ ∀ H' p, Same H H' → SqT K H' p [.str x, .non, .non] → Q (.ref p) H'
theorem ok_plain {f : Addr} (T : FT K mg "read_plain_part" s_read_plain_part ["text", "place", "width"] f) : ∃ fd, Fun K "read_plain_part" "read_plain_part" s_read_plain_part f fd ∧ Binds K fd ["text", "place", "width"] [] ∧ FnOk P w K mg base CX0 1 f fd ["text", "place", "width"] (spPlain K) := by
  obtain ⟨fd, F, b⟩ := T.fn
  refine ⟨fd, F, b, F.ok c_read_plain_part (fun vs H Q E h => ?_) (fun cdv A outer s H vs Q E hr h => ?_)⟩
  · obtain ⟨x, y, z, rfl, _⟩ := h
    rfl
  obtain ⟨x, y, z, rfl, hx, q⟩ := h
  refine ⟨_, pss_cons (ps_if (pt_cmpR op_in_seq (pv 0) (pe_tup (pa_cons pe_str (pa_cons pe_str (pa_cons pe_str pa_nil)))) rfl) (pss_one (ps_ret (pe_tup (pa_cons (pv 0) (pa_cons pe_non (pa_cons pe_non pa_nil)))))) pss_nil) (pss_cons ps_never (pss_cons ps_never (pss_one ps_never))), ?_⟩
  refine ⟨_, rfl, (by show 3 ≤ sizeLine; decide), fun t nt => ⟨t, _, rfl, .inr (SqT.of upd_same), rfl, rfl, _, rfl, ?_⟩⟩
  have hin : (if false = true then !inV (V.str x) [.str "inside", .str "below root", .str "below start"] else inV (V.str x) [.str "inside", .str "below root", .str "below start"]) = true := by
    unfold partTexts at hx
    rcases List.mem_cons.mp hx with rfl | hx
    · decide +kernel
    · rcases List.mem_cons.mp hx with rfl | hx
      · decide +kernel
      · cases hx
  rw [hin]
  refine iteT ?_
  refine ⟨_, rfl, (by show 3 ≤ sizeLine; decide), fun p np => ?_⟩
  exact q _ _ ((new_same nt).trans (new_same np)) (SqT.of upd_same)
/-- a part -/
def spPart (K : PySem.W.Frag) : Sp := fun vs H Q _ => ∃ (x : Str) (y z : V), vs = [.str x, y, z] ∧ x ∈ partTexts ∧ ∀ H' p, Same H H' → Part K H' p → Q (.ref p) H'
theorem ok_part {f g : Addr} (T : FT K mg "read_part" s_read_part ["text", "place", "width"] f) (T1 : FT K mg "read_plain_part" s_read_plain_part ["text", "place", "width"] g) : ∃ fd, Fun K "read_part" "read_part" s_read_part f fd ∧ Binds K fd ["text", "place", "width"] [] ∧ FnOk P w K mg base CX0 2 f fd ["text", "place", "width"] (spPart K) := by
  obtain ⟨fd, F, b⟩ := T.fn
  obtain ⟨fd1, F1, b1, G1⟩ := ok_plain (P := P) (w := w) (base := base) T1
  refine ⟨fd, F, b, F.ok c_read_part (fun vs H Q E h => ?_) (fun cdv A outer s H vs Q E hr h => ?_)⟩
  · obtain ⟨x, y, z, rfl, _⟩ := h
    rfl
  obtain ⟨x, y, z, rfl, hx, q⟩ := h
  refine ⟨_, pss_cons (ps_set (i := 3) c_read_part.nd rfl (Or.inl rfl) (pe_m1 PySem.F.slot_str_startswith PySem.F.type_str_startswith mt_startswith (pv 0) pe_str))
    (pss_cons (ps_set (i := 4) c_read_part.nd rfl (Or.inl rfl) (pe_call G1 hr rfl T1.g F1.kp b1 .nil pass0 (pa_cons (pe_ifExp (pt_val (pv 3)) pe_no (pv 0)) (pa_cons (pv 1) (pa_cons (pv 2) pa_nil)))))
    (pss_one (ps_ret (pe_ifExp (pt_cmp (pc_isN (pv 4))) pe_non (pe_tup (pa_cons (pe_not (pv 3)) (StX.pa_star (pv 4) pa_nil))))))), ?_⟩
  have hno : Txt.startswith x "not " = false := by
    unfold partTexts at hx
    rcases List.mem_cons.mp hx with rfl | hx
    · decide +kernel
    · rcases List.mem_cons.mp hx with rfl | hx
      · decide +kernel
      · cases hx
  refine ⟨_, rfl, ⟨_, rfl⟩, x, _, rfl, rfl, ?_⟩
  rw [hno]
  refine ⟨_, rfl, _, rfl, ?_⟩
  refine iteF ?_
  refine ⟨_, rfl, _, rfl, _, rfl, x, y, z, rfl, hx, fun H1 p s1 e1 => ?_⟩
  refine ⟨_, rfl, _, rfl, ?_⟩
  refine iteF ?_
  refine ⟨_, rfl, _, rfl, _, rfl, p, _, rfl, .inl e1, (by show 4 ≤ sizeLine; decide), fun r nr => ?_⟩
  exact q _ r (s1.trans (new_same nr)) ⟨x, hx, SqT.of upd_same⟩
/-- a test -/
def spTest (K : PySem.W.Frag) : Sp := fun vs H Q _ => ∃ (x : Str) (y z : V), vs = [.str x, y, z] ∧ x ∈ partTexts ∧ ∀ H' p, Same H H' → Test K H' p → Q (.ref p) H'
theorem part_split {x : Str} (hx : x ∈ partTexts) : Txt.split x " and " = [x] ∧ x.length + 2 ≤ sizeLine := by
  unfold partTexts at hx
  rcases List.mem_cons.mp hx with rfl | hx
  · exact ⟨by decide +kernel, by decide +kernel⟩
  · rcases List.mem_cons.mp hx with rfl | hx
    · exact ⟨by decide +kernel, by decide +kernel⟩
    · cases hx
theorem ok_test {f g e : Addr} (T : FT K mg "read_test" s_read_test ["text", "place", "width"] f) (T2 : FT K mg "read_part" s_read_part ["text", "place", "width"] g) (T1 : FT K mg "read_plain_part" s_read_plain_part ["text", "place", "width"] e) (tup : mg "tuple" = none) : ∃ fd, Fun K "read_test" "read_test" s_read_test f fd ∧ Binds K fd ["text", "place", "width"] [] ∧ FnOk P w K mg base CX0 3 f fd ["text", "place", "width"] (spTest K) := by
  obtain ⟨fd, F, b⟩ := T.fn
  obtain ⟨fd2, F2, b2, G2⟩ := ok_part (P := P) (w := w) (base := base) T2 T1
  refine ⟨fd, F, b, F.ok c_read_test (fun vs H Q E h => ?_) (fun cdv A outer s H vs Q E hr h => ?_)⟩
  · obtain ⟨x, y, z, rfl, _⟩ := h
    rfl
  obtain ⟨x, y, z, rfl, hx, q⟩ := h
  obtain ⟨e1, e2⟩ := part_split hx
  refine ⟨_, pss_cons (ps_setLc (i := 3) (own := [("part", 4)]) (g := gName 4) (tt := tYes) rfl c_read_test.nd rfl rfl (sw_true rfl rfl rfl (by decide +kernel)) (pi_list (pe_split (pv 0) pe_str)) (blkOk_by (own := [("part", 4)]) (N := n_read_test) (sc := defScope s_read_test) (by decide +kernel))
      (fun _ _ _ _ _ => pg_name (i := 4) c_read_test.nd rfl (Or.inl rfl)) (fun _ _ _ _ _ => pts_nil) (fun _ _ _ _ _ => pe_call G2 hr rfl T2.g F2.kp b2 .nil pass0 (pa_cons (pv 4) (pa_cons (pv 1) (pa_cons (pv 2) pa_nil)))))
    (pss_one (ps_ret (pe_ifExp (pt_cmpR (op_inD (u65 hr)) pe_non (pv 3) rfl) pe_non (pe_callTy call_tuple_of (by rfl) tup (by decide +kernel) (pa_cons (pv 3) pa_nil))))), ?_⟩
  refine ⟨_, rfl, ⟨_, rfl⟩, x, _, rfl, rfl, by decide +kernel, e2, ?_⟩
  rw [e1]
  refine fun l nl => ⟨l, rfl, ⟨_, SqL.of upd_same⟩, fun L nL => lc_list (K := K) (a := l) (xs := [.str x]) (fun i G => (i = 0 ∧ G = upd (upd H l (.lst [.str x])) L (.lst [])) ∨ (i = 1 ∧ ∃ p, Same H G ∧ SqL K G l [.str x] ∧ Part K G p ∧ G L = some (.lst [.ref p]))) (.inl ⟨rfl, rfl⟩) ?_ ?_ ?_⟩
  · rintro i G hi (⟨rfl, rfl⟩ | ⟨rfl, p, s1, h1, _⟩)
    · have nlL : l ≠ L := fun e => by rw [e, upd_same] at nL; cases nL
      exact SqL.of (by rw [upd_ne nlL, upd_same])
    · exact h1
  · rintro i v G hi (⟨rfl, rfl⟩ | ⟨rfl, p, s1, h1, _⟩)
    · cases hi
      have nlL : l ≠ L := fun e => by rw [e, upd_same] at nL; cases nL
      refine ⟨rfl, ?_⟩
      unfold tYes
      dsimp only
      rw [if_pos rfl]
      refine ⟨_, rfl, _, rfl, _, rfl, x, y, z, rfl, hx, fun G2 p s2 hp => ?_⟩
      obtain ⟨nL1, _⟩ := free_upd nL
      have s3 : Same H G2 := (same_new (new_same nl) nL).trans s2
      have eL : G2 L = some (.lst []) := s2 _ _ upd_same
      refine ⟨[], eL, (by show 0 < sizeLine; decide), .inr ⟨rfl, p, same_out s3 nL1, ?_, ?_, upd_same⟩⟩
      · exact SqL.of (by rw [upd_ne nlL]; exact s2 _ _ (by rw [upd_ne nlL, upd_same]))
      · obtain ⟨t, htx, ht⟩ := hp
        exact ⟨t, htx, sqt_tups (tups_lst eL) ht⟩
    · cases hi
  · rintro G (⟨h, _⟩ | ⟨_, p, s1, h1, hp, hL⟩)
    · cases h
    obtain ⟨t, htx, ht⟩ := hp
    have dp : Dp K G (.ref p) (.tuple [.bool true, .str t, .none, .none]) := .tup ht (.cons (.bl _) (.cons (.str _) (.cons .non (.cons .non .nil))))
    refine ⟨_, rfl, .none, [.tuple [.bool true, .str t, .none, .none]], .non, .lst (SqL.of hL) (.cons dp .nil), by decide +kernel, by simp [SeqAt.shaped, PyData.canLay0, PyData.canLayAll0, PyData.depth, PyData.depthAll, partOk htx], ?_⟩
    refine ⟨_, rfl, ?_⟩
    refine iteF ?_
    refine ⟨_, rfl, L, _, rfl, .inl ⟨SqL.of hL, fun r nr => ?_⟩⟩
    exact q _ r (s1.trans (new_same nr)) ⟨p, SqT.of upd_same, t, htx, sqt_same (new_same nr) ht⟩
theorem op_inDTk {X : Cx} {K' : PySem.W.Frag} (hk : X.K = K') (hu : X.A.units + 65 < cLine) : OpR X (compareOp .In) (rInDT K') := by subst hk; exact op_inDT hu
/-- such a test names no given item -/
def spNames (K : PySem.W.Frag) : Sp := fun vs H Q _ => ∃ (t : Addr), vs = [.ref t] ∧ Test K H t ∧ ∀ H', Same H H' → Q (.bl false) H'
theorem ok_names {f a : Addr} (T : FT K mg "names_given" s_names_given ["test"] f) (C : TupT K mg "GIVEN" a [.str "given", .int 0]) (any : mg "any" = none) : ∃ fd, Fun K "names_given" "names_given" s_names_given f fd ∧ Binds K fd ["test"] [] ∧ FnOk P w K mg base CX0 1 f fd ["test"] (spNames K) := by
  obtain ⟨fd, F, b⟩ := T.fn
  refine ⟨fd, F, b, F.ok c_names_given (fun vs H Q E h => ?_) (fun cdv A outer s H vs Q E hr h => ?_)⟩
  · obtain ⟨t, rfl, _⟩ := h
    rfl
  obtain ⟨t, rfl, ⟨p, ht, x, hxx, hp⟩, q⟩ := h
  refine ⟨_, pss_one (ps_ret (pe_callB (cr_any rfl) (by rfl) any (by decide +kernel) (pa_cons (pe_lc (own := [("_", 1), ("left", 2), ("right", 3)]) (g := gTup K 4 (gCons (gName 1) (gCons (gName 1) (gCons (gName 2) (gCons (gName 3) gNil))))) (tt := tYes) rfl c_names_given.nd (pi_tup (pv 0)) (blkOk_by (own := [("_", 1), ("left", 2), ("right", 3)]) (N := n_names_given) (sc := defScope s_names_given) (by decide +kernel))
      (fun _ _ _ _ _ => pg_tup rfl (pgs_cons (pg_name (i := 1) c_names_given.nd rfl (Or.inl rfl)) (pgs_cons (pg_name (i := 1) c_names_given.nd rfl (Or.inl rfl)) (pgs_cons (pg_name (i := 2) c_names_given.nd rfl (Or.inl rfl)) (pgs_cons (pg_name (i := 3) c_names_given.nd rfl (Or.inl rfl)) pgs_nil))))) (fun _ _ _ _ _ => pts_nil)
      (fun _ _ _ _ _ => pe_cmpR (op_inDTk (K' := K) rfl (by exact u65 hr)) (pe_glob (v := .ref a) rfl C.g rfl) (pe_tup (pa_cons (pv 2) (pa_cons (pv 3) pa_nil))) rfl)) pa_nil))), ?_⟩
  refine ⟨_, rfl, t, rfl, ⟨_, ht⟩, fun L nL => lc_tup (K := K) (a := t) (xs := [.ref p]) (fun i G => (i = 0 ∧ G = upd H L (.lst [])) ∨ (i = 1 ∧ Same H G ∧ G L = some (.lst [.bl false]))) (.inl ⟨rfl, rfl⟩) ?_ ?_ ?_⟩
  · rintro i G hi (⟨rfl, rfl⟩ | ⟨rfl, s1, _⟩)
    · exact sqt_same (new_same nL) ht
    · exact sqt_same s1 ht
  · rintro i v G hi (⟨rfl, rfl⟩ | ⟨rfl, _⟩)
    · cases hi
      have hp2 : SqT K (upd H L (.lst [])) p [.bl true, .str x, .non, .non] := sqt_same (new_same nL) hp
      refine ⟨p, _, rfl, hp2, rfl, _, _, rfl, _, _, rfl, _, _, rfl, _, _, rfl, rfl, rfl, ?_⟩
      unfold tYes
      dsimp only
      rw [if_pos rfl]
      refine ⟨_, rfl, _, rfl, (by show 2 ≤ sizeLine; decide), fun r nr => ?_⟩
      refine ⟨.tuple [.str "given", .int 0], [.none, .none], .tup (C.s _) (.cons (.str _) (.cons (.int _) .nil)), .tup (SqT.of upd_same) (.cons .non (.cons .non .nil)), ?_, ?_, ?_⟩
      · decide +kernel
      · decide +kernel
      · have e : ([PyData.none, PyData.none].any fun z => PyData.eqv z (.tuple [.str "given", .int 0])) = false := by decide +kernel
        rw [e]
        obtain ⟨nr1, nrL⟩ := free_upd nr
        refine ⟨[], (by rw [upd_ne nrL.symm, upd_same]), (by show 0 < sizeLine; decide), .inr ⟨rfl, same_out (same_new (new_same nL) nr) nL, upd_same⟩⟩
    · cases hi
  · rintro G (⟨h, _⟩ | ⟨_, s1, hL⟩)
    · cases h
    exact ⟨L, [false], rfl, SqL.of hL, q _ s1⟩
end
end H2
namespace H2
open PySem PySem.Spec PyProof.Rows L2 Hx Nd Dun
section
variable {P : Program} {w : World} {K : PySem.W.Frag} {mg : Str → Option Value} {base : Heap} {D : Addr}
/-! ### the lines of the law's texts -/
inductive Tk | tell | grab | note | quit | ifi | ifb | els | fin
inductive On | no | yes | els
def Tk.line : Tk → Str
  | .tell => "tell" | .grab => "grab" | .note => "note" | .quit => "quit" | .ifi => "if inside" | .ifb => "if below root" | .els => "else" | .fin => "end"
def Tk.word : Tk → Str
  | .tell => "tell" | .grab => "grab" | .note => "note" | .quit => "quit" | .ifi => "if" | .ifb => "if" | .els => "else" | .fin => "end"
def On.vs : On → List V
  | .no => [] | .yes => [.str "if"] | .els => [.str "else"]
def stp : On → Tk → Option On
  | o, .tell => some o
  | o, .grab => some o
  | o, .note => some o
  | o, .quit => some o
  | .no, .ifi => some .yes
  | .no, .ifb => some .yes
  | .yes, .els => some .els
  | .yes, .fin => some .no
  | .els, .fin => some .no
  | _, _ => none
/-! ### Row -/
abbrev psRow : List Str := ["self", "word", "place", "number", "test"]
structure RowT (K : PySem.W.Frag) (mg : Str → Option Value) (C fI tt : Addr) : Prop where
  g : mg "Row" = some (.ref C)
  mak : Mk K C fI
  cl : Cls K C
  nw : NoAttr K C "word"
  np : NoAttr K C "place"
  nn : NoAttr K C "number"
  nt : NoAttr K C "test"
  te : ∀ H, SqT K H tt []
  fn : ∃ fd, FunD K "__init__" "Row.__init__" (defArgs s_Row_init) (defBody s_Row_init) (defScope s_Row_init) [.non, .ref tt] [] fI fd
def rowF (a b c d : V) : List (Str × V) := [("word", a), ("place", b), ("number", c), ("test", d)]
def spRow (C : Addr) : Sp := fun vs H Q _ => ∃ (p dx : Addr) (a b c d : V), vs = [.ref p, a, b, c, d] ∧ H p = some (.ins C dx []) ∧ Q .non (upd H p (.ins C dx (rowF a b c d)))
theorem ok_Row {C fI tt : Addr} (T : RowT K mg C fI tt) {fd : FuncData} (F : FunD K "__init__" "Row.__init__" (defArgs s_Row_init) (defBody s_Row_init) (defScope s_Row_init) [.non, .ref tt] [] fI fd) : FnOk P w K mg base CX0 1 fI fd psRow (spRow C) := by
  refine F.ok (CX := CX0) c_Row_init (fun vs H Q E h => ?_) (fun cdv A outer s H vs Q E hr h => ?_)
  · obtain ⟨p, dx, a, b, c, d, rfl, _⟩ := h
    rfl
  obtain ⟨p, dx, a, b, c, d, rfl, hp, q⟩ := h
  refine ⟨_, (pss_cons (ps_fld (pv 0) (pv 1) rfl) (pss_cons (ps_fld (pv 0) (pv 2) rfl) (pss_cons (ps_fld (pv 0) (pv 3) rfl) (pss_one (ps_fld (pv 0) (pv 4) rfl))))), ?_⟩
  refine ⟨_, rfl, _, rfl, p, C, dx, _, rfl, hp, T.cl, T.nw, (by show 0 < 1000; decide), ?_⟩
  refine ⟨_, rfl, _, rfl, p, C, dx, _, rfl, upd_same, T.cl, T.np, (by show 1 < 1000; decide), ?_⟩
  refine ⟨_, rfl, _, rfl, p, C, dx, _, rfl, upd_same, T.cl, T.nn, (by show 2 < 1000; decide), ?_⟩
  refine ⟨_, rfl, _, rfl, p, C, dx, _, rfl, upd_same, T.cl, T.nt, (by show 3 < 1000; decide), ?_⟩
  rw [upd_upd, upd_upd, upd_upd]
  exact q
theorem iteBT {b : Bool} {A B : Prop} (h : b = true) (x : A) : if b = true then A else B := by rw [if_pos h]; exact x
theorem iteBF {b : Bool} {A B : Prop} (h : b = false) (x : B) : if b = true then A else B := by rw [h]; exact iteF x
def RowAt (K : PySem.W.Frag) (C : Addr) (H : Hp) (r : Addr) (t : Tk) : Prop := ∃ (dx tt : Addr) (nu : V), H r = some (.ins C dx (rowF (.str t.word) (.str "top") nu (.ref tt))) ∧ (t = .ifi ∨ t = .ifb → Test K H tt) ∧ (t = .tell → SqT K H tt [])
theorem RowAt.keep {C r : Addr} {t : Tk} {H H' : Hp} (h : RowAt K C H r t) (e : Same H H') : RowAt K C H' r t := by
  obtain ⟨dx, tt, nu, h1, h2, h9⟩ := h
  exact ⟨dx, tt, nu, e _ _ h1, fun z => (h2 z).keep e, fun z => sqt_same e (h9 z)⟩
theorem row_kb {fI tt : Addr} {fd : FuncData} (F : FunD K "__init__" "Row.__init__" (defArgs s_Row_init) (defBody s_Row_init) (defScope s_Row_init) [.non, .ref tt] [] fI fd) :
    ∃ its : List Value, KBn K fd psRow 3 ["test"] (fun us ws => us ++ (its.take 1 ++ ws)) (fun vs zs => vs ++ (([.non, .ref tt] : List V).take 1 ++ zs)) :=
  FunD.kbindsD (ps := psRow) F 3 ["test"] (fun us its ws => us ++ (its.take 1 ++ ws)) (by simp) (fun r1 r2 r3 => by
    exact r1.append ((r2.take 1).append r3)) (fun T kV doc pm an cdv ct us its ws l1 l2 l3 => by
    match us, its, ws, l1, l2, l3 with
    | [a, b, c], [d, e], [f], _, _, _ => exact ⟨_, rfl, rfl⟩)
theorem row_b {fI tt : Addr} {fd : FuncData} (F : FunD K "__init__" "Row.__init__" (defArgs s_Row_init) (defBody s_Row_init) (defScope s_Row_init) [.non, .ref tt] [] fI fd) : ∃ ds, Vals [.non, .ref tt] ds ∧ Binds K fd psRow ds :=
  FunD.binds1 (ps := psRow) F 3 0 (by simp) rfl (fun T kV doc pm an cdv ct us its l1 l2 => by
    match us, its, l1, l2 with
    | [a, b, c], [d, e], _, _ => exact ⟨_, rfl, rfl⟩)
/-! ### row_with_test -/
def spRowTest (K : PySem.W.Frag) (C : Addr) : Sp := fun vs H Q _ => ∃ (x : Str) (y z : V), vs = [y, .str "top", .str x, z] ∧ x ∈ partTexts ∧ ∀ H' r dx tt, Same H H' → H r = none → H' r = some (.ins C dx (rowF y (.str "top") .non (.ref tt))) → Test K H' tt → Q (.ref r) H'
theorem ok_rowTest {f g C fI tt : Addr} (T : FT K mg "row_with_test" s_row_with_test ["word", "place", "text", "width"] f) {td : FuncData} (TF : Fun K "read_test" "read_test" s_read_test g td) (tb : Binds K td ["text", "place", "width"] []) (tg : mg "read_test" = some (.ref g)) (TG : FnOk P w K mg base CX0 3 g td ["text", "place", "width"] (spTest K)) (R : RowT K mg C fI tt) :
    ∃ fd, Fun K "row_with_test" "row_with_test" s_row_with_test f fd ∧ Binds K fd ["word", "place", "text", "width"] [] ∧ FnOk P w K mg base CX0 4 f fd ["word", "place", "text", "width"] (spRowTest K C) := by
  obtain ⟨fd, F, b⟩ := T.fn
  refine ⟨fd, F, b, F.ok c_row_with_test (fun vs H Q E h => ?_) (fun cdv A outer s H vs Q E hr h => ?_)⟩
  · obtain ⟨x, y, z, rfl, _⟩ := h
    rfl
  obtain ⟨x, y, z, rfl, hx, q⟩ := h
  obtain ⟨rd, RF⟩ := R.fn
  obtain ⟨its, kb⟩ := row_kb RF
  refine ⟨_, pss_cons (ps_set (i := 4) c_row_with_test.nd rfl (Or.inl rfl) (pe_call TG hr rfl tg TF.kp tb .nil pass0 (pa_cons (pv 2) (pa_cons (pv 1) (pa_cons (pv 3) pa_nil)))))
    (pss_one (ps_ret (pe_ifExp (pt_cmp (pc_isN (pv 4))) pe_non (pe_makeN (n := 2) R.mak (ok_Row R RF) (hr.mono (by decide)) rfl R.g kb pass0 (pa_cons (pv 0) (pa_cons (pv 1) pa_nil)) (pk_cons (pv 4) pk_nil))))), ?_⟩
  refine ⟨_, rfl, _, rfl, _, rfl, x, .str "top", z, rfl, hx, fun H1 t s1 ht => ?_⟩
  refine ⟨_, rfl, _, rfl, ?_⟩
  refine iteF ?_
  refine ⟨_, rfl, _, rfl, _, rfl, rfl, rfl, fun p dx np nd ne => ?_⟩
  refine ⟨p, dx, y, .str "top", .non, .ref t, rfl, upd_same, rfl, ?_⟩
  rw [upd_upd]
  have s2 := (s1.trans (new_same (o := .own p) nd))
  have np' : upd H1 dx (.own p) p = none := by rw [upd_ne ne.symm]; exact np
  have s3 := s2.trans (new_same (o := .ins C dx (rowF y (.str "top") .non (.ref t))) np')
  exact q _ p dx t s3 (free_same s1 np) upd_same (ht.keep ((new_same nd).trans (new_same np')))
/-! ### row_of_block_word -/
def spBlock (K : PySem.W.Frag) (C : Addr) : Sp := fun vs H Q _ => ∃ (op : Addr) (o : On) (t : Tk), vs = [.str t.word, .str "top", .ref op] ∧ SqL K H op o.vs ∧ ((t = .els ∧ o = .yes) ∨ (t = .fin ∧ o = .yes) ∨ (t = .fin ∧ o = .els)) ∧ ∀ H' r, Same H H' → H r = none → RowAt K C H' r t → Q (.ref r) H'
theorem ok_block {f C fI tt : Addr} (T : FT K mg "row_of_block_word" s_row_of_block_word ["word", "place", "opened"] f) (R : RowT K mg C fI tt) :
    ∃ fd, Fun K "row_of_block_word" "row_of_block_word" s_row_of_block_word f fd ∧ Binds K fd ["word", "place", "opened"] [] ∧ FnOk P w K mg base CX0 3 f fd ["word", "place", "opened"] (spBlock K C) := by
  obtain ⟨fd, F, b⟩ := T.fn
  refine ⟨fd, F, b, F.ok c_row_of_block_word (fun vs H Q E h => ?_) (fun cdv A outer s H vs Q E hr h => ?_)⟩
  · obtain ⟨op, o, t, rfl, _⟩ := h
    rfl
  obtain ⟨op, o, t, rfl, ho, hot, q⟩ := h
  obtain ⟨rd, RF⟩ := R.fn
  obtain ⟨ds, rds, rb⟩ := row_b RF
  refine ⟨_, pss_cons (ps_set (i := 3) c_row_of_block_word.nd rfl (Or.inl rfl) (pe_ifExp (pt_cmpR op_eq (pv 0) pe_str (nomark _)) (pe_tup (pa_cons pe_str pa_nil)) (pe_tup (pa_cons pe_str (pa_cons pe_str (pa_cons pe_str (pa_cons pe_str pa_nil)))))))
    (pss_one (ps_ret (pe_ifExp (PW.pt (pw_and (pt_truth (pv 2) (by intro _; rfl)) (pw_and1 (pt_cmpR op_in_seq (pe_ix ix_list (pv 2) (pe_un un_neg pe_int) (fun _ _ => rfl)) (pv 3) rfl)))) (pe_make R.mak (ok_Row R RF) (hr.mono (by decide)) rfl R.g rb rds pass0 (pa_cons (pv 0) (pa_cons (pv 1) pa_nil))) pe_non))), ?_⟩
  have fin : ∀ (G : Hp) (p dx : Addr), Same H G → G p = none → G dx = none → dx ≠ p → spRow C (.ref p :: ([.str t.word, .str "top"] ++ [.non, .ref tt])) (upd (upd G dx (.own p)) p (.ins C dx [])) (fun v H2 => v = .non ∧ Q (.ref p) H2) E := by
    intro G p dx s1 np nd ne
    refine ⟨p, dx, .str t.word, .str "top", .non, .ref tt, rfl, upd_same, rfl, ?_⟩
    rw [upd_upd]
    have np' : upd G dx (.own p) p = none := by rw [upd_ne ne.symm]; exact np
    refine q _ p ((s1.trans (new_same nd)).trans (new_same np')) (free_same s1 np) ⟨dx, tt, .non, upd_same, fun z => ?_, fun z => by rcases hot with ⟨rfl, _⟩ | ⟨rfl, _⟩ | ⟨rfl, _⟩ <;> cases z⟩
    rcases hot with ⟨rfl, _⟩ | ⟨rfl, _⟩ | ⟨rfl, _⟩ <;> rcases z with z | z <;> cases z
  rcases hot with ⟨rfl, rfl⟩ | ⟨rfl, rfl⟩ | ⟨rfl, rfl⟩
  · refine ⟨_, rfl, rfl, _, rfl, iteBT (by decide +kernel) ⟨(by show 1 ≤ sizeLine; decide), fun u nu => ?_⟩⟩
    have ho' := sqt_list_same ho (new_same (o := .tup [.str "if"]) nu)
    refine ⟨_, rfl, true, .inl ⟨_, ho', rfl⟩, iteT ?_⟩
    refine ⟨_, rfl, _, rfl, op, _, _, _, rfl, rfl, ho', rfl, _, rfl, u, _, rfl, .inr (SqT.of upd_same), rfl, rfl, _, rfl, iteBT (by decide +kernel) ?_⟩
    exact ⟨_, rfl, _, rfl, fun p dx np nd ne => fin _ p dx (new_same nu) np nd ne⟩
  · refine ⟨_, rfl, rfl, _, rfl, iteBF (by decide +kernel) ⟨(by show 4 ≤ sizeLine; decide), fun u nu => ?_⟩⟩
    have ho' := sqt_list_same ho (new_same (o := .tup [.str "if", .str "else", .str "down", .str "up"]) nu)
    refine ⟨_, rfl, true, .inl ⟨_, ho', rfl⟩, iteT ?_⟩
    refine ⟨_, rfl, _, rfl, op, _, _, _, rfl, rfl, ho', rfl, _, rfl, u, _, rfl, .inr (SqT.of upd_same), rfl, rfl, _, rfl, iteBT (by decide +kernel) ?_⟩
    exact ⟨_, rfl, _, rfl, fun p dx np nd ne => fin _ p dx (new_same nu) np nd ne⟩
  · refine ⟨_, rfl, rfl, _, rfl, iteBF (by decide +kernel) ⟨(by show 4 ≤ sizeLine; decide), fun u nu => ?_⟩⟩
    have ho' := sqt_list_same ho (new_same (o := .tup [.str "if", .str "else", .str "down", .str "up"]) nu)
    refine ⟨_, rfl, true, .inl ⟨_, ho', rfl⟩, iteT ?_⟩
    refine ⟨_, rfl, _, rfl, op, _, _, _, rfl, rfl, ho', rfl, _, rfl, u, _, rfl, .inr (SqT.of upd_same), rfl, rfl, _, rfl, iteBT (by decide +kernel) ?_⟩
    exact ⟨_, rfl, _, rfl, fun p dx np nd ne => fin _ p dx (new_same nu) np nd ne⟩
end
end H2
namespace H2
open PySem PySem.Spec PyProof.Rows L2 Hx Nd Dun
section
variable {P : Program} {w : World} {K : PySem.W.Frag} {mg : Str → Option Value} {base : Heap} {D : Addr}
/-! ### read_row -/
theorem pt_no {X : Cx} {e : Expr} : PT X e (fun _ _ _ => False) := ⟨fun _ _ _ _ _ _ h => h.elim⟩
theorem op_in_seqk {X : Cx} {K' : PySem.W.Frag} (hk : X.K = K') : OpR X (compareOp .In) (rIn K' false) := by subst hk; exact op_in_seq
def loopsV : List V := [.str "down", .str "up"]
def topV : List V := [.str "tell", .str "grab", .str "grab last", .str "grab given", .str "lay", .str "longer", .str "shorter", .str "trade", .str "to start", .str "note", .str "quit"]
abbrev psRT : List Str := ["word", "place", "text", "width"]
abbrev psBW : List Str := ["word", "place", "opened"]
abbrev psRR : List Str := ["line", "opened", "width"]
def spReadRow (K : PySem.W.Frag) (C : Addr) : Sp := fun vs H Q _ => ∃ (x : Str) (op : Addr) (z : V) (o : On), vs = [.str x, .ref op, z] ∧ SqL K H op o.vs ∧ ((∃ (t : Tk) (o' : On), stp o t = some o' ∧ x = t.line ∧ ∀ H' r, Same H H' → H r = none → RowAt K C H' r t → Q (.ref r) H') ∨
  (x = "Tell" ∧ ∀ H', Same H H' → Q .non H'))
theorem ok_read_row {f g1 g2 C fI tt aL aT : Addr} (T : FT K mg "read_row" s_read_row psRR f) {d1 d2 : FuncData}
    (F1 : Fun K "row_with_test" "row_with_test" s_row_with_test g1 d1) (b1 : Binds K d1 psRT []) (m1 : mg "row_with_test" = some (.ref g1)) (G1 : FnOk P w K mg base CX0 4 g1 d1 psRT (spRowTest K C))
    (F2 : Fun K "row_of_block_word" "row_of_block_word" s_row_of_block_word g2 d2) (b2 : Binds K d2 psBW []) (m2 : mg "row_of_block_word" = some (.ref g2)) (G2 : FnOk P w K mg base CX0 3 g2 d2 psBW (spBlock K C))
    (R : RowT K mg C fI tt) (cL : TupT K mg "LOOPS" aL loopsV) (cT : TupT K mg "TOP_WORDS" aT topV) :
    ∃ fd, Fun K "read_row" "read_row" s_read_row f fd ∧ Binds K fd psRR [] ∧ FnOk P w K mg base CX0 5 f fd psRR (spReadRow K C) := by
  obtain ⟨fd, F, b⟩ := T.fn
  refine ⟨fd, F, b, F.ok c_read_row (fun vs H Q E h => ?_) (fun cdv A outer s H vs Q E hr h => ?_)⟩
  · obtain ⟨x, op, z, o, rfl, _⟩ := h
    rfl
  obtain ⟨x, op, z, o, rfl, ho, q⟩ := h
  obtain ⟨rd, RF⟩ := R.fn
  obtain ⟨ds, rds, rb⟩ := row_b RF
  refine ⟨_, pss_cons (ps_setLc (i := 3) (own := [("block", 4)]) (g := gName 4) rfl c_read_row.nd rfl rfl (sw_true rfl rfl rfl (by decide +kernel)) (pi_list (pv 1)) (blkOk_by (own := [("block", 4)]) (N := n_read_row) (sc := defScope s_read_row) (by decide +kernel))
      (fun _ _ _ _ _ => pg_name (i := 4) c_read_row.nd rfl (Or.inl rfl)) (fun _ _ _ _ _ => pts_one (pt_cmpR (op_in_seqk (K' := K) rfl) (pv 4) (pe_glob (v := .ref aL) rfl cL.g rfl) rfl)) (fun _ _ _ _ _ => pv 4))
    (pss_cons (ps_set (i := 5) c_read_row.nd rfl (Or.inl rfl) (pe_ifExp (pt_truth (pv 3) (by intro _; rfl)) pe_no pe_str))
    (pss_cons (ps_if (pt_cmpR op_in_seq (pv 0) (pe_tup (pa_cons pe_str (pa_cons pe_str pa_nil))) rfl) (pss_one (ps_ret (pe_call G2 (hr.mono (by decide)) rfl m2 F2.kp b2 .nil pass0 (pa_cons (pv 0) (pa_cons (pv 5) (pa_cons (pv 1) pa_nil)))))) pss_nil)
    (pss_cons (ps_if (pt_cmpR op_in_seq (pv 0) (pe_ifExp (pt_truth (pv 3) (by intro _; rfl)) pe_no (pe_glob (v := .ref aT) rfl cT.g rfl)) rfl) (pss_one (ps_ret (pe_make R.mak (ok_Row R RF) (hr.mono (by decide)) rfl R.g rb rds pass0 (pa_cons (pv 0) (pa_cons (pv 5) pa_nil))))) pss_nil)
    (pss_cons (ps_asg (pe_partition (pv 0) pe_str) (pg_tup rfl (pgs_cons (pg_name (i := 6) c_read_row.nd rfl (Or.inl rfl)) (pgs_cons (pg_name (i := 7) c_read_row.nd rfl (Or.inl rfl)) (pgs_cons (pg_name (i := 8) c_read_row.nd rfl (Or.inl rfl)) pgs_nil)))))
    (pss_cons (ps_if (pt_cmpR op_eq (pv 6) pe_str (nomark _)) (pss_one (ps_ret (pe_call G1 hr rfl m1 F1.kp b1 .nil pass0 (pa_cons (pv 6) (pa_cons (pv 5) (pa_cons (pv 8) (pa_cons (pv 2) pa_nil))))))) pss_nil)
    (pss_cons (ps_if (PW.pt (pw_and (pt_cmpR op_in_seq (pv 6) (pe_glob (v := .ref aL) rfl cL.g rfl) rfl) (pw_and1 pt_no))) (pss_one ps_never) pss_nil)
    (pss_one (ps_ret (pe_ifExp (pt_cmpR op_eq (pv 6) pe_str (nomark _)) pe_no pe_non))))))))), ?_⟩
  refine ⟨_, rfl, op, rfl, ⟨_, ho⟩, fun L nL => lc_list (K := K) (a := op) (xs := o.vs) (fun i G => G = upd H L (.lst [])) rfl ?_ ?_ ?_⟩
  · rintro i G _ rfl
    exact sqt_list_same ho (new_same nL)
  · rintro i v G hi rfl
    have hv : flatV v = true ∧ inV v loopsV = false := by
      cases o with
      | no => cases hi
      | yes =>
        match i, hi with
        | 0, hi => cases hi; exact ⟨rfl, by decide +kernel⟩
        | i + 1, hi => cases hi
      | els =>
        match i, hi with
        | 0, hi => cases hi; exact ⟨rfl, by decide +kernel⟩
        | i + 1, hi => cases hi
    refine ⟨rfl, ?_⟩
    exact ⟨_, rfl, _, _, rfl, .inr (cL.s _), hv.1, rfl, _, rfl, iteBF hv.2 rfl⟩
  rintro G rfl
  have sL : Same H (upd H L (.lst [])) := new_same nL
  refine ⟨_, rfl, false, .inl ⟨_, SqL.of upd_same, rfl⟩, iteF ?_⟩
  refine ⟨_, rfl, (by show 2 ≤ sizeLine; decide), fun u nu => ⟨u, _, rfl, .inr (SqT.of upd_same), rfl, rfl, _, rfl, ?_⟩⟩
  obtain ⟨G, hG⟩ : ∃ G, G = upd (upd H L (.lst [])) u (.tup [.str "else", .str "end"]) := ⟨_, rfl⟩
  have sG : Same H G := by rw [hG]; exact same_new sL nu
  have eL : G L = some (.lst []) := by rw [hG]; exact (new_same nu) _ _ upd_same
  rw [← hG]
  clear hG
  obtain ⟨qq, hqq⟩ : ∃ qq : Tk → Prop, qq = fun t => ∀ H' r, Same H H' → H r = none → RowAt K C H' r t → Q (.ref r) H' := ⟨_, rfl⟩
  have cls : (∃ t : Tk, x = t.word ∧ inV (.str x) [.str "else", .str "end"] = false ∧ inV (.str x) topV = true ∧ t ≠ .ifi ∧ t ≠ .ifb ∧ qq t) ∨
      (∃ t : Tk, x = t.word ∧ inV (.str x) [.str "else", .str "end"] = true ∧ ((t = .els ∧ o = .yes) ∨ (t = .fin ∧ o = .yes) ∨ (t = .fin ∧ o = .els)) ∧ qq t) ∨
      (∃ (t : Tk) (y : Str), t.word = "if" ∧ y ∈ partTexts ∧ inV (.str x) [.str "else", .str "end"] = false ∧ inV (.str x) topV = false ∧ Txt.partition x " " = (("if" : Str), (" " : Str), y) ∧ x.length ≤ sizeLine ∧ qq t) ∨
      (x = "Tell" ∧ ∀ H', Same H H' → Q .non H') := by
    rcases q with ⟨t, o', hst, rfl, q⟩ | ⟨rfl, q⟩
    · have q' : qq t := by rw [hqq]; exact q
      cases t with
      | tell => exact .inl ⟨_, rfl, by decide +kernel, by decide +kernel, by intro z; (cases z), by intro z; (cases z), q'⟩
      | grab => exact .inl ⟨_, rfl, by decide +kernel, by decide +kernel, by intro z; (cases z), by intro z; (cases z), q'⟩
      | note => exact .inl ⟨_, rfl, by decide +kernel, by decide +kernel, by intro z; (cases z), by intro z; (cases z), q'⟩
      | quit => exact .inl ⟨_, rfl, by decide +kernel, by decide +kernel, by intro z; (cases z), by intro z; (cases z), q'⟩
      | els =>
        cases o with
        | yes => exact .inr (.inl ⟨_, rfl, by decide +kernel, .inl ⟨rfl, rfl⟩, q'⟩)
        | _ => cases hst
      | fin =>
        cases o with
        | yes => exact .inr (.inl ⟨_, rfl, by decide +kernel, .inr (.inl ⟨rfl, rfl⟩), q'⟩)
        | els => exact .inr (.inl ⟨_, rfl, by decide +kernel, .inr (.inr ⟨rfl, rfl⟩), q'⟩)
        | _ => cases hst
      | ifi => exact .inr (.inr (.inl ⟨_, "inside", rfl, by decide +kernel, by decide +kernel, by decide +kernel, by decide +kernel, by decide +kernel, q'⟩))
      | ifb => exact .inr (.inr (.inl ⟨_, "below root", rfl, by decide +kernel, by decide +kernel, by decide +kernel, by decide +kernel, by decide +kernel, q'⟩))
    · exact .inr (.inr (.inr ⟨rfl, q⟩))
  clear q
  subst hqq
  rcases cls with ⟨t, rfl, h1, h2, n1, n2, q⟩ | ⟨t, rfl, h1, hot, q⟩ | ⟨t, y, hw, hy, h1, h2, hp, hl, q⟩ | ⟨rfl, q⟩
  · refine iteBF h1 ?_
    refine ⟨_, rfl, _, rfl, false, .inl ⟨_, SqL.of eL, rfl⟩, iteF ?_⟩
    refine ⟨aT, topV, rfl, .inr (cT.s _), rfl, rfl, _, rfl, iteBT h2 ?_⟩
    refine ⟨_, rfl, _, rfl, fun p dx np nd ne => ⟨p, dx, _, .str "top", .non, .ref tt, rfl, upd_same, rfl, ?_⟩⟩
    rw [upd_upd]
    have np' : upd G dx (.own p) p = none := by rw [upd_ne ne.symm]; exact np
    refine q _ p ((sG.trans (new_same nd)).trans (new_same np')) (free_same sG np) ⟨dx, tt, .non, upd_same, fun z => ?_, fun _ => R.te _⟩
    rcases z with z | z
    · exact absurd z n1
    · exact absurd z n2
  · refine iteBT h1 ?_
    refine ⟨_, rfl, _, rfl, _, rfl, op, o, t, rfl, sqt_list_same ho sG, hot, fun H' r s1 nr hrow => ?_⟩
    exact q H' r (sG.trans s1) (free_same sG nr) hrow
  · refine iteBF h1 ?_
    refine ⟨_, rfl, _, rfl, false, .inl ⟨_, SqL.of eL, rfl⟩, iteF ?_⟩
    refine ⟨aT, topV, rfl, .inr (cT.s _), rfl, rfl, _, rfl, iteBF h2 ?_⟩
    refine ⟨_, rfl, ⟨_, rfl⟩, x, _, rfl, rfl, by decide +kernel, hl, fun T nT => ?_⟩
    rw [hp]
    refine ⟨T, _, rfl, SqT.of upd_same, rfl, _, _, rfl, _, _, rfl, _, _, rfl, rfl, ?_⟩
    refine ⟨_, rfl, rfl, _, rfl, iteBT (by show decide (V.str ("if" : Str) = V.str ("if" : Str)) = true; decide +kernel) ?_⟩
    refine ⟨_, rfl, _, rfl, _, rfl, _, rfl, y, .str "if", z, rfl, hy, fun H' r dx tt s1 nr er ht => ?_⟩
    exact q H' r ((same_new sG nT).trans s1) (free_same (same_new sG nT) nr) ⟨dx, tt, .non, (by rw [hw]; exact er), fun _ => ht, fun z => by rw [z] at hw; exact absurd hw (by decide +kernel)⟩
  · refine iteBF (by decide +kernel) ?_
    refine ⟨_, rfl, _, rfl, false, .inl ⟨_, SqL.of eL, rfl⟩, iteF ?_⟩
    refine ⟨aT, topV, rfl, .inr (cT.s _), rfl, rfl, _, rfl, iteBF (by decide +kernel) ?_⟩
    refine ⟨_, rfl, ⟨_, rfl⟩, "Tell", _, rfl, rfl, by decide +kernel, by decide +kernel, fun T nT => ?_⟩
    have hp : Txt.partition "Tell" " " = (("Tell" : Str), ("" : Str), ("" : Str)) := by decide +kernel
    rw [hp]
    refine ⟨T, _, rfl, SqT.of upd_same, rfl, _, _, rfl, _, _, rfl, _, _, rfl, rfl, ?_⟩
    refine ⟨_, rfl, rfl, _, rfl, iteBF (by decide +kernel) ?_⟩
    refine ⟨_, rfl, _, _, rfl, .inr (cL.s _), rfl, rfl, _, rfl, iteBF (by decide +kernel) ?_⟩
    refine iteF ?_
    refine ⟨_, rfl, rfl, _, rfl, iteBF (by decide +kernel) ?_⟩
    exact q _ (same_new sG nT)
/-! ### blocks_behind -/
def spBlocks : Sp := fun vs H Q _ => ∃ (op : Addr) (o o' : On) (t : Tk), vs = [.str t.word, .ref op] ∧ H op = some (.lst o.vs) ∧ stp o t = some o' ∧ ∀ H' p, Same H H' → (p = op ∨ H p = none) → H' p = some (.lst o'.vs) → Q (.ref p) H'
theorem ok_blocks {f aL : Addr} (T : FT K mg "blocks_behind" s_blocks_behind ["word", "opened"] f) (cL : TupT K mg "LOOPS" aL loopsV) : ∃ fd, Fun K "blocks_behind" "blocks_behind" s_blocks_behind f fd ∧ Binds K fd ["word", "opened"] [] ∧ FnOk P w K mg base CX0 1 f fd ["word", "opened"] spBlocks := by
  obtain ⟨fd, F, b⟩ := T.fn
  refine ⟨fd, F, b, F.ok c_blocks_behind (fun vs H Q E h => ?_) (fun cdv A outer s H vs Q E hr h => ?_)⟩
  · obtain ⟨op, o, o', t, rfl, _⟩ := h
    rfl
  obtain ⟨op, o, o', t, rfl, ho, hst, q⟩ := h
  refine ⟨_, pss_cons (ps_if (PW.pt (pw_or (pt_cmpR op_eq (pv 0) pe_str (nomark _)) (pw_or1 (pt_cmpR op_in_seq (pv 0) (pe_glob (v := .ref aL) rfl cL.g rfl) rfl)))) (pss_one (ps_ret (pe_op op_cat (pv 1) (pe_lst (pa_cons (pv 0) pa_nil))))) pss_nil)
    (pss_cons (ps_if (pt_cmpR op_eq (pv 0) pe_str (nomark _)) (pss_one (ps_ret (pe_op op_cat (pe_slice sl_list (pv 1) po_none (po_some (pe_un un_neg pe_int))) (pe_lst (pa_cons (pv 0) pa_nil))))) pss_nil)
    (pss_one (ps_ret (pe_ifExp (pt_cmpR op_eq (pv 0) pe_str (nomark _)) (pe_slice sl_list (pv 1) po_none (po_some (pe_un un_neg pe_int))) (pv 1))))), ?_⟩
  refine ⟨_, rfl, rfl, _, rfl, ?_⟩
  have cls : (t.word = "if" ∧ o = .no ∧ o' = .yes) ∨ (t.word = "else" ∧ o = .yes ∧ o' = .els) ∨ (t.word = "end" ∧ (o = .yes ∨ o = .els) ∧ o' = .no) ∨ (decide (V.str t.word = V.str "if") = false ∧ inV (V.str t.word) loopsV = false ∧ decide (V.str t.word = V.str "else") = false ∧ decide (V.str t.word = V.str "end") = false ∧ o' = o) := by
    cases t with
    | tell => cases hst; exact .inr (.inr (.inr ⟨by decide +kernel, by decide +kernel, by decide +kernel, by decide +kernel, rfl⟩))
    | grab => cases hst; exact .inr (.inr (.inr ⟨by decide +kernel, by decide +kernel, by decide +kernel, by decide +kernel, rfl⟩))
    | note => cases hst; exact .inr (.inr (.inr ⟨by decide +kernel, by decide +kernel, by decide +kernel, by decide +kernel, rfl⟩))
    | quit => cases hst; exact .inr (.inr (.inr ⟨by decide +kernel, by decide +kernel, by decide +kernel, by decide +kernel, rfl⟩))
    | ifi => cases o <;> cases hst; exact .inl ⟨rfl, rfl, rfl⟩
    | ifb => cases o <;> cases hst; exact .inl ⟨rfl, rfl, rfl⟩
    | els => cases o <;> cases hst; exact .inr (.inl ⟨rfl, rfl, rfl⟩)
    | fin =>
      cases o with
      | no => cases hst
      | yes => cases hst; exact .inr (.inr (.inl ⟨rfl, .inl rfl, rfl⟩))
      | els => cases hst; exact .inr (.inr (.inl ⟨rfl, .inr rfl, rfl⟩))
  rcases cls with ⟨hw, rfl, rfl⟩ | ⟨hw, rfl, rfl⟩ | ⟨hw, hoo, rfl⟩ | ⟨h1, h2, h3, h4, rfl⟩
  · rw [hw]
    refine iteBT (by decide +kernel) (iteT ?_)
    refine ⟨_, rfl, _, rfl, (by show 1 ≤ sizeLine; decide), fun l nl => ?_⟩
    refine ⟨op, l, _, _, rfl, rfl, (new_same nl) _ _ ho, upd_same, (by show 0 + 1 ≤ sizeLine; decide), fun p np => ?_⟩
    exact q _ p ((new_same nl).trans (new_same np)) (.inr (free_upd np).1) upd_same
  · rw [hw]
    refine iteBF (by decide +kernel) ?_
    refine ⟨_, rfl, _, _, rfl, .inr (cL.s _), rfl, rfl, _, rfl, iteBF (by decide +kernel) ?_⟩
    refine ⟨_, rfl, rfl, _, rfl, iteBT (by decide +kernel) ?_⟩
    refine ⟨_, rfl, _, rfl, _, rfl, op, _, rfl, SqL.of ho, fun c nc => ?_⟩
    refine ⟨_, rfl, (by show 1 ≤ sizeLine; decide), fun l nl => ?_⟩
    refine ⟨c, l, _, _, rfl, rfl, (new_same nl) _ _ upd_same, upd_same, (by show 0 + 1 ≤ sizeLine; decide), fun p np => ?_⟩
    exact q _ p (((new_same nc).trans (new_same nl)).trans (new_same np)) (.inr (free_upd (free_upd np).1).1) upd_same
  · rw [hw]
    refine iteBF (by decide +kernel) ?_
    refine ⟨_, rfl, _, _, rfl, .inr (cL.s _), rfl, rfl, _, rfl, iteBF (by decide +kernel) ?_⟩
    refine ⟨_, rfl, rfl, _, rfl, iteBF (by decide +kernel) ?_⟩
    refine ⟨_, rfl, rfl, _, rfl, iteBT (by decide +kernel) ?_⟩
    refine ⟨_, rfl, _, rfl, _, rfl, op, _, rfl, SqL.of ho, fun c nc => ?_⟩
    rcases hoo with rfl | rfl
    · exact q _ c (new_same nc) (.inr nc) upd_same
    · exact q _ c (new_same nc) (.inr nc) upd_same
  · refine iteBF h1 ?_
    refine ⟨_, rfl, _, _, rfl, .inr (cL.s _), rfl, rfl, _, rfl, iteBF h2 ?_⟩
    refine ⟨_, rfl, rfl, _, rfl, iteBF h3 ?_⟩
    refine ⟨_, rfl, rfl, _, rfl, iteBF h4 ?_⟩
    exact ⟨_, rfl, q H op (fun _ _ z => z) (.inl rfl) ho⟩
end
end H2
namespace H2
open PySem PySem.Spec PyProof.Rows L2 Hx Nd Dun
section
variable {P : Program} {w : World} {K : PySem.W.Frag} {mg : Str → Option Value} {base : Heap} {D : Addr}
/-! ### read_rows -/
def run : On → List Tk → Option On
  | o, [] => some o
  | o, t :: r => (stp o t).bind fun o' => run o' r
def RowsAt (K : PySem.W.Frag) (C : Addr) (H : Hp) (rs : List Addr) (ts : List Tk) : Prop := ∀ (i : Nat) (r : Addr) (t : Tk), rs[i]? = some r → ts[i]? = some t → RowAt K C H r t
theorem RowAt.lst {C r a : Addr} {t : Tk} {H : Hp} {ys : List V} {o : HO} (h : RowAt K C H r t) (e : H a = some (.lst ys)) : RowAt K C (upd H a o) r t := by
  obtain ⟨dx, tt, nu, h1, h2, h9⟩ := h
  refine ⟨dx, tt, nu, ?_, fun z => ?_, fun z => sqt_tups (tups_lst e) (h9 z)⟩
  · have n : r ≠ a := ne_of h1 e (by intro z; cases z)
    rw [upd_ne n]
    exact h1
  · obtain ⟨p, t1, x, hx, t2⟩ := h2 z
    exact ⟨p, sqt_tups (tups_lst e) t1, x, hx, sqt_tups (tups_lst e) t2⟩
theorem RowsAt.keep {C : Addr} {rs : List Addr} {ts : List Tk} {H H' : Hp} (h : RowsAt K C H rs ts) (e : Same H H') : RowsAt K C H' rs ts := fun i r t a b => (h i r t a b).keep e
structure ErrT (K : PySem.W.Frag) (mg : Str → Option Value) (D : Addr) (C I : Nat → Addr) : Prop where
  base : BaseT K mg D
  t0 : ClT K mg "BadKind" "BadKind.__init__" iBadKind ["self", "kind"] ["kind"] (C 0) (I 0)
  t1 : ClT K mg "BadWidth" "BadWidth.__init__" iBadWidth ["self", "width"] ["width"] (C 1) (I 1)
  t2 : ClT K mg "BadLine" "BadLine.__init__" iBadLine ["self", "line"] ["line"] (C 2) (I 2)
  t3 : ClT K mg "Refused" "Refused.__init__" iRefused ["self", "line"] ["line"] (C 3) (I 3)
  t4 : ClT K mg "TooMany" "TooMany.__init__" iTooMany ["self", "what", "many", "most"] ["what", "many", "most"] (C 4) (I 4)
abbrev psLW : List Str := ["lines", "width"]
def spRows (K : PySem.W.Frag) (C CB : Addr) : Sp := fun vs H Q E => ∃ (l : Addr) (z : V) (xs : List Str), vs = [.ref l, z] ∧ SqL K H l (xs.map V.str) ∧ xs.length ≤ 1000 ∧
  ((∃ ts : List Tk, xs = ts.map Tk.line ∧ run .no ts = some .no ∧ ∀ H' r rs, Same H H' → H' r = some (.lst (rs.map V.ref)) → rs.length = ts.length → RowsAt K C H' rs ts → Q (.ref r) H') ∨
  (∃ ys : List Str, xs = ("Tell" : Str) :: ys ∧ ∀ H', Same H H' → err1 CB "line" (.int 1) H' E))
theorem ok_read_rows {f g1 g2 C fI tt DB : Addr} {EC EI : Nat → Addr} (T : FT K mg "read_rows" s_read_rows psLW f) {d1 d2 : FuncData} (ET : ErrT K mg DB EC EI) (R : RowT K mg C fI tt) (enu : mg "enumerate" = none)
    (F1 : Fun K "read_row" "read_row" s_read_row g1 d1) (b1 : Binds K d1 psRR []) (m1 : mg "read_row" = some (.ref g1)) (G1 : FnOk P w K mg base CX0 5 g1 d1 psRR (spReadRow K C))
    (F2 : Fun K "blocks_behind" "blocks_behind" s_blocks_behind g2 d2) (b2 : Binds K d2 ["word", "opened"] []) (m2 : mg "blocks_behind" = some (.ref g2)) (G2 : FnOk P w K mg base CX0 1 g2 d2 ["word", "opened"] spBlocks) :
    ∃ fd, Fun K "read_rows" "read_rows" s_read_rows f fd ∧ Binds K fd psLW [] ∧ FnOk P w K mg base (L2.CX P w) 6 f fd psLW (spRows K C (EC 2)) := by
  obtain ⟨fd, F, b⟩ := T.fn
  refine ⟨fd, F, b, F.okX c_read_rows (fun vs H Q E h => ?_) (fun cdv A outer s H vs Q E hr h => ?_)⟩
  · obtain ⟨l, z, xs, rfl, _⟩ := h
    rfl
  obtain ⟨l, z, xs, rfl, hl, hn, q⟩ := h
  have tk : Takes (cxOf (L2.CX P w) P w K mg base n_read_rows "read_rows" (defScope s_read_rows) f cdv A outer s H E) (fun cls d _ G => E cls d G) := takes_of rfl rfl rfl rfl
  refine ⟨_, pss_cons (ps_set (i := 2) c_read_rows.nd rfl (Or.inl rfl) (pe_lst pa_nil)) (pss_cons (ps_set (i := 3) c_read_rows.nd rfl (Or.inl rfl) (pe_lst pa_nil))
    (pss_cons (ps_for (passes_of rfl) rfl (Nd.pi_from enu (by decide) (by decide) (pa_cons (pv 0) pa_nil)) (pg_tup rfl (pgs_cons (pg_name (i := 4) c_read_rows.nd rfl (Or.inl rfl)) (pgs_cons (pg_name (i := 5) c_read_rows.nd rfl (Or.inl rfl)) pgs_nil)))
      (pss_cons (ps_set (i := 6) c_read_rows.nd rfl (Or.inl rfl) (pe_call G1 hr rfl m1 F1.kp b1 .nil pass0 (pa_cons (pv 5) (pa_cons (pv 3) (pa_cons (pv 1) pa_nil)))))
      (pss_cons (ps_if (pt_cmp (pc_isN (pv 6))) (pss_one (ps_rz rfl tk ET.t2 (fun fd F => okBadLine F ET.base) (hr.mono (by decide)) (pa_cons (pv 4) pa_nil))) pss_nil)
      (pss_cons (ps_expr (pe_bm PySem.F.plainAttrs_list PySem.F.slot_list_append PySem.F.type_list_append mt_append (pv 2) (pa_cons (pv 6) pa_nil)))
      (pss_one (ps_set (i := 3) c_read_rows.nd rfl (Or.inl rfl) (pe_call G2 (hr.mono (by decide)) rfl m2 F2.kp b2 .nil pass0 (pa_cons (pe_fld (pv 6) rfl) (pa_cons (pv 3) pa_nil)))))))))
    (pss_cons (ps_if (pt_truth (pv 3) (by intro _; rfl)) (pss_one ps_never) pss_nil)
    (pss_one (ps_ret (pv 2)))))), ?_⟩
  refine ⟨Nat.zero_le _, fun lr nr => ⟨Nat.zero_le _, fun lo no => ?_⟩⟩
  obtain ⟨no1, nlr⟩ := free_upd no
  refine ⟨_, rfl, l, _, rfl, sqt_list_same hl (same_new (new_same nr) no), ?_⟩
  rcases q with ⟨ts, rfl, hrun, q⟩ | ⟨ys, rfl, q⟩
  · have hts : ts.length ≤ 1000 := by rw [List.length_map] at hn; exact hn
    refine for_from (K := K) (a := l) (xs := (ts.map Tk.line).map V.str) (fun i σ G => ∃ (lo : Addr) (o : On) (rs : List Addr) (v4 v5 v6 : Option V), σ = [some (.ref l), some z, some (.ref lr), some (.ref lo), v4, v5, v6] ∧ Same H G ∧ G lr = some (.lst (rs.map V.ref)) ∧ G lo = some (.lst o.vs) ∧ lo ≠ lr ∧ rs.length = i ∧ RowsAt K C G rs ts ∧ run o (ts.drop i) = some .no)
      ⟨lo, .no, [], none, none, none, rfl, same_new (new_same nr) no, (new_same no) _ _ upd_same, upd_same, nlr, rfl, (fun i r t h => by cases h), hrun⟩ ?_ ?_ ?_
    · rintro i σ G _ ⟨lo, o, rs, v4, v5, v6, rfl, sG, _⟩
      exact sqt_list_same hl sG
    · rintro i x σ G Tp hi ⟨lo, o, rs, v4, v5, v6, rfl, sG, elr, elo, nlo, hrs, hrow, hrun⟩ nT
      rw [List.getElem?_map, List.getElem?_map] at hi
      cases hti : ts[i]? with
      | none => rw [hti] at hi; cases hi
      | some t =>
        rw [hti] at hi
        cases hi
        have hd : ts.drop i = t :: ts.drop (i + 1) := by
          obtain ⟨hlt, he⟩ := List.getElem?_eq_some_iff.mp hti
          rw [List.drop_eq_getElem_cons hlt, he]
        rw [hd] at hrun
        obtain ⟨o', hst, hrun'⟩ := Option.bind_eq_some_iff.mp hrun
        have sT := new_same (o := .tup [.int (1 + (i : Int)), .str t.line]) nT
        refine ⟨Tp, _, rfl, SqT.of upd_same, rfl, _, _, rfl, _, _, rfl, rfl, ?_⟩
        refine ⟨_, rfl, _, rfl, _, rfl, t.line, lo, z, o, rfl, SqL.of (sT _ _ elo), .inl ⟨t, o', hst, rfl, fun G2 r s2 nr2 hr2 => ?_⟩⟩
        have sG2 := sT.trans s2
        refine ⟨_, rfl, _, rfl, iteF ?_⟩
        refine ⟨_, rfl, .inl ⟨rfl, _, SqL.of (sG2 _ _ elr)⟩, _, rfl, lr, _, _, rfl, rfl, sG2 _ _ elr, (by rw [List.length_map, hrs]; exact Nat.lt_of_lt_of_le (Nat.lt_of_lt_of_le (List.getElem?_eq_some_iff.mp hti).1 hts) (by decide)), ?_⟩
        have elr2 := sG2 _ _ elr
        obtain ⟨dx, tt', nu, er, ht, _⟩ := hr2.lst (o := .lst (rs.map V.ref ++ [.ref r])) elr2
        refine ⟨_, rfl, r, C, dx, _, _, rfl, er, R.cl, R.nw, rfl, _, rfl, lo, o, o', t, rfl, (by rw [upd_ne nlo]; exact sG2 _ _ elo), hst, fun G3 lo' s3 hlo' elo' => ?_⟩
        have h3 : RowsAt K C G3 (rs ++ [r]) ts := fun j a u ha hu => by
          rcases Nat.lt_or_ge j rs.length with lt | ge
          · rw [List.getElem?_append_left lt] at ha
            exact (((hrow j a u ha hu).keep sG2).lst elr2).keep s3
          · rw [List.getElem?_append_right ge] at ha
            have ej : j - rs.length = 0 := by
              have := (List.getElem?_eq_some_iff.mp ha).1
              simp at this
              omega
            rw [ej] at ha
            cases ha
            have e2 : j = i := by omega
            rw [e2, hti] at hu
            cases hu
            exact (hr2.lst elr2).keep s3
        refine ⟨lo', o', rs ++ [r], _, _, _, rfl, ?_, ?_, elo', ?_, by rw [List.length_append, hrs]; rfl, h3, hrun'⟩
        · exact (same_out (sG.trans sG2) nr).trans s3
        · have := s3 lr _ upd_same
          rw [this, List.map_append]
          rfl
        · rcases hlo' with e | e
          · rw [e]; exact nlo
          · intro z
            rw [z, upd_same] at e
            cases e
    · rintro σ G ⟨lo, o, rs, v4, v5, v6, rfl, sG, elr, elo, nlo, hrs, hrow, hrun⟩
      have ho : o = .no := by
        rw [List.length_map, List.length_map, List.drop_length] at hrun
        exact Option.some.inj hrun
      subst ho
      refine ⟨_, rfl, false, .inl ⟨_, SqL.of elo, rfl⟩, iteF ?_⟩
      exact ⟨_, rfl, q G lr rs sG elr (by rw [hrs, List.length_map, List.length_map]) hrow⟩
  · refine for_from (K := K) (a := l) (xs := (("Tell" : Str) :: ys).map V.str) (fun i σ G => i = 0 ∧ ∃ v4 v5 v6, σ = [some (.ref l), some z, some (.ref lr), some (.ref lo), v4, v5, v6] ∧ G = upd (upd H lr (.lst [])) lo (.lst [])) ⟨rfl, none, none, none, rfl, rfl⟩ ?_ ?_ ?_
    · rintro i σ G _ ⟨_, v4, v5, v6, rfl, rfl⟩
      exact sqt_list_same hl (same_new (new_same nr) no)
    · rintro i x σ G Tp hi ⟨rfl, v4, v5, v6, rfl, rfl⟩ nT
      cases hi
      have s0 : Same H (upd (upd (upd H lr (.lst [])) lo (.lst [])) Tp (.tup [.int (1 + ((0 : Nat) : Int)), .str "Tell"])) := same_new (same_new (new_same nr) no) nT
      obtain ⟨nT1, nTlo⟩ := free_upd nT
      refine ⟨Tp, _, rfl, SqT.of upd_same, rfl, _, _, rfl, _, _, rfl, rfl, ?_⟩
      refine ⟨_, rfl, _, rfl, _, rfl, "Tell", lo, z, .no, rfl, SqL.of ((new_same nT) _ _ upd_same), .inr ⟨rfl, fun G2 s2 => ?_⟩⟩
      refine ⟨_, rfl, _, rfl, iteT ?_⟩
      exact rd1 (W := fun cls d _ G => E cls d G) ET.t2.ex.oex (ET.t2.nf _ List.mem_cons_self) rfl (q _ (s0.trans s2))
    · rintro σ G ⟨h, _⟩
      cases h
end
end H2
namespace H2
open PySem PySem.Spec PyProof.Rows L2 Hx Nd Dun
section
variable {P : Program} {w : World} {K : PySem.W.Frag} {mg : Str → Option Value} {base : Heap} {D : Addr}
/-! ### ways -/
def key0 : NestedKey := .tup [.tup [], .num 0, .num 0, .tup []]
abbrev Wy (K : PySem.W.Frag) (H : Hp) (v : V) : Prop := NV K H v key0
theorem wy_inv {H : Hp} {v : V} (h : Wy K H v) : ∃ a b c, v = .ref a ∧ SqT K H a [.ref b, .int 0, .int 0, .ref c] ∧ SqT K H b [] ∧ SqT K H c [] := by
  cases h with
  | @tup a xs _ h1 h2 =>
    cases h2 with
    | cons x1 h2 =>
      cases h2 with
      | cons x2 h2 =>
        cases h2 with
        | cons x3 h2 =>
          cases h2 with
          | cons x4 h2 =>
            cases h2
            cases x2
            cases x3
            cases x1 with
            | @tup b ys _ y1 y2 =>
              cases y2
              cases x4 with
              | @tup c zs _ z1 z2 =>
                cases z2
                exact ⟨a, b, c, rfl, h1, y1, z1⟩
theorem wy_mk {H : Hp} {a b c : Addr} (h : SqT K H a [.ref b, .int 0, .int 0, .ref c]) (hb : SqT K H b []) (hc : SqT K H c []) : Wy K H (.ref a) :=
  .tup h (.cons (.tup hb .nil) (.cons (.int 0) (.cons (.int 0) (.cons (.tup hc .nil) .nil))))
theorem key0_deep : key0.depth ≤ 8 := by decide +kernel
def aheadV : List V := [.str "tell", .str "grab last", .str "grab given", .str "longer", .str "trade"]
def onceV : List V := [.str "longer", .str "shorter", .str "trade"]
def spKeeps (K : PySem.W.Frag) : Sp := fun vs H Q _ => ∃ (v : V) (x : Str), vs = [v, .str x] ∧ Wy K H v ∧ x ∈ freeW ∧ ∀ H', Same H H' → Q (.bl true) H'
theorem free_cases {x : Str} (h : x ∈ freeW) : x = "tell" ∨ x = "grab" ∨ x = "note" ∨ x = "quit" := by
  unfold freeW at h
  simpa using h
theorem ok_keeps {f aA : Addr} (T : FT K mg "keeps_order" s_keeps_order ["way", "word"] f) (cA : TupT K mg "AHEAD_OF_LOOPS" aA aheadV) : ∃ fd, Fun K "keeps_order" "keeps_order" s_keeps_order f fd ∧ Binds K fd ["way", "word"] [] ∧ FnOk P w K mg base CX0 1 f fd ["way", "word"] (spKeeps K) := by
  obtain ⟨fd, F, b⟩ := T.fn
  refine ⟨fd, F, b, F.ok c_keeps_order (fun vs H Q E h => ?_) (fun cdv A outer s H vs Q E hr h => ?_)⟩
  · obtain ⟨v, x, rfl, _⟩ := h
    rfl
  obtain ⟨v, x, rfl, hv, hx, q⟩ := h
  obtain ⟨a, b1, c1, rfl, ha, hb, hc⟩ := wy_inv hv
  refine ⟨_, pss_cons (ps_asg (pv 0) (pg_tup rfl (pgs_cons (pg_name (i := 2) c_keeps_order.nd rfl (Or.inl rfl)) (pgs_cons (pg_name (i := 3) c_keeps_order.nd rfl (Or.inl rfl)) (pgs_cons (pg_name (i := 4) c_keeps_order.nd rfl (Or.inl rfl)) (pgs_cons (pg_name (i := 5) c_keeps_order.nd rfl (Or.inl rfl)) pgs_nil))))))
    (pss_cons (ps_if (PW.pt (pw_and (pt_cmpR op_in_seq (pv 1) (pe_glob (v := .ref aA) rfl cA.g rfl) rfl) (pw_and1 (pt_truth (pv 2) (by intro _; rfl))))) (pss_one ps_never) pss_nil)
    (pss_cons (ps_if (pt_cmpR op_eq (pv 1) pe_str (nomark _)) (pss_one (ps_ret (pe_or (pe_notT (pv 2)) (pe_one pe_no)))) pss_nil)
    (pss_cons (ps_if (pt_cmpR op_eq (pv 1) pe_str (nomark _)) (pss_one ps_never) pss_nil)
    (pss_cons (ps_if (pt_cmpR op_eq (pv 1) pe_str (nomark _)) (pss_one ps_never) pss_nil)
    (pss_cons (ps_if (pt_cmpR op_in_seq (pv 1) (pe_tup (pa_cons pe_str (pa_cons pe_str pa_nil))) rfl) (pss_one ps_never) pss_nil)
    (pss_cons (ps_if (pt_cmpR op_eq (pv 1) pe_str (nomark _)) (pss_one ps_never) pss_nil)
    (pss_one (ps_ret pe_bl)))))))), ?_⟩
  refine ⟨_, rfl, a, _, rfl, ha, rfl, _, _, rfl, _, _, rfl, _, _, rfl, _, _, rfl, rfl, ?_⟩
  have grabT : ∀ n : Nat, True := fun _ => trivial
  rcases free_cases hx with rfl | rfl | rfl | rfl
  · refine ⟨_, rfl, _, _, rfl, .inr (cA.s _), rfl, rfl, _, rfl, iteBT (by decide +kernel) ?_⟩
    refine ⟨_, rfl, false, .inr (.inl ⟨_, hb, rfl⟩), iteF ?_⟩
    refine ⟨_, rfl, rfl, _, rfl, iteBF (by decide +kernel) ?_⟩
    refine ⟨_, rfl, rfl, _, rfl, iteBF (by decide +kernel) ?_⟩
    refine ⟨_, rfl, rfl, _, rfl, iteBF (by decide +kernel) ?_⟩
    refine ⟨_, rfl, (by show 2 ≤ sizeLine; decide), fun u nu => ⟨u, _, rfl, .inr (SqT.of upd_same), rfl, rfl, _, rfl, iteBF (by decide +kernel) ?_⟩⟩
    refine ⟨_, rfl, rfl, _, rfl, iteBF (by decide +kernel) ?_⟩
    exact q _ (new_same nu)
  · refine ⟨_, rfl, _, _, rfl, .inr (cA.s _), rfl, rfl, _, rfl, iteBF (by decide +kernel) ?_⟩
    refine iteF ?_
    refine ⟨_, rfl, rfl, _, rfl, iteBT (by decide +kernel) ?_⟩
    exact ⟨_, rfl, false, .inr (.inl ⟨_, hb, rfl⟩), _, rfl, q H (fun _ _ z => z)⟩
  · refine ⟨_, rfl, _, _, rfl, .inr (cA.s _), rfl, rfl, _, rfl, iteBF (by decide +kernel) ?_⟩
    refine iteF ?_
    refine ⟨_, rfl, rfl, _, rfl, iteBF (by decide +kernel) ?_⟩
    refine ⟨_, rfl, rfl, _, rfl, iteBF (by decide +kernel) ?_⟩
    refine ⟨_, rfl, rfl, _, rfl, iteBF (by decide +kernel) ?_⟩
    refine ⟨_, rfl, (by show 2 ≤ sizeLine; decide), fun u nu => ⟨u, _, rfl, .inr (SqT.of upd_same), rfl, rfl, _, rfl, iteBF (by decide +kernel) ?_⟩⟩
    refine ⟨_, rfl, rfl, _, rfl, iteBF (by decide +kernel) ?_⟩
    exact q _ (new_same nu)
  · refine ⟨_, rfl, _, _, rfl, .inr (cA.s _), rfl, rfl, _, rfl, iteBF (by decide +kernel) ?_⟩
    refine iteF ?_
    refine ⟨_, rfl, rfl, _, rfl, iteBF (by decide +kernel) ?_⟩
    refine ⟨_, rfl, rfl, _, rfl, iteBF (by decide +kernel) ?_⟩
    refine ⟨_, rfl, rfl, _, rfl, iteBF (by decide +kernel) ?_⟩
    refine ⟨_, rfl, (by show 2 ≤ sizeLine; decide), fun u nu => ⟨u, _, rfl, .inr (SqT.of upd_same), rfl, rfl, _, rfl, iteBF (by decide +kernel) ?_⟩⟩
    refine ⟨_, rfl, rfl, _, rfl, iteBF (by decide +kernel) ?_⟩
    exact q _ (new_same nu)
/-! ### way_behind -/
def spBehind (K : PySem.W.Frag) : Sp := fun vs H Q _ => ∃ (v : V) (n : V) (x : Str), vs = [v, n, .str x] ∧ Wy K H v ∧ x ∈ freeW ∧ ∀ H' b, Same H H' → Wy K H' (.ref b) → Q (.ref b) H'
theorem ok_behind {f aO : Addr} (T : FT K mg "way_behind" s_way_behind ["way", "line", "word"] f) (cO : TupT K mg "ONCE" aO onceV) (tup : mg "tuple" = none) : ∃ fd, Fun K "way_behind" "way_behind" s_way_behind f fd ∧ Binds K fd ["way", "line", "word"] [] ∧ FnOk P w K mg base CX0 1 f fd ["way", "line", "word"] (spBehind K) := by
  obtain ⟨fd, F, b⟩ := T.fn
  refine ⟨fd, F, b, F.ok c_way_behind (fun vs H Q E h => ?_) (fun cdv A outer s H vs Q E hr h => ?_)⟩
  · obtain ⟨v, n, x, rfl, _⟩ := h
    rfl
  obtain ⟨v, n, x, rfl, hv, hx, q⟩ := h
  obtain ⟨a, b1, c1, rfl, ha, hb, hc⟩ := wy_inv hv
  refine ⟨_, pss_cons (ps_asg (pv 0) (pg_tup rfl (pgs_cons (pg_name (i := 3) c_way_behind.nd rfl (Or.inl rfl)) (pgs_cons (pg_name (i := 4) c_way_behind.nd rfl (Or.inl rfl)) (pgs_cons (pg_name (i := 5) c_way_behind.nd rfl (Or.inl rfl)) (pgs_cons (pg_name (i := 6) c_way_behind.nd rfl (Or.inr rfl)) pgs_nil))))))
    (pss_cons (ps_if (PW.pt (pw_and (pt_cmpR op_eq (pv 2) pe_str (nomark _)) (pw_and1 pt_no))) (pss_one ps_never) pss_nil)
    (pss_cons (ps_if (PW.pt (pw_and (pt_cmpR op_eq (pv 2) pe_str (nomark _)) (pw_and1 pt_no))) (pss_one ps_never) pss_nil)
    (pss_one (ps_ret (pe_tup (pa_cons (pv 3) (pa_cons (pv 4) (pa_cons (pv 5) (pa_cons (pe_callTy call_tuple_of (by rfl) tup (by decide +kernel) (pa_cons
      (pe_lc (own := [("known", 7)]) (g := gName 7) rfl c_way_behind.nd (pi_tup (pe_glob (v := .ref aO) rfl cO.g rfl)) (blkOk_by (own := [("known", 7)]) (N := n_way_behind) (sc := defScope s_way_behind) (by decide +kernel))
        (fun _ _ _ _ _ => pg_name (i := 7) c_way_behind.nd rfl (Or.inl rfl)) (fun _ _ _ _ _ => pts_one (PW.pt (pw_or (pt_cmpR op_eq (pv 7) (pv 2) (nomark _)) (pw_or1 (pt_cmpR (op_in_seqk (K' := K) rfl) (pv 7) (pv 6) rfl))))) (fun _ _ _ _ _ => pv 7)) pa_nil)) pa_nil))))))))), ?_⟩
  refine ⟨_, rfl, a, _, rfl, ha, rfl, _, _, rfl, _, _, rfl, _, _, rfl, _, _, rfl, rfl, ?_⟩
  have w1 : decide (V.str x = V.str "to start") = false := by rcases free_cases hx with rfl | rfl | rfl | rfl <;> decide +kernel
  have w2 : decide (V.str x = V.str "shorter") = false := by rcases free_cases hx with rfl | rfl | rfl | rfl <;> decide +kernel
  refine ⟨_, rfl, rfl, _, rfl, iteBF w1 (iteF ?_)⟩
  refine ⟨_, rfl, rfl, _, rfl, iteBF w2 (iteF ?_)⟩
  refine ⟨_, rfl, _, rfl, _, rfl, aO, rfl, ⟨_, cO.s _⟩, fun L nL => lc_tup (K := K) (a := aO) (xs := onceV) (fun i G => G = upd H L (.lst [])) rfl (fun i G _ _ => cO.s G) ?_ ?_⟩
  · rintro i v G hi rfl
    have hv : ∃ y, v = .str y ∧ decide (V.str y = V.str x) = false := by
      match i, hi with
      | 0, hi => cases hi; exact ⟨_, rfl, by rcases free_cases hx with rfl | rfl | rfl | rfl <;> decide +kernel⟩
      | 1, hi => cases hi; exact ⟨_, rfl, by rcases free_cases hx with rfl | rfl | rfl | rfl <;> decide +kernel⟩
      | 2, hi => cases hi; exact ⟨_, rfl, by rcases free_cases hx with rfl | rfl | rfl | rfl <;> decide +kernel⟩
      | i + 3, hi => cases hi
    obtain ⟨y, rfl, hy⟩ := hv
    refine ⟨rfl, ?_⟩
    refine ⟨_, rfl, _, rfl, rfl, _, rfl, iteBF hy ?_⟩
    exact ⟨_, rfl, _, rfl, c1, [], rfl, .inr (sqt_same (new_same nL) hc), rfl, rfl, _, rfl, iteBF rfl rfl⟩
  · rintro G rfl
    refine ⟨L, _, rfl, .inl ⟨SqL.of upd_same, fun t nt => ?_⟩⟩
    have st := same_new (new_same (o := .lst []) nL) (o := .tup []) nt
    refine ⟨(by show 4 ≤ sizeLine; decide), fun p np => ?_⟩
    have sp := same_new (o := .tup [.ref b1, .int 0, .int 0, .ref t]) st np
    exact q _ p sp (wy_mk (SqT.of upd_same) (sqt_same sp hb) (SqT.of ((new_same np) _ _ upd_same)))
end
end H2
namespace H2
open PySem PySem.Spec PyProof.Rows L2 Hx Nd Dun
section
variable {P : Program} {w : World} {K : PySem.W.Frag} {mg : Str → Option Value} {base : Heap} {D : Addr}
/-! ### Walk -/
structure WalkT (K : PySem.W.Frag) (mg : Str → Option Value) (C : Addr) (m : Nat → Addr) : Prop where
  g : mg "Walk" = some (.ref C)
  mak : Mk K C (m 0)
  cl : Cls K C
  nk : NoAttr K C "kind"
  nb : NoAttr K C "broken"
  nw : NoAttr K C "ways"
  nf : NoAttr K C "forks"
  nt : NoAttr K C "turning"
  f0 : ∃ fd, Fun K "__init__" "Walk.__init__" s_Walk_init (m 0) fd ∧ Binds K fd ["self", "kind"] []
  f1 : MT K C "step" "Walk.step" s_Walk_step ["self", "line", "row"] (m 1)
  f4 : MT K C "fork" "Walk.fork" s_Walk_fork ["self", "line", "row"] (m 4)
  f5 : MT K C "pass_line" "Walk.pass_line" s_Walk_pass_line ["self", "line", "word"] (m 5)
  f6 : MT K C "end_ways" "Walk.end_ways" s_Walk_end_ways ["self"] (m 6)
def walkF (kd : V) (br wy fo : Addr) : List (Str × V) := [("kind", kd), ("broken", .ref br), ("ways", .ref wy), ("forks", .ref fo), ("turning", .bl false)]
/-- a list of at most one way, all alike -/
def WL (K : PySem.W.Frag) (H : Hp) (n : Nat) (l : Addr) : Prop := ∃ xs, H l = some (.lst xs) ∧ xs.length ≤ n ∧ ∀ v ∈ xs, Wy K H v
theorem WL.keep {H H' : Hp} {n : Nat} {l : Addr} (h : WL K H n l) (e : H' l = H l) (t : Tups H H') : WL K H' n l := by
  obtain ⟨xs, h1, h2, h3⟩ := h
  exact ⟨xs, by rw [e]; exact h1, h2, fun v hv => NV.keep t _ _ (h3 v hv)⟩
def FkAt (K : PySem.W.Frag) (H : Hp) (fo : Addr) (fs : List V) : On → Prop
  | .no => fs = []
  | _ => ∃ T l1 l2, fs = [.ref T] ∧ SqT K H T [.ref l1, .ref l2] ∧ WL K H 1 l1 ∧ WL K H 1 l2 ∧ l1 ≠ fo ∧ l2 ≠ fo
/-- the walk at wk, with open blocks o -/
structure WS (P : Program) (w : World) (K : PySem.W.Frag) (C : Addr) (H : Hp) (wk br fo : Addr) (kd : V) (o : On) : Prop where
  ex : ∃ (dx wy : Addr) (ks : Ks) (fs : List V), H wk = some (.ins C dx (walkF kd br wy fo)) ∧ H br = some (.lst []) ∧ ND P w K H wy ks ∧ (∀ p ∈ ks, p.1 = key0) ∧ ks.length ≤ 1 ∧ H fo = some (.lst fs) ∧ FkAt K H fo fs o
  ne : fo ≠ br
/-- all but two as it was -/
def Bt (a b : Addr) (H H' : Hp) : Prop := ∀ c u, c ≠ a → c ≠ b → H c = some u → H' c = some u
theorem Bt.of {a b : Addr} {H H' : Hp} (e : Same H H') : Bt a b H H' := fun c u _ _ h => e c u h
theorem Bt.trans {a b : Addr} {H H1 H2 : Hp} (x : Bt a b H H1) (y : Bt a b H1 H2) : Bt a b H H2 := fun c u n1 n2 h => y c u n1 n2 (x c u n1 n2 h)
theorem Bt.l {a b : Addr} {H : Hp} {o : HO} : Bt a b H (upd H a o) := fun c u n _ h => by rw [upd_ne n]; exact h
theorem Bt.r {a b : Addr} {H : Hp} {o : HO} : Bt a b H (upd H b o) := fun c u _ n h => by rw [upd_ne n]; exact h
theorem putN_key {ks : Ks} {b : Addr} (h : ∀ p ∈ ks, p.1 = key0) (hl : ks.length ≤ 1) : (∀ p ∈ putN ks key0 b, p.1 = key0) ∧ (putN ks key0 b).length ≤ 1 := by
  match ks, h, hl with
  | [], _, _ => exact ⟨fun p hp => by simp [putN] at hp; rw [hp], by simp [putN]⟩
  | [q], h, _ =>
    have hq := h q List.mem_cons_self
    have e : putN [q] key0 b = [q] := by simp [putN, hq]
    rw [e]
    exact ⟨h, by simp⟩
/-- list(self.ways) holds ways -/
theorem ways_wl {P : Program} {w : World} {K : PySem.W.Frag} {H : Hp} {wy l : Addr} {ks : Ks} (N : ND P w K H wy ks) (h0 : ∀ p ∈ ks, p.1 = key0) (h1 : ks.length ≤ 1) (nl : H l = none) : WL K (upd H l (.lst (ks.map fun p => V.ref p.2))) 1 l := by
  refine ⟨_, upd_same, by rw [List.length_map]; exact h1, fun v hv => ?_⟩
  obtain ⟨p, hp, rfl⟩ := List.mem_map.mp hv
  have z := (N.nv p hp).1
  rw [h0 p hp] at z
  exact NV.keep (Tups.of (new_same nl)) _ _ z
theorem nd_move {P : Program} {w : World} {K : PySem.W.Frag} {H H' : Hp} {a : Addr} {ks : Ks} (N : ND P w K H a ks) (e : H' a = H a) (t : Tups H H') : ND P w K H' a ks :=
  ⟨by rw [e]; exact N.at_, N.sm, N.ln, fun p hp => ⟨NV.keep t _ _ (N.nv p hp).1, (N.nv p hp).2⟩⟩
theorem tups_new {H : Hp} {a : Addr} {o : HO} (h : H a = none) : Tups H (upd H a o) := Tups.of (new_same h)
/-! #### __init__ -/
def spWalk (P : Program) (w : World) (K : PySem.W.Frag) (C : Addr) : Sp := fun vs H Q _ => ∃ (p dx : Addr) (kd : V), vs = [.ref p, kd] ∧ H p = some (.ins C dx []) ∧ ∀ H' br fo, But p H H' → H br = none → H fo = none → WS P w K C H' p br fo kd .no → Q .non H'
structure FreshT (K : PySem.W.Frag) (mg : Str → Option Value) (a : Addr) : Prop where
  g : mg "FRESH" = some (.ref a)
  w : ∀ H, Wy K H (.ref a)
theorem ok_Walk {C aF : Addr} {m : Nat → Addr} (T : WalkT K mg C m) (cF : FreshT K mg aF) {fd : FuncData} (F : Fun K "__init__" "Walk.__init__" s_Walk_init (m 0) fd) : FnOk P w K mg base CX0 1 (m 0) fd ["self", "kind"] (spWalk P w K C) := by
  refine F.ok c_Walk_init (fun vs H Q E h => ?_) (fun cdv A outer s H vs Q E hr h => ?_)
  · obtain ⟨p, dx, kd, rfl, _⟩ := h
    rfl
  obtain ⟨p, dx, kd, rfl, hp, q⟩ := h
  refine ⟨_, pss_cons (ps_fld (pv 0) (pv 1) rfl) (pss_cons (ps_fld (pv 0) (pe_lst pa_nil) rfl) (pss_cons (ps_fld (pv 0) (pe_ndone hr.units (pe_glob (v := .ref aF) rfl cF.g rfl) pe_bl) rfl) (pss_cons (ps_fld (pv 0) (pe_lst pa_nil) rfl) (pss_one (ps_fld (pv 0) pe_bl rfl))))), ?_⟩
  refine ⟨_, rfl, _, rfl, p, C, dx, _, rfl, hp, T.cl, T.nk, (by show 0 < 1000; decide), ?_⟩
  refine ⟨Nat.zero_le _, fun br nbr => ?_⟩
  obtain ⟨nbr1, nbrp⟩ := free_upd nbr
  refine ⟨_, rfl, p, C, dx, _, rfl, (new_same nbr) _ _ upd_same, T.cl, T.nb, (by show 1 < 1000; decide), ?_⟩
  refine fun wy nwy sm => ?_
  obtain ⟨nwy1, nwyp⟩ := free_upd nwy
  obtain ⟨nwy2, nwybr⟩ := free_upd nwy1
  refine ⟨aF, key0, rfl, rfl, cF.w _, key0_deep, upd_same, ?_⟩
  rw [upd_upd]
  refine ⟨_, rfl, p, C, dx, _, rfl, (new_same nwy) _ _ upd_same, T.cl, T.nw, (by show 2 < 1000; decide), ?_⟩
  refine ⟨Nat.zero_le _, fun fo nfo => ?_⟩
  obtain ⟨nfo1, nfop⟩ := free_upd nfo
  obtain ⟨nfo2, nfowy⟩ := free_upd nfo1
  obtain ⟨nfo3, _⟩ := free_upd nfo2
  obtain ⟨nfo4, nfobr⟩ := free_upd nfo3
  obtain ⟨nfo5, _⟩ := free_upd nfo4
  refine ⟨_, rfl, p, C, dx, _, rfl, (new_same nfo) _ _ upd_same, T.cl, T.nf, (by show 3 < 1000; decide), ?_⟩
  refine ⟨_, rfl, p, C, dx, _, rfl, upd_same, T.cl, T.nt, (by show 4 < 1000; decide), ?_⟩
  rw [upd_upd]
  obtain ⟨nbr2, _⟩ := free_upd nbr
  refine q _ br fo (fun c u n h => ?_) nbr2 nfo5 ⟨⟨dx, wy, [(key0, aF)], [], upd_same, ?_, ⟨?_, sm, (by show 1 ≤ 1000; decide), fun p hp => ?_⟩, fun p hp => ?_, (by show 1 ≤ 1; decide), ?_, rfl⟩, nfobr⟩
  · have c1 : c ≠ br := ne_of_none h nbr2
    have c2 : c ≠ fo := ne_of_none h nfo5
    have c3 : c ≠ wy := fun e => by
      rw [e] at h
      have := free_upd nwy2
      rw [this.1] at h
      cases h
    rw [upd_ne n, upd_ne c2, upd_ne n, upd_ne c3, upd_ne n, upd_ne c1, upd_ne n]
    exact h
  · rw [upd_ne nbrp, upd_ne nfobr.symm, upd_ne nbrp, upd_ne nwybr.symm, upd_ne nbrp, upd_same]
  · rw [upd_ne nwyp, upd_ne nfowy.symm, upd_ne nwyp, upd_same]
    rfl
  · simp at hp
    rw [hp]
    exact ⟨cF.w _, key0_deep⟩
  · simp at hp
    rw [hp]
  · rw [upd_ne nfop, upd_same]
end
end H2
namespace H2
open PySem PySem.Spec PyProof.Rows L2 Hx Nd Dun
section
variable {P : Program} {w : World} {K : PySem.W.Frag} {mg : Str → Option Value} {base : Heap} {D : Addr}
/-! #### how a walk moves -/
theorem FkAt.move {H H' : Hp} {fo : Addr} {fs : List V} {o : On} (h : FkAt K H fo fs o) (t : Tups H H') (e : ∀ l ys, l ≠ fo → H l = some (.lst ys) → H' l = some (.lst ys)) : FkAt K H' fo fs o := by
  have wl : ∀ l, l ≠ fo → WL K H 1 l → WL K H' 1 l := fun l n z => by
    obtain ⟨xs, h1, h2, h3⟩ := z
    exact ⟨xs, e l xs n h1, h2, fun v hv => NV.keep t _ _ (h3 v hv)⟩
  cases o with
  | no => exact h
  | yes =>
    obtain ⟨T, l1, l2, h1, h2, h3, h4, n1, n2⟩ := h
    exact ⟨T, l1, l2, h1, sqt_tups t h2, wl l1 n1 h3, wl l2 n2 h4, n1, n2⟩
  | els =>
    obtain ⟨T, l1, l2, h1, h2, h3, h4, n1, n2⟩ := h
    exact ⟨T, l1, l2, h1, sqt_tups t h2, wl l1 n1 h3, wl l2 n2 h4, n1, n2⟩
section
variable {C wk br fo : Addr} {kd : V} {o : On} {H H' : Hp}
theorem WS.keep (h : WS P w K C H wk br fo kd o) (e : Same H H') : WS P w K C H' wk br fo kd o := by
  obtain ⟨⟨dx, wy, ks, fs, h1, h2, h3, h4, h5, h6, h7⟩, n⟩ := h
  exact ⟨⟨dx, wy, ks, fs, e _ _ h1, e _ _ h2, h3.keep e, h4, h5, e _ _ h6, h7.move (Tups.of e) (fun l ys _ z => e _ _ z)⟩, n⟩
/-- the ways are new ones -/
theorem WS.ways {dx wy wy' : Addr} {ks' : Ks} {fs : List V} (h1 : H wk = some (.ins C dx (walkF kd br wy fo))) (h2 : H br = some (.lst [])) (h6 : H fo = some (.lst fs)) (h7 : FkAt K H fo fs o) (n : fo ≠ br) (N : ND P w K H wy' ks') (h4 : ∀ p ∈ ks', p.1 = key0) (h5 : ks'.length ≤ 1) :
    WS P w K C (upd H wk (.ins C dx (walkF kd br wy' fo))) wk br fo kd o := by
  have nb : br ≠ wk := ne_of h2 h1 (by intro z; cases z)
  have nf : fo ≠ wk := ne_of h6 h1 (by intro z; cases z)
  have nw : wy' ≠ wk := ne_of N.at_ h1 (by intro z; cases z)
  refine ⟨⟨dx, wy', ks', fs, upd_same, by rw [upd_ne nb]; exact h2, nd_move N (upd_ne nw) (tups_ins h1), h4, h5, by rw [upd_ne nf]; exact h6, h7.move (tups_ins h1) fun l ys _ z => ?_⟩, n⟩
  rw [upd_ne (ne_of z h1 (by intro z; cases z))]
  exact z
end
/-! #### end_ways -/
def spEnd (P : Program) (w : World) (K : PySem.W.Frag) (C : Addr) : Sp := fun vs H Q _ => ∃ (wk br fo : Addr) (kd : V) (o : On), vs = [.ref wk] ∧ WS P w K C H wk br fo kd o ∧ ∀ H', Bt wk fo H H' → WS P w K C H' wk br fo kd o → Q .non H'
theorem ok_end {C : Addr} {m : Nat → Addr} (T : WalkT K mg C m) (lst : mg "list" = none) : ∃ fd, Fun K "end_ways" "Walk.end_ways" s_Walk_end_ways (m 6) fd ∧ Binds K fd ["self"] [] ∧ FnOk P w K mg base CX0 1 (m 6) fd ["self"] (spEnd P w K C) := by
  obtain ⟨fd, F, b⟩ := T.f6.fn
  refine ⟨fd, F, b, F.ok c_Walk_end_ways (fun vs H Q E h => ?_) (fun cdv A outer s H vs Q E hr h => ?_)⟩
  · obtain ⟨wk, br, fo, kd, o, rfl, _⟩ := h
    rfl
  obtain ⟨wk, br, fo, kd, o, rfl, hw, q⟩ := h
  refine ⟨_, pss_cons (ps_for PassesOwn.never rfl (pi_list (pe_callTy (call_listNd rfl) (by rfl) lst (by decide +kernel) (pa_cons (pe_fld (pv 0) rfl) pa_nil)))
      (pg_tup rfl (pgs_cons (pg_name (i := 1) c_Walk_end_ways.nd rfl (Or.inl rfl)) (pgs_cons (pg_name (i := 2) c_Walk_end_ways.nd rfl (Or.inl rfl)) (pgs_cons (pg_name (i := 1) c_Walk_end_ways.nd rfl (Or.inl rfl)) (pgs_cons (pg_name (i := 1) c_Walk_end_ways.nd rfl (Or.inl rfl)) pgs_nil)))))
      (pss_one (ps_if (pt_truth (pv 2) (by intro _; rfl)) (pss_one ps_never) pss_nil)))
    (pss_one (ps_fld (pv 0) Nd.pe_ndnew rfl)), ?_⟩
  obtain ⟨⟨dx, wy, ks, fs, h1, h2, h3, h4, h5, h6, h7⟩, n⟩ := id hw
  refine ⟨_, rfl, wk, C, dx, _, _, rfl, h1, T.cl, T.nw, rfl, wy, ks, rfl, h3, fun l nl => ?_⟩
  have wl := ways_wl h3 h4 h5 nl
  refine ⟨l, rfl, ⟨_, SqL.of upd_same⟩, for_list (K := K) (a := l) (xs := ks.map fun p => V.ref p.2) (fun i σ G => G = upd H l (.lst (ks.map fun p => V.ref p.2)) ∧ ∃ v1 v2, σ = [some (.ref wk), v1, v2]) ⟨rfl, none, none, rfl⟩ ?_ ?_ ?_⟩
  · rintro i σ G _ ⟨rfl, _⟩
    exact SqL.of upd_same
  · rintro i v σ G hi ⟨rfl, v1, v2, rfl⟩
    obtain ⟨xs, e1, e2, e3⟩ := wl
    rw [upd_same] at e1
    have e1' : (ks.map fun p => V.ref p.2) = xs := by injection e1 with e1; injection e1
    have hv := e3 v (by rw [← e1']; exact List.mem_of_getElem? hi)
    obtain ⟨a, b1, c1, rfl, ha, hb, hc⟩ := wy_inv hv
    refine ⟨a, _, rfl, ha, rfl, _, _, rfl, _, _, rfl, _, _, rfl, _, _, rfl, rfl, ?_⟩
    exact ⟨_, rfl, false, rfl, iteF ⟨rfl, _, _, rfl⟩⟩
  · rintro σ G ⟨rfl, v1, v2, rfl⟩
    refine fun d nd sm => ?_
    have s1 := same_new (new_same (o := .lst (ks.map fun p => V.ref p.2)) nl) nd (o := ndO P w d [])
    refine ⟨_, rfl, wk, C, dx, _, rfl, s1 _ _ h1, T.cl, T.nw, (by show 5 < 1000; decide), ?_⟩
    refine q _ ((Bt.of s1).trans Bt.l) ?_
    exact WS.ways (s1 _ _ h1) (s1 _ _ h2) (s1 _ _ h6) (h7.move (Tups.of s1) fun l ys _ z => s1 _ _ z) n (Nd.nd_new (K := K) sm) (fun p hp => by cases hp) (by show 0 ≤ 1; decide)
/-! #### pass_line -/
abbrev psPL : List Str := ["self", "line", "word"]
theorem wl_mem {H : Hp} {l : Addr} {ys : List V} (h : WL K H 1 l) (e : H l = some (.lst ys)) : ys.length ≤ 1 ∧ ∀ v ∈ ys, Wy K H v := by
  obtain ⟨xs, e1, e2, e3⟩ := h
  rw [e] at e1
  have e1' : ys = xs := by injection e1 with e1; injection e1
  rw [e1']
  exact ⟨e2, e3⟩
def spPass (P : Program) (w : World) (K : PySem.W.Frag) (C : Addr) : Sp := fun vs H Q _ => ∃ (wk br fo : Addr) (kd n : V) (x : Str) (o : On), vs = [.ref wk, n, .str x] ∧ x ∈ freeW ∧ WS P w K C H wk br fo kd o ∧ ∀ H', Bt wk fo H H' → WS P w K C H' wk br fo kd o → Q .non H'
theorem ok_pass {C g1 g2 g3 : Addr} {m : Nat → Addr} (T : WalkT K mg C m) (lst : mg "list" = none) {d1 d2 d3 : FuncData}
    (F1 : Fun K "allows" "allows" s_allows g1 d1) (b1 : Binds K d1 ["kind", "word"] []) (m1 : mg "allows" = some (.ref g1)) (G1 : FnOk P w K mg base CX0 1 g1 d1 ["kind", "word"] spAllows)
    (F2 : Fun K "keeps_order" "keeps_order" s_keeps_order g2 d2) (b2 : Binds K d2 ["way", "word"] []) (m2 : mg "keeps_order_limits" = some (.ref g2)) (G2 : FnOk P w K mg base CX0 1 g2 d2 ["way", "word"] (spKeeps K))
    (F3 : Fun K "way_behind" "way_behind" s_way_behind g3 d3) (b3 : Binds K d3 ["way", "line", "word"] []) (m3 : mg "way_behind" = some (.ref g3)) (G3 : FnOk P w K mg base CX0 1 g3 d3 ["way", "line", "word"] (spBehind K)) :
    ∃ fd, Fun K "pass_line" "Walk.pass_line" s_Walk_pass_line (m 5) fd ∧ Binds K fd psPL [] ∧ FnOk P w K mg base CX0 2 (m 5) fd psPL (spPass P w K C) := by
  obtain ⟨fd, F, b⟩ := T.f5.fn
  obtain ⟨d6, F6, b6, G6⟩ := ok_end (P := P) (w := w) (base := base) T lst
  refine ⟨fd, F, b, F.ok c_Walk_pass_line (fun vs H Q E h => ?_) (fun cdv A outer s H vs Q E hr h => ?_)⟩
  · obtain ⟨wk, br, fo, kd, n, x, o, rfl, _⟩ := h
    rfl
  obtain ⟨wk, br, fo, kd, n, x, o, rfl, hx, hw, q⟩ := h
  refine ⟨_, pss_cons (ps_for PassesOwn.never rfl (pi_list (pe_callTy (call_listNd rfl) (by rfl) lst (by decide +kernel) (pa_cons (pe_fld (pv 0) rfl) pa_nil))) (pg_name (i := 3) c_Walk_pass_line.nd rfl (Or.inl rfl))
      (pss_one (ps_if (PW.pt (pw_or (pt_not (pt_val (pe_call G1 hr rfl m1 F1.kp b1 .nil pass0 (pa_cons (pe_fld (pv 0) rfl) (pa_cons (pv 2) pa_nil))))) (pw_or1 (pt_not (pt_val (pe_call G2 hr rfl m2 F2.kp b2 .nil pass0 (pa_cons (pv 3) (pa_cons (pv 2) pa_nil)))))))) (pss_one ps_never) pss_nil)))
    (Evl.pss_cut (ps_if (pt_cmpR op_eq (pv 2) pe_str (nomark _)) (pss_one (ps_expr (pe_meth0 (pv 0) T.cl T.f6.m G6 hr b6 .nil pass0))) pss_nil)
    (pss_one (ps_fld (pv 0) (Nd.pe_ndc (own := [("way", 3)]) (g := gName 3) (tt := tYes) rfl c_Walk_pass_line.nd hr.units (pi_list (pe_callTy (call_listNd rfl) (by rfl) lst (by decide +kernel) (pa_cons (pe_fld (pv 0) rfl) pa_nil))) (blkOk_by (own := [("way", 3)]) (N := n_Walk_pass_line) (sc := defScope s_Walk_pass_line) (by decide +kernel))
      (fun _ _ _ _ _ => pg_name (i := 3) c_Walk_pass_line.nd rfl (Or.inl rfl)) (fun _ _ _ _ _ => pts_nil) (fun _ _ _ _ _ => pe_call G3 hr rfl m3 F3.kp b3 .nil pass0 (pa_cons (pv 3) (pa_cons (pv 1) (pa_cons (pv 2) pa_nil)))) (fun _ _ _ _ _ => pe_bl)) rfl))), ?_⟩
  obtain ⟨⟨dx, wy, ks, fs, h1, h2, h3, h4, h5, h6, h7⟩, ne⟩ := id hw
  refine ⟨_, rfl, wk, C, dx, _, _, rfl, h1, T.cl, T.nw, rfl, wy, ks, rfl, h3, fun l nl => ?_⟩
  have wl := ways_wl h3 h4 h5 nl
  have sl := new_same (o := .lst (ks.map fun p => V.ref p.2)) nl
  refine ⟨l, rfl, ⟨_, SqL.of upd_same⟩, for_list (K := K) (a := l) (xs := ks.map fun p => V.ref p.2) (fun i σ G => Same (upd H l (.lst (ks.map fun p => V.ref p.2))) G ∧ ∃ v3, σ = [some (.ref wk), some n, some (.str x), v3]) ⟨fun _ _ z => z, none, rfl⟩ ?_ ?_ ?_⟩
  · rintro i σ G _ ⟨sG, _⟩
    exact SqL.of (sG _ _ upd_same)
  · rintro i v σ G hi ⟨sG, v3, rfl⟩
    have hv : Wy K G v := NV.keep (Tups.of sG) _ _ ((wl_mem wl upd_same).2 v (List.mem_of_getElem? hi))
    refine ⟨_, rfl, wk, C, dx, _, _, rfl, sG _ _ (sl _ _ h1), T.cl, T.nk, rfl, _, rfl, kd, x, rfl, hx, true, rfl, iteF ?_⟩
    refine ⟨_, rfl, _, rfl, v, x, rfl, hv, hx, fun G2 s2 => ⟨true, rfl, iteF ?_⟩⟩
    exact ⟨sG.trans s2, _, rfl⟩
  · rintro σ G ⟨sG, v3, rfl⟩
    have sHG := sl.trans sG
    refine ⟨fun σ G => ∃ v3, σ = [some (.ref wk), some n, some (.str x), v3] ∧ Bt wk fo H G ∧ WS P w K C G wk br fo kd o, ?_, ?_⟩
    · refine ⟨_, rfl, rfl, _, rfl, ite2 (fun _ => ?_) (fun _ => ?_)⟩
      · refine ⟨_, rfl, wk, dx, _, rfl, sHG _ _ h1, rfl, wk, br, fo, kd, o, rfl, hw.keep sHG, fun G2 b2 w2 => ?_⟩
        exact ⟨_, rfl, (Bt.of sHG).trans b2, w2⟩
      · exact ⟨_, rfl, Bt.of sHG, hw.keep sHG⟩
    · rintro σ G ⟨v3, rfl, bG, wG⟩
      obtain ⟨⟨dx, wy, ks, fs, h1, h2, h3, h4, h5, h6, h7⟩, ne⟩ := id wG
      refine ⟨_, rfl, wk, C, dx, _, _, rfl, h1, T.cl, T.nw, rfl, wy, ks, rfl, h3, fun l nl => ?_⟩
      have wl := ways_wl h3 h4 h5 nl
      have sl := new_same (o := .lst (ks.map fun p => V.ref p.2)) nl
      refine ⟨l, rfl, ⟨_, SqL.of upd_same⟩, fun D nD sm => ndc_list (K := K) (a := l) (xs := ks.map fun p => V.ref p.2) (fun i G2 => Same (upd G l (.lst (ks.map fun p => V.ref p.2))) G2 ∧ ∃ js : Ks, ND P w K G2 D js ∧ (∀ p ∈ js, p.1 = key0) ∧ js.length ≤ 1)
        ⟨new_same nD, [], Nd.nd_new sm, (fun p hp => by cases hp), (by show 0 ≤ 1; decide)⟩ ?_ ?_ ?_⟩
      · rintro i G2 _ ⟨s2, _⟩
        exact SqL.of (s2 _ _ upd_same)
      · rintro i v G2 hi ⟨s2, js, N, j0, j1⟩
        have hv : Wy K G2 v := NV.keep (Tups.of s2) _ _ ((wl_mem wl upd_same).2 v (List.mem_of_getElem? hi))
        refine ⟨rfl, ?_⟩
        unfold tYes
        dsimp only
        rw [if_pos rfl]
        refine ⟨_, rfl, _, rfl, _, rfl, v, n, x, rfl, hv, hx, fun G3 b s3 hb => ?_⟩
        have N3 := N.keep s3
        obtain ⟨k1, k2⟩ := putN_key (b := b) j0 j1
        exact ⟨b, js, key0, rfl, rfl, N3, by omega, hb, key0_deep, same_out (s2.trans s3) nD, _, N3.put (by omega) hb key0_deep, k1, k2⟩
      · rintro G2 ⟨s2, js, N, j0, j1⟩
        have sG2 := sl.trans s2
        refine ⟨_, rfl, wk, C, dx, _, rfl, sG2 _ _ h1, T.cl, T.nw, (by show 5 < 1000; decide), ?_⟩
        refine q _ (bG.trans ((Bt.of sG2).trans Bt.l)) ?_
        exact WS.ways (sG2 _ _ h1) (sG2 _ _ h2) (sG2 _ _ h6) (h7.move (Tups.of sG2) fun l ys _ z => sG2 _ _ z) ne N j0 j1
end
end H2
namespace H2
open PySem PySem.Spec PyProof.Rows L2 Hx Nd Dun
section
variable {P : Program} {w : World} {K : PySem.W.Frag} {mg : Str → Option Value} {base : Heap} {D : Addr}
/-! #### fork -/
theorem ndc_id {G : Hp} {l D : Addr} {xs : List V} {i : Nat} {σ : L2.St} {vs : List Nat} {Qd : Hp → Prop} (e : G l = some (.lst xs)) (hx : ∀ v ∈ xs, Wy K G v) (nD : G D = none) (sm : (D == sysModules) = false)
    (hw : ∀ v : V, wipe ((wipe σ vs).set i (some v)) vs = wipe σ vs) (hg : ∀ v : V, ((wipe σ vs).set i (some v))[i]? = some (some v))
    (hd : ∀ G2 js, Same G G2 → ND P w K G2 D js → (∀ p ∈ js, p.1 = key0) → js.length ≤ 1 → Qd G2) :
    ∃ W : Nat → Nat → Hp → Prop, (∃ m, W 0 m (upd G D (Nd.ndO P w D []))) ∧ ∀ j m G1, W j m G1 →
    ((Itl K l).stop j G1 ∧ Qd G1) ∨ ((Itl K l).go j G1 ∧ ∃ Nx : Hp → Prop, (∀ G2, Nx G2 → ∃ m', m' < m ∧ W (j + 1) m' G2) ∧ ∀ x G2, (Itl K l).yld j G1 x G2 → gName i x (wipe σ vs) G2 fun ρ G3 => wipe ρ vs = wipe σ vs ∧ tYes ρ G3 fun b G4 =>
      if b = true then tVar i ρ G4 fun y G5 => tC (.bl true) ρ G5 fun z G6 => Nd.NdTurn P w K D y z G6 Nx else Nx G4) := by
  refine ndc_list (K := K) (a := l) (xs := xs) (fun i G2 => Same G G2 ∧ ∃ js : Ks, ND P w K G2 D js ∧ (∀ p ∈ js, p.1 = key0) ∧ js.length ≤ 1)
    ⟨new_same nD, [], Nd.nd_new sm, (fun p hp => by cases hp), (by show 0 ≤ 1; decide)⟩ ?_ ?_ ?_
  · rintro j G2 _ ⟨s2, _⟩
    exact SqL.of (s2 _ _ e)
  · rintro j v G2 hi ⟨s2, js, N, j0, j1⟩
    have hv : Wy K G2 v := NV.keep (Tups.of s2) _ _ (hx v (List.mem_of_getElem? hi))
    obtain ⟨b, _, _, rfl, _⟩ := wy_inv hv
    refine ⟨hw _, ?_⟩
    unfold tYes
    dsimp only
    rw [if_pos rfl]
    obtain ⟨k1, k2⟩ := putN_key (b := b) j0 j1
    exact ⟨_, hg _, b, js, key0, rfl, rfl, N, by omega, hv, key0_deep, same_out s2 nD, _, N.put (by omega) hv key0_deep, k1, k2⟩
  · rintro G2 ⟨s2, js, N, j0, j1⟩
    exact hd G2 js s2 N j0 j1
abbrev psFK : List Str := ["self", "line", "row"]
def spFork (P : Program) (w : World) (K : PySem.W.Frag) (C CR : Addr) : Sp := fun vs H Q _ => ∃ (wk br fo r : Addr) (kd n : V) (t : Tk) (o o' : On), vs = [.ref wk, n, .ref r] ∧ RowAt K CR H r t ∧ (t.word = "if" ∧ (t = .ifi ∨ t = .ifb) ∧ o = .no ∧ o' = .yes ∨ t = .els ∧ o = .yes ∧ o' = .els ∨ t = .fin ∧ o ≠ .no ∧ o' = .no) ∧
  WS P w K C H wk br fo kd o ∧ ∀ H', Bt wk fo H H' → WS P w K C H' wk br fo kd o' → Q .non H'
theorem ok_fork {C CR fI tt g : Addr} {m : Nat → Addr} (T : WalkT K mg C m) (R : RowT K mg CR fI tt) (lst : mg "list" = none) {d : FuncData} (F1 : Fun K "names_given" "names_given" s_names_given g d) (b1 : Binds K d ["test"] []) (m1 : mg "names_given" = some (.ref g)) (G1 : FnOk P w K mg base CX0 1 g d ["test"] (spNames K)) :
    ∃ fd, Fun K "fork" "Walk.fork" s_Walk_fork (m 4) fd ∧ Binds K fd psFK [] ∧ FnOk P w K mg base CX0 2 (m 4) fd psFK (spFork P w K C CR) := by
  obtain ⟨fd, F, b⟩ := T.f4.fn
  refine ⟨fd, F, b, F.ok c_Walk_fork (fun vs H Q E h => ?_) (fun cdv A outer s H vs Q E hr h => ?_)⟩
  · obtain ⟨wk, br, fo, r, kd, n, t, o, o', rfl, _⟩ := h
    rfl
  obtain ⟨wk, br, fo, r, kd, n, t, o, o', rfl, hrow, hot, hw, q⟩ := h
  refine ⟨_, pss_one (ps_if (pt_cmpR op_eq (pe_fld (pv 2) rfl) pe_str (nomark _))
    (Evl.pss_cut (ps_if (PW.pt (pw_and (Nd.pt_nd (pe_fld (pv 0) rfl)) (pw_and (pt_val (pe_call G1 hr rfl m1 F1.kp b1 .nil pass0 (pa_cons (pe_fld (pv 2) rfl) pa_nil))) (pw_and1 pt_no)))) (pss_one ps_never) pss_nil)
      (pss_one (ps_expr (pe_bm PySem.F.plainAttrs_list PySem.F.slot_list_append PySem.F.type_list_append mt_append (pe_fld (pv 0) rfl) (pa_cons (pe_tup (pa_cons (pe_callTy (call_listNd rfl) (by rfl) lst (by decide +kernel) (pa_cons (pe_fld (pv 0) rfl) pa_nil)) (pa_cons (pe_lst pa_nil) pa_nil))) pa_nil)))))
    (pss_one (ps_if (pt_cmpR op_eq (pe_fld (pv 2) rfl) pe_str (nomark _))
      (pss_cons (ps_asg (pe_bm0 PySem.F.plainAttrs_list PySem.F.slot_list_pop PySem.F.type_list_pop mt_pop (pe_fld (pv 0) rfl)) (pg_tup rfl (pgs_cons (pg_name (i := 3) c_Walk_fork.nd rfl (Or.inl rfl)) (pgs_cons (pg_name (i := 4) c_Walk_fork.nd rfl (Or.inl rfl)) pgs_nil))))
      (pss_cons (ps_expr (pe_bm PySem.F.plainAttrs_list PySem.F.slot_list_append PySem.F.type_list_append mt_append (pe_fld (pv 0) rfl) (pa_cons (pe_tup (pa_cons (pe_lst pa_nil) (pa_cons (pe_callTy (call_listNd rfl) (by rfl) lst (by decide +kernel) (pa_cons (pe_fld (pv 0) rfl) pa_nil)) pa_nil))) pa_nil)))
      (pss_one (ps_fld (pv 0) (Nd.pe_ndc (own := [("way", 5)]) (g := gName 5) (tt := tYes) rfl c_Walk_fork.nd hr.units (pi_list (pv 3)) (blkOk_by (own := [("way", 5)]) (N := n_Walk_fork) (sc := defScope s_Walk_fork) (by decide +kernel))
        (fun _ _ _ _ _ => pg_name (i := 5) c_Walk_fork.nd rfl (Or.inl rfl)) (fun _ _ _ _ _ => pts_nil) (fun _ _ _ _ _ => pv 5) (fun _ _ _ _ _ => pe_bl)) rfl))))
      (pss_cons (ps_asg (pe_bm0 PySem.F.plainAttrs_list PySem.F.slot_list_pop PySem.F.type_list_pop mt_pop (pe_fld (pv 0) rfl)) (pg_tup rfl (pgs_cons (pg_name (i := 3) c_Walk_fork.nd rfl (Or.inl rfl)) (pgs_cons (pg_name (i := 6) c_Walk_fork.nd rfl (Or.inl rfl)) pgs_nil))))
      (pss_one (ps_fld (pv 0) (Nd.pe_ndc (own := [("way", 5)]) (g := gName 5) (tt := tYes) rfl c_Walk_fork.nd hr.units (pi_list (pe_op op_cat (pe_op op_cat (pe_callTy (call_listNd rfl) (by rfl) lst (by decide +kernel) (pa_cons (pe_fld (pv 0) rfl) pa_nil)) (pv 3)) (pv 6))) (blkOk_by (own := [("way", 5)]) (N := n_Walk_fork) (sc := defScope s_Walk_fork) (by decide +kernel))
        (fun _ _ _ _ _ => pg_name (i := 5) c_Walk_fork.nd rfl (Or.inl rfl)) (fun _ _ _ _ _ => pts_nil) (fun _ _ _ _ _ => pv 5) (fun _ _ _ _ _ => pe_bl)) rfl)))))), ?_⟩
  obtain ⟨⟨dx, wy, ks, fs, h1, h2, h3, h4, h5, h6, h7⟩, ne⟩ := id hw
  obtain ⟨dxr, ttr, nu, er, ht⟩ := hrow
  have nwf : wk ≠ fo := ne_of h1 h6 (by intro z; cases z)
  have nyf : wy ≠ fo := ne_of h3.at_ h6 (by intro z; cases z)
  rcases hot with ⟨hwd, hif, rfl, rfl⟩ | ⟨rfl, rfl, rfl⟩ | ⟨rfl, hno, rfl⟩
  · refine ⟨_, rfl, r, CR, dxr, _, _, rfl, er, R.cl, R.nw, rfl, rfl, _, rfl, iteBT (by rw [hwd]; decide +kernel) ?_⟩
    refine ⟨fun σ G => σ = [some (.ref wk), some n, some (.ref r), none, none, none, none] ∧ Same H G, ?_, ?_⟩
    · refine ⟨_, rfl, wk, C, dx, _, _, rfl, h1, T.cl, T.nw, rfl, wy, ks, rfl, h3, ite2 (fun _ => ?_) (fun _ => ?_)⟩
      · exact ⟨_, rfl, r, CR, dxr, _, _, rfl, er, R.cl, R.nt, rfl, ttr, rfl, ht.1 hif, fun G s => ⟨false, rfl, iteF (iteF ⟨rfl, s⟩)⟩⟩
      · exact iteF ⟨rfl, fun _ _ z => z⟩
    · rintro σ G ⟨rfl, sG⟩
      have hfs : fs = [] := h7
      subst hfs
      refine ⟨_, rfl, wk, C, dx, _, _, rfl, sG _ _ h1, T.cl, T.nf, rfl, .inl ⟨rfl, _, SqL.of (sG _ _ h6)⟩, ?_⟩
      refine ⟨_, rfl, wk, C, dx, _, _, rfl, sG _ _ h1, T.cl, T.nw, rfl, wy, ks, rfl, h3.keep sG, fun l nl => ?_⟩
      have wl := ways_wl (h3.keep sG) h4 h5 nl
      have sl := same_new (o := .lst (ks.map fun p => V.ref p.2)) sG nl
      refine ⟨Nat.zero_le _, fun l2 nl2 => ?_⟩
      obtain ⟨nl2a, nl2l⟩ := free_upd nl2
      have sl2 := same_new (o := .lst []) sl nl2
      refine ⟨(by show 2 ≤ sizeLine; decide), fun T' nT => ?_⟩
      have sT := same_new (o := .tup [.ref l, .ref l2]) sl2 nT
      refine ⟨fo, _, _, rfl, rfl, sT _ _ h6, (by show 0 < sizeLine; decide), ?_⟩
      have nlf : l ≠ fo := fun e => by rw [e, sG _ _ h6] at nl; cases nl
      have nl2f : l2 ≠ fo := fun e => by rw [e, sl _ _ h6] at nl2; cases nl2
      have nTl : T' ≠ l := fun e => by
        rw [e, upd_ne nl2l.symm, upd_same] at nT
        cases nT
      have nTl2 : T' ≠ l2 := fun e => by rw [e, upd_same] at nT; cases nT
      have tf := tups_lst (o := .lst [.ref T']) (sT _ _ h6)
      refine q _ ((Bt.of sT).trans Bt.r) ⟨⟨dx, wy, ks, [.ref T'], ?_, ?_, ?_, h4, h5, upd_same, T', l, l2, rfl, sqt_tups tf (SqT.of upd_same), ?_, ?_, nlf, nl2f⟩, ne⟩
      · rw [upd_ne nwf]; exact sT _ _ h1
      · rw [upd_ne ne.symm]; exact sT _ _ h2
      · exact nd_move (h3.keep sT) (upd_ne nyf) tf
      · exact wl.keep (by rw [upd_ne nlf, upd_ne nTl.symm, upd_ne nl2l.symm]) (((tups_new nl2).trans (tups_new nT)).trans tf)
      · exact ⟨[], by rw [upd_ne nl2f, upd_ne nTl2.symm, upd_same], (by show 0 ≤ 1; decide), fun v hv => by cases hv⟩
  · obtain ⟨T0, l1, l2, rfl, hT0, ⟨xs1, e1, c1, w1⟩, ⟨xs2, e2, c2, w2⟩, n1, n2⟩ := h7
    refine ⟨_, rfl, r, CR, dxr, _, _, rfl, er, R.cl, R.nw, rfl, rfl, _, rfl, iteBF (by decide +kernel) ?_⟩
    refine ⟨_, rfl, r, CR, dxr, _, _, rfl, er, R.cl, R.nw, rfl, rfl, _, rfl, iteBT (by decide +kernel) ?_⟩
    refine ⟨_, rfl, wk, C, dx, _, _, rfl, h1, T.cl, T.nf, rfl, .inl ⟨rfl, _, SqL.of h6⟩, fo, _, .ref T0, rfl, rfl, h6, rfl, ?_⟩
    obtain ⟨H1, hH1⟩ : ∃ H1, H1 = upd H fo (.lst (([.ref T0] : List V).dropLast)) := ⟨_, rfl⟩
    have t1 : Tups H H1 := by rw [hH1]; exact tups_lst h6
    have k1 : ∀ c u, c ≠ fo → H c = some u → H1 c = some u := fun c u n z => by rw [hH1, upd_ne n]; exact z
    have f1 : H1 fo = some (.lst []) := by rw [hH1]; exact upd_same
    have b1' : Bt wk fo H H1 := by rw [hH1]; exact Bt.r
    have ND1 : ND P w K H1 wy ks := nd_move h3 (by rw [hH1]; exact upd_ne nyf) t1
    rw [← hH1]
    clear hH1
    refine ⟨T0, _, rfl, sqt_tups t1 hT0, rfl, _, _, rfl, _, _, rfl, rfl, ?_⟩
    refine ⟨_, rfl, wk, C, dx, _, _, rfl, k1 _ _ nwf h1, T.cl, T.nf, rfl, .inl ⟨rfl, _, SqL.of f1⟩, Nat.zero_le _, fun la nla => ?_⟩
    have sa := new_same (o := .lst []) nla
    refine ⟨_, rfl, wk, C, dx, _, _, rfl, sa _ _ (k1 _ _ nwf h1), T.cl, T.nw, rfl, wy, ks, rfl, ND1.keep sa, fun lb nlb => ?_⟩
    have wlb := ways_wl (ND1.keep sa) h4 h5 nlb
    obtain ⟨nlb1, nlba⟩ := free_upd nlb
    have sb := same_new (o := .lst (ks.map fun p => V.ref p.2)) sa nlb
    refine ⟨(by show 2 ≤ sizeLine; decide), fun T1 nT1 => ?_⟩
    have st := same_new (o := .tup [.ref la, .ref lb]) sb nT1
    refine ⟨fo, _, _, rfl, rfl, st _ _ f1, (by show 0 < sizeLine; decide), ?_⟩
    have nlaf : la ≠ fo := fun e => by rw [e, f1] at nla; cases nla
    have nlbf : lb ≠ fo := fun e => by rw [e, sa _ _ f1] at nlb; cases nlb
    have nT1a : T1 ≠ la := fun e => by
      rw [e, upd_ne nlba.symm, upd_same] at nT1
      cases nT1
    have nT1b : T1 ≠ lb := fun e => by rw [e, upd_same] at nT1; cases nT1
    have t5 := tups_lst (o := .lst [.ref T1]) (st _ _ f1)
    obtain ⟨H5, hH5⟩ : ∃ H5, H5 = upd (upd (upd (upd H1 la (.lst [])) lb (.lst (ks.map fun p => V.ref p.2))) T1 (.tup [.ref la, .ref lb])) fo (.lst [.ref T1]) := ⟨_, rfl⟩
    have k5 : ∀ c u, c ≠ fo → H c = some u → H5 c = some u := fun c u n z => by rw [hH5, upd_ne n]; exact st _ _ (k1 c u n z)
    have tt5 : Tups H H5 := by rw [hH5]; exact (t1.trans (Tups.of st)).trans t5
    have fk5 : FkAt K H5 fo [.ref T1] .els := by
      rw [hH5]
      refine ⟨T1, la, lb, rfl, sqt_tups t5 (SqT.of upd_same), ?_, ?_, nlaf, nlbf⟩
      · exact ⟨[], by rw [upd_ne nlaf, upd_ne nT1a.symm, upd_ne nlba.symm, upd_same], (by show 0 ≤ 1; decide), fun v hv => by cases hv⟩
      · exact wlb.keep (by rw [upd_ne nlbf, upd_ne nT1b.symm]) ((tups_new nT1).trans t5)
    have f5 : H5 fo = some (.lst [.ref T1]) := by rw [hH5]; exact upd_same
    have b5 : Bt wk fo H H5 := by rw [hH5]; exact (b1'.trans (Bt.of st)).trans Bt.r
    subst hH5
    refine ⟨_, rfl, l1, rfl, ⟨xs1, SqL.of (k5 _ _ n1 e1)⟩, ?_⟩
    refine fun D nD sm => ndc_id (i := 5) (k5 _ _ n1 e1) (fun v hv => NV.keep tt5 _ _ (w1 v hv)) nD sm (fun v => rfl) (fun v => rfl) fun G2 js s2 N j0 j1 => ?_
    refine ⟨_, rfl, wk, C, dx, _, rfl, s2 _ _ (k5 _ _ nwf h1), T.cl, T.nw, (by show 5 < 1000; decide), q _ ((b5.trans (Bt.of s2)).trans Bt.l) ?_⟩
    exact WS.ways (s2 _ _ (k5 _ _ nwf h1)) (s2 _ _ (k5 _ _ ne.symm h2)) (s2 _ _ f5) (fk5.move (Tups.of s2) fun l ys _ z => s2 _ _ z) ne N j0 j1
  · obtain ⟨T0, l1, l2, rfl, hT0, ⟨xs1, e1, c1, w1⟩, ⟨xs2, e2, c2, w2⟩, n1, n2⟩ : ∃ T l1 l2, fs = [.ref T] ∧ SqT K H T [.ref l1, .ref l2] ∧ WL K H 1 l1 ∧ WL K H 1 l2 ∧ l1 ≠ fo ∧ l2 ≠ fo := by
      cases o with
      | no => exact absurd rfl hno
      | yes => exact h7
      | els => exact h7
    refine ⟨_, rfl, r, CR, dxr, _, _, rfl, er, R.cl, R.nw, rfl, rfl, _, rfl, iteBF (by decide +kernel) ?_⟩
    refine ⟨_, rfl, r, CR, dxr, _, _, rfl, er, R.cl, R.nw, rfl, rfl, _, rfl, iteBF (by decide +kernel) ?_⟩
    refine ⟨_, rfl, wk, C, dx, _, _, rfl, h1, T.cl, T.nf, rfl, .inl ⟨rfl, _, SqL.of h6⟩, fo, _, .ref T0, rfl, rfl, h6, rfl, ?_⟩
    obtain ⟨H1, hH1⟩ : ∃ H1, H1 = upd H fo (.lst (([.ref T0] : List V).dropLast)) := ⟨_, rfl⟩
    have t1 : Tups H H1 := by rw [hH1]; exact tups_lst h6
    have k1 : ∀ c u, c ≠ fo → H c = some u → H1 c = some u := fun c u n z => by rw [hH1, upd_ne n]; exact z
    have f1 : H1 fo = some (.lst []) := by rw [hH1]; exact upd_same
    have b1' : Bt wk fo H H1 := by rw [hH1]; exact Bt.r
    have ND1 : ND P w K H1 wy ks := nd_move h3 (by rw [hH1]; exact upd_ne nyf) t1
    rw [← hH1]
    clear hH1
    refine ⟨T0, _, rfl, sqt_tups t1 hT0, rfl, _, _, rfl, _, _, rfl, rfl, ?_⟩
    refine ⟨_, rfl, wk, C, dx, _, _, rfl, k1 _ _ nwf h1, T.cl, T.nw, rfl, wy, ks, rfl, ND1, fun l nl => ?_⟩
    have wl := wl_mem (ways_wl ND1 h4 h5 nl) upd_same
    have sl := new_same (o := .lst (ks.map fun p => V.ref p.2)) nl
    have lk : (ks.map fun p => V.ref p.2).length ≤ 1 := wl.1
    refine ⟨_, rfl, l, l1, _, _, rfl, rfl, upd_same, sl _ _ (k1 _ _ n1 e1), Nat.le_trans (Nat.add_le_add lk c1) (by decide), fun p np => ?_⟩
    have sp := same_new (o := .lst ((ks.map fun p => V.ref p.2) ++ xs1)) sl np
    refine ⟨_, rfl, p, l2, _, _, rfl, rfl, upd_same, sp _ _ (k1 _ _ n2 e2), (by rw [List.length_append]; exact Nat.le_trans (Nat.add_le_add (Nat.add_le_add lk c1) c2) (by decide)), fun p2 np2 => ?_⟩
    have sp2 := same_new (o := .lst (((ks.map fun p => V.ref p.2) ++ xs1) ++ xs2)) sp np2
    have tt := (tups_new nl (o := .lst (ks.map fun p => V.ref p.2))).trans ((tups_new np (o := .lst ((ks.map fun p => V.ref p.2) ++ xs1))).trans (tups_new np2 (o := .lst (((ks.map fun p => V.ref p.2) ++ xs1) ++ xs2))))
    refine ⟨p2, rfl, ⟨_, SqL.of upd_same⟩, fun D nD sm => ndc_id (i := 5) upd_same (fun v hv => ?_) nD sm (fun v => rfl) (fun v => rfl) fun G2 js s2 N j0 j1 => ?_⟩
    · rcases List.mem_append.mp hv with hv | hv
      · rcases List.mem_append.mp hv with hv | hv
        · exact NV.keep ((tups_new np).trans (tups_new np2)) _ _ (wl.2 v hv)
        · exact NV.keep (t1.trans tt) _ _ (w1 v hv)
      · exact NV.keep (t1.trans tt) _ _ (w2 v hv)
    · have s12 := sp2.trans s2
      refine ⟨_, rfl, wk, C, dx, _, rfl, s12 _ _ (k1 _ _ nwf h1), T.cl, T.nw, (by show 5 < 1000; decide), q _ ((b1'.trans (Bt.of s12)).trans Bt.l) ?_⟩
      exact WS.ways (s12 _ _ (k1 _ _ nwf h1)) (s12 _ _ (k1 _ _ ne.symm h2)) (s12 _ _ f1) rfl ne N j0 j1
end
end H2
namespace H2
open PySem PySem.Spec PyProof.Rows L2 Hx Nd Dun
section
variable {P : Program} {w : World} {K : PySem.W.Frag} {mg : Str → Option Value} {base : Heap} {D : Addr}
/-! #### step -/
abbrev psST : List Str := ["self", "line", "row"]
def spStep (P : Program) (w : World) (K : PySem.W.Frag) (C CR : Addr) : Sp := fun vs H Q _ => ∃ (wk br fo r : Addr) (kd n : V) (t : Tk) (o o' : On), vs = [.ref wk, n, .ref r] ∧ RowAt K CR H r t ∧ stp o t = some o' ∧ WS P w K C H wk br fo kd o ∧ ∀ H', Bt wk fo H H' → WS P w K C H' wk br fo kd o' → Q .non H'
theorem ok_step {C CR fI tt aL : Addr} {m : Nat → Addr} (T : WalkT K mg C m) (R : RowT K mg CR fI tt) (cL : TupT K mg "LOOPS" aL loopsV) {d4 d5 : FuncData}
    (F4 : Fun K "fork" "Walk.fork" s_Walk_fork (m 4) d4) (b4 : Binds K d4 psFK []) (G4 : FnOk P w K mg base CX0 2 (m 4) d4 psFK (spFork P w K C CR))
    (F5 : Fun K "pass_line" "Walk.pass_line" s_Walk_pass_line (m 5) d5) (b5 : Binds K d5 psPL []) (G5 : FnOk P w K mg base CX0 2 (m 5) d5 psPL (spPass P w K C)) :
    ∃ fd, Fun K "step" "Walk.step" s_Walk_step (m 1) fd ∧ Binds K fd psST [] ∧ FnOk P w K mg base CX0 3 (m 1) fd psST (spStep P w K C CR) := by
  obtain ⟨fd, F, b⟩ := T.f1.fn
  refine ⟨fd, F, b, F.ok c_Walk_step (fun vs H Q E h => ?_) (fun cdv A outer s H vs Q E hr h => ?_)⟩
  · obtain ⟨wk, br, fo, r, kd, n, t, o, o', rfl, _⟩ := h
    rfl
  obtain ⟨wk, br, fo, r, kd, n, t, o, o', rfl, hrow, hst, hw, q⟩ := h
  refine ⟨_, pss_one (ps_if (pt_cmpR op_in_seq (pe_fld (pv 2) rfl) (pe_glob (v := .ref aL) rfl cL.g rfl) rfl) (pss_one ps_never)
    (pss_one (ps_if (pt_cmpR op_ne (pe_fld (pv 2) rfl) pe_str (nomark _)) (pss_one ps_never)
    (pss_one (ps_if (pt_cmpR op_in_seq (pe_fld (pv 2) rfl) (pe_tup (pa_cons pe_str (pa_cons pe_str (pa_cons pe_str pa_nil)))) rfl) (pss_one (ps_expr (pe_meth (pv 0) T.cl T.f4.m G4 hr b4 .nil pass0 (pa_cons (pv 1) (pa_cons (pv 2) pa_nil)))))
      (pss_one (ps_expr (pe_meth (pv 0) T.cl T.f5.m G5 hr b5 .nil pass0 (pa_cons (pv 1) (pa_cons (pe_fld (pv 2) rfl) pa_nil)))))))))), ?_⟩
  obtain ⟨⟨dx, wy, ks, fs, h1, h2, h3, h4, h5, h6, h7⟩, ne⟩ := id hw
  obtain ⟨dxr, ttr, nu, er, ht⟩ := id hrow
  have cls : inV (V.str t.word) loopsV = false ∧ ((inV (V.str t.word) [.str "if", .str "else", .str "end"] = true ∧ (t.word = "if" ∧ (t = .ifi ∨ t = .ifb) ∧ o = .no ∧ o' = .yes ∨ t = .els ∧ o = .yes ∧ o' = .els ∨ t = .fin ∧ o ≠ .no ∧ o' = .no)) ∨ (inV (V.str t.word) [.str "if", .str "else", .str "end"] = false ∧ t.word ∈ freeW ∧ o' = o)) := by
    cases t with
    | tell => cases hst; exact ⟨by decide +kernel, .inr ⟨by decide +kernel, by decide +kernel, rfl⟩⟩
    | grab => cases hst; exact ⟨by decide +kernel, .inr ⟨by decide +kernel, by decide +kernel, rfl⟩⟩
    | note => cases hst; exact ⟨by decide +kernel, .inr ⟨by decide +kernel, by decide +kernel, rfl⟩⟩
    | quit => cases hst; exact ⟨by decide +kernel, .inr ⟨by decide +kernel, by decide +kernel, rfl⟩⟩
    | ifi => cases o <;> cases hst; exact ⟨by decide +kernel, .inl ⟨by decide +kernel, .inl ⟨rfl, .inl rfl, rfl, rfl⟩⟩⟩
    | ifb => cases o <;> cases hst; exact ⟨by decide +kernel, .inl ⟨by decide +kernel, .inl ⟨rfl, .inr rfl, rfl, rfl⟩⟩⟩
    | els => cases o <;> cases hst; exact ⟨by decide +kernel, .inl ⟨by decide +kernel, .inr (.inl ⟨rfl, rfl, rfl⟩)⟩⟩
    | fin =>
      cases o with
      | no => cases hst
      | yes => cases hst; exact ⟨by decide +kernel, .inl ⟨by decide +kernel, .inr (.inr ⟨rfl, (fun z => by cases z), rfl⟩)⟩⟩
      | els => cases hst; exact ⟨by decide +kernel, .inl ⟨by decide +kernel, .inr (.inr ⟨rfl, (fun z => by cases z), rfl⟩)⟩⟩
  obtain ⟨c1, c2⟩ := cls
  refine ⟨_, rfl, r, CR, dxr, _, _, rfl, er, R.cl, R.nw, rfl, aL, _, rfl, .inr (cL.s _), rfl, rfl, _, rfl, iteBF c1 ?_⟩
  refine ⟨_, rfl, r, CR, dxr, _, _, rfl, er, R.cl, R.np, rfl, rfl, _, rfl, iteBF (by decide +kernel) ?_⟩
  refine ⟨_, rfl, r, CR, dxr, _, _, rfl, er, R.cl, R.nw, rfl, (by show 3 ≤ sizeLine; decide), fun u nu => ⟨u, _, rfl, .inr (SqT.of upd_same), rfl, rfl, _, rfl, ?_⟩⟩
  have su := new_same (o := .tup [.str "if", .str "else", .str "end"]) nu
  rcases c2 with ⟨c3, hot⟩ | ⟨c3, hf, rfl⟩
  · refine iteBT c3 ?_
    exact ⟨_, rfl, wk, dx, _, rfl, su _ _ h1, rfl, _, rfl, _, rfl, wk, br, fo, r, kd, n, t, o, o', rfl, hrow.keep su, hot, hw.keep su, fun H' bt w' => q H' ((Bt.of su).trans bt) w'⟩
  · refine iteBF c3 ?_
    exact ⟨_, rfl, wk, dx, _, rfl, su _ _ h1, rfl, _, rfl, _, rfl, r, CR, dxr, _, _, rfl, su _ _ er, R.cl, R.nw, rfl, wk, br, fo, kd, n, t.word, o', rfl, hf, hw.keep su, fun H' bt w' => q H' ((Bt.of su).trans bt) w'⟩
/-! #### least_break -/
abbrev psLB : List Str := ["kind", "rows"]
def spLeast (K : PySem.W.Frag) (CR : Addr) : Sp := fun vs H Q _ => ∃ (l : Addr) (kd : V) (rs : List Addr) (ts : List Tk), vs = [kd, .ref l] ∧ H l = some (.lst (rs.map V.ref)) ∧ rs.length = ts.length ∧ RowsAt K CR H rs ts ∧ run .no ts = some .no ∧ ∀ H', Same H H' → Q .non H'
theorem Bt.same {a b : Addr} {H0 H H' : Hp} (x : Bt a b H H') (s : Same H0 H) (na : H0 a = none) (nb : H0 b = none) : Same H0 H' := fun c u z => x c u (fun e => by rw [e, na] at z; cases z) (fun e => by rw [e, nb] at z; cases z) (s c u z)
theorem ok_least {f C CR fI tt aF : Addr} {m : Nat → Addr} (T0 : FT K mg "least_break" s_least_break psLB f) (T : WalkT K mg C m) (R : RowT K mg CR fI tt) (cF : FreshT K mg aF) (lst : mg "list" = none) (enu : mg "enumerate" = none) (mn : mg "min" = none) {d1 : FuncData}
    (F1 : Fun K "step" "Walk.step" s_Walk_step (m 1) d1) (b1 : Binds K d1 psST []) (G1 : FnOk P w K mg base CX0 3 (m 1) d1 psST (spStep P w K C CR)) :
    ∃ fd, Fun K "least_break" "least_break" s_least_break f fd ∧ Binds K fd psLB [] ∧ FnOk P w K mg base CX0 4 f fd psLB (spLeast K CR) := by
  obtain ⟨fd, F, b⟩ := T0.fn
  obtain ⟨d6, F6, b6, G6⟩ := ok_end (P := P) (w := w) (base := base) T lst
  obtain ⟨d0, F0, b0⟩ := T.f0
  refine ⟨fd, F, b, F.ok c_least_break (fun vs H Q E h => ?_) (fun cdv A outer s H vs Q E hr h => ?_)⟩
  · obtain ⟨l, kd, rs, ts, rfl, _⟩ := h
    rfl
  obtain ⟨l, kd, rs, ts, rfl, hl, hlen, hrow, hrun, q⟩ := h
  refine ⟨_, pss_cons (ps_set (i := 2) c_least_break.nd rfl (Or.inl rfl) (pe_make T.mak (ok_Walk T cF F0) (hr.mono (by decide)) rfl T.g b0 .nil pass0 (pa_cons (pv 0) pa_nil)))
    (pss_cons (ps_for PassesOwn.never rfl (Nd.pi_from enu (by decide) (by decide) (pa_cons (pv 1) pa_nil)) (pg_tup rfl (pgs_cons (pg_name (i := 3) c_least_break.nd rfl (Or.inl rfl)) (pgs_cons (pg_name (i := 4) c_least_break.nd rfl (Or.inl rfl)) pgs_nil)))
      (pss_one (ps_expr (pe_meth (pv 2) T.cl T.f1.m G1 hr b1 .nil pass0 (pa_cons (pv 3) (pa_cons (pv 4) pa_nil))))))
    (pss_cons (ps_expr (pe_meth0 (pv 2) T.cl T.f6.m G6 (hr.mono (by decide)) b6 .nil pass0))
    (pss_one (ps_ret (pe_callBK (Nd.call_min0 rfl hr.units) rfl mn (by decide +kernel) (pa_cons (pe_fld (pv 2) rfl) pa_nil) (pk_cons pe_non pk_nil)))))), ?_⟩
  refine ⟨_, rfl, fun wk dx nwk nd nw => ⟨wk, dx, kd, rfl, upd_same, fun H1 br fo b1' nbr nfo w1 => ⟨rfl, ?_⟩⟩⟩
  have nwk' : upd H dx (.own wk) wk = none := by rw [upd_ne nw.symm]; exact nwk
  have sH : Same H (upd (upd H dx (.own wk)) wk (.ins C dx [])) := same_new (new_same nd) nwk'
  have s1 : Same H H1 := fun c u z => b1' c u (ne_of_none z nwk) (sH c u z)
  have nfoH : H fo = none := free_same sH nfo
  refine ⟨_, rfl, l, _, rfl, SqL.of (s1 _ _ hl), for_from (K := K) (a := l) (xs := rs.map V.ref) (fun i σ G => ∃ (o : On) (v3 v4 : Option V), σ = [some kd, some (.ref l), some (.ref wk), v3, v4] ∧ Same H G ∧ WS P w K C G wk br fo kd o ∧ run o (ts.drop i) = some .no)
    ⟨.no, none, none, rfl, s1, w1, hrun⟩ ?_ ?_ ?_⟩
  · rintro i σ G _ ⟨o, v3, v4, rfl, sG, _⟩
    exact SqL.of (sG _ _ hl)
  · rintro i x σ G Tp hi ⟨o, v3, v4, rfl, sG, wG, hrun⟩ nT
    rw [List.getElem?_map] at hi
    cases hri : rs[i]? with
    | none => rw [hri] at hi; cases hi
    | some r =>
      rw [hri] at hi
      cases hi
      have hlt : i < ts.length := by rw [← hlen]; exact (List.getElem?_eq_some_iff.mp hri).1
      have hti : ts[i]? = some ts[i] := List.getElem?_eq_getElem hlt
      have hd : ts.drop i = ts[i] :: ts.drop (i + 1) := List.drop_eq_getElem_cons hlt
      rw [hd] at hrun
      obtain ⟨o', hst, hrun'⟩ := Option.bind_eq_some_iff.mp hrun
      have sT := new_same (o := .tup [.int (1 + (i : Int)), .ref r]) nT
      obtain ⟨⟨dxw, wy, ks, fs, h1, _⟩, _⟩ := id wG
      refine ⟨Tp, _, rfl, SqT.of upd_same, rfl, _, _, rfl, _, _, rfl, rfl, ?_⟩
      refine ⟨_, rfl, wk, dxw, _, rfl, sT _ _ h1, rfl, _, rfl, _, rfl, wk, br, fo, r, kd, _, ts[i], o, o', rfl, (hrow i r _ hri hti).keep (sG.trans sT), hst, wG.keep sT, fun G2 bt w2 => ?_⟩
      exact ⟨o', _, _, rfl, bt.same (sG.trans sT) nwk nfoH, w2, hrun'⟩
  · rintro σ G ⟨o, v3, v4, rfl, sG, wG, hrun⟩
    obtain ⟨⟨dxw, wy, ks, fs, h1, _⟩, _⟩ := id wG
    refine ⟨_, rfl, wk, dxw, _, rfl, h1, rfl, wk, br, fo, kd, o, rfl, wG, fun G2 bt w2 => ?_⟩
    obtain ⟨⟨dxw, wy, ks, fs, h1, h2, _⟩, _⟩ := id w2
    exact ⟨_, rfl, wk, C, dxw, _, _, rfl, h1, T.cl, T.nb, rfl, br, .non, rfl, rfl, SqL.of h2, q _ (bt.same sG nwk nfoH)⟩
end
end H2
namespace H2
open PySem PySem.Spec PyProof.Rows L2 Hx Nd Dun
section
variable {P : Program} {w : World} {K : PySem.W.Frag} {mg : Str → Option Value} {base : Heap} {D : Addr}
/-! ### what the flow's parts need -/
theorem strV {a b : Str} : decide (V.str a = V.str b) = decide (a = b) := by
  by_cases h : a = b
  · rw [h]; simp
  · rw [decide_eq_false h, decide_eq_false fun z => h (V.str.inj z)]
theorem if_with {c : TT} {t u : TS} {D : Ends} {σ : L2.St} {H : Hp} {S : Hp → Prop} (h0 : ∀ G, S G → u D σ G) (h : (∀ G, S G → u D σ G) → tIfS c t u D σ H) : tIfS c t u D σ H := h h0
def isLoop (x : Str) : Bool := inV (.str x) loopsV
theorem big {n : Nat} (h : n ≤ 4000000) : n < sizeLine := Nat.lt_of_le_of_lt h (by decide)
theorem made_row {H G : Hp} {C p dx : Addr} (s : Same H G) (np : G p = none) (nd : G dx = none) (ne : dx ≠ p) {o : HO} : Same H (upd (upd G dx (.own p)) p o) := same_new (same_new s nd) (by rw [upd_ne ne.symm]; exact np)
theorem iteB {b : Bool} {A B : Prop} (h1 : b = true → A) (h2 : b = false → B) : if b = true then A else B := by
  cases b with
  | true => exact h1 rfl
  | false => exact h2 rfl
end
end H2
namespace H2
open PySem PySem.Spec PyProof.Rows L2 Hx Nd Dun
section
variable {P : Program} {w : World} {K : PySem.W.Frag} {mg : Str → Option Value} {base : Heap} {D : Addr}
/-! ### the blocks of a text, as depths -/
def balF : Nat → List Str → Option Nat
  | d, [] => some d
  | d, x :: r => if (decide (x = "if") || isLoop x) = true then balF (d + 1) r
      else if x = "else" then (if d = 0 then none else balF d r)
      else if x = "end" then (if d = 0 then none else balF (d - 1) r)
      else balF d r
/-! ### the dicts of blocks -/
abbrev kI (n : Nat) : Key := Sum.inl (n : Int)
theorem valV_mem {kvs : List (Key × V)} {k : Key} {v : V} : valV kvs k = some v → (k, v) ∈ kvs := by
  induction kvs with
  | nil => intro h; rw [valV_nil] at h; cases h
  | cons p r ih =>
    intro h
    by_cases e : p.1 = k
    · rw [valV_pos e] at h
      cases h
      rw [← e]
      exact List.mem_cons_self
    · rw [valV_neg e] at h
      exact List.mem_cons_of_mem _ (ih h)
theorem mem_put {kvs : List (Key × V)} {k : Key} {v : V} {kv : Key × V} (h : kv ∈ putK kvs k v) : kv ∈ kvs ∨ kv = (k, v) := by
  unfold putK at h
  split at h
  · obtain ⟨z, hz, rfl⟩ := List.mem_map.mp h
    split
    · rename_i c
      exact .inr (by rw [c])
    · exact .inl hz
  · rcases List.mem_append.mp h with h | h
    · exact .inl h
    · exact .inr (List.mem_singleton.mp h)
theorem put_len {kvs : List (Key × V)} {k : Key} {v : V} : (putK kvs k v).length ≤ kvs.length + 1 := by
  unfold putK
  split
  · rw [List.length_map]; omega
  · rw [List.length_append]; exact Nat.le_refl _
structure BI (i : Nat) (hk ek : List (Key × V)) (os : List Nat) : Prop where
  hh : ∀ kv ∈ hk, ∃ jn hn : Nat, kv = (kI jn, .int (hn : Int)) ∧ jn < i ∧ hn < i ∧ (hn ∈ os ∨ ∃ en : Nat, valV ek (kI hn) = some (.int (en : Int)) ∧ jn ≤ en ∧ en < i)
  ee : ∀ kv ∈ ek, ∃ hn en : Nat, kv = (kI hn, .int (en : Int)) ∧ hn < i ∧ en < i
  oo : ∀ h ∈ os, h < i
  hl : hk.length ≤ i
  el : ek.length ≤ i
  ol : os.length ≤ i
theorem BI.start : BI 0 [] [] [] := ⟨fun _ h => (List.not_mem_nil h).elim, fun _ h => (List.not_mem_nil h).elim, fun _ h => (List.not_mem_nil h).elim, Nat.le_refl _, Nat.le_refl _, Nat.le_refl _⟩
section
variable {i : Nat} {hk ek : List (Key × V)} {os : List Nat} {h : Nat}
theorem BI.skip (b : BI i hk ek os) : BI (i + 1) hk ek os := by
  refine ⟨fun kv hkv => ?_, fun kv hkv => ?_, fun h hh => ?_, Nat.le_succ_of_le b.hl, Nat.le_succ_of_le b.el, Nat.le_succ_of_le b.ol⟩
  · obtain ⟨jn, hn, e, h1, h2, h3⟩ := b.hh kv hkv
    exact ⟨jn, hn, e, by omega, by omega, h3.elim .inl fun ⟨en, a, c, d⟩ => .inr ⟨en, a, c, by omega⟩⟩
  · obtain ⟨hn, en, e, h1, h2⟩ := b.ee kv hkv
    exact ⟨hn, en, e, by omega, by omega⟩
  · have := b.oo h hh
    omega
theorem BI.push (b : BI i hk ek os) : BI (i + 1) hk ek (os ++ [i]) := by
  have c := b.skip
  refine ⟨fun kv hkv => ?_, c.ee, fun h hh => ?_, c.hl, c.el, by rw [List.length_append]; exact Nat.succ_le_succ b.ol⟩
  · obtain ⟨jn, hn, e, h1, h2, h3⟩ := c.hh kv hkv
    exact ⟨jn, hn, e, h1, h2, h3.elim (fun z => .inl (List.mem_append_left _ z)) .inr⟩
  · rcases List.mem_append.mp hh with hh | hh
    · exact c.oo h hh
    · rw [List.mem_singleton.mp hh]; omega
theorem BI.other (b : BI i hk ek (os ++ [h])) : BI (i + 1) (putK hk (kI i) (.int (h : Int))) ek (os ++ [h]) := by
  have c := b.skip
  have hi := b.oo h (List.mem_append_right _ List.mem_cons_self)
  refine ⟨fun kv hkv => ?_, c.ee, c.oo, Nat.le_trans put_len (Nat.succ_le_succ b.hl), c.el, c.ol⟩
  rcases mem_put hkv with hkv | hkv
  · exact c.hh kv hkv
  · exact ⟨i, h, hkv, by omega, by omega, .inl (List.mem_append_right _ List.mem_cons_self)⟩
theorem BI.close (b : BI i hk ek (os ++ [h])) : BI (i + 1) (putK hk (kI i) (.int (h : Int))) (putK ek (kI h) (.int (i : Int))) os := by
  have c := b.skip
  have hi := b.oo h (List.mem_append_right _ List.mem_cons_self)
  have hol := b.ol
  rw [List.length_append] at hol
  have hv : valV (putK ek (kI h) (.int (i : Int))) (kI h) = some (.int (i : Int)) := by rw [valV_put, if_pos rfl]
  refine ⟨fun kv hkv => ?_, fun kv hkv => ?_, fun z hz => c.oo z (List.mem_append_left _ hz), Nat.le_trans put_len (Nat.succ_le_succ b.hl), Nat.le_trans put_len (Nat.succ_le_succ b.el), by omega⟩
  · rcases mem_put hkv with hkv | hkv
    · obtain ⟨jn, hn, e, h1, h2, h3⟩ := b.hh kv hkv
      refine ⟨jn, hn, e, by omega, by omega, ?_⟩
      by_cases hz : hn = h
      · rw [hz]
        exact .inr ⟨i, hv, by omega, by omega⟩
      · rcases h3 with h3 | ⟨en, a, c, d⟩
        · rcases List.mem_append.mp h3 with h3 | h3
          · exact .inl h3
          · exact absurd (List.mem_singleton.mp h3) hz
        · refine .inr ⟨en, ?_, c, by omega⟩
          rw [valV_put, if_neg ?_]
          · exact a
          · intro z
            have := Sum.inl.inj z
            omega
    · exact ⟨i, h, hkv, by omega, by omega, .inr ⟨i, hv, Nat.le_refl _, by omega⟩⟩
  · rcases mem_put hkv with hkv | hkv
    · exact c.ee kv hkv
    · exact ⟨h, i, hkv, by omega, by omega⟩
end
/-- what the dicts tell of n rows -/
structure FlowOk (n : Nat) (hk ek : List (Key × V)) : Prop where
  hh : ∀ kv ∈ hk, ∃ jn hn en : Nat, kv = (kI jn, .int (hn : Int)) ∧ jn < n ∧ hn < n ∧ valV ek (kI hn) = some (.int (en : Int)) ∧ jn ≤ en ∧ en < n
  ee : ∀ kv ∈ ek, ∃ hn en : Nat, kv = (kI hn, .int (en : Int)) ∧ hn < n ∧ en < n
theorem BI.done {i : Nat} {hk ek : List (Key × V)} (b : BI i hk ek []) : FlowOk i hk ek := by
  refine ⟨fun kv hkv => ?_, b.ee⟩
  obtain ⟨jn, hn, e, h1, h2, h3⟩ := b.hh kv hkv
  rcases h3 with h3 | ⟨en, a, c, d⟩
  · cases h3
  · exact ⟨jn, hn, en, e, h1, h2, a, c, d⟩
end
end H2
namespace H2
open PySem PySem.Spec PyProof.Rows L2 Hx Nd Dun
section
variable {P : Program} {w : World} {K : PySem.W.Frag} {mg : Str → Option Value} {base : Heap} {D : Addr}
/-! ### match_blocks -/
/-- a row with this word -/
def RowW (K : PySem.W.Frag) (C : Addr) (H : Hp) (r : Addr) (x : Str) : Prop := ∃ (dx : Addr) (fs : List (Str × V)), H r = some (.ins C dx fs) ∧ fs.lookup ("word" : Str) = some (V.str x)
def RowsW (K : PySem.W.Frag) (C : Addr) (H : Hp) (rs : List Addr) (wr : List Str) : Prop := rs.length = wr.length ∧ ∀ (i : Nat) (r : Addr) (x : Str), rs[i]? = some r → wr[i]? = some x → RowW K C H r x
theorem RowW.keep {C r : Addr} {x : Str} {H H' : Hp} (h : RowW K C H r x) (e : Same H H') : RowW K C H' r x := by
  obtain ⟨dx, fs, h1, h2⟩ := h
  exact ⟨dx, fs, e _ _ h1, h2⟩
theorem RowsW.keep {C : Addr} {rs : List Addr} {wr : List Str} {H H' : Hp} (h : RowsW K C H rs wr) (e : Same H H') : RowsW K C H' rs wr := ⟨h.1, fun i r x a b => (h.2 i r x a b).keep e⟩
def intsN (os : List Nat) : List V := os.map fun (n : Nat) => V.int (n : Int)
def spMB (K : PySem.W.Frag) (C : Addr) : Sp := fun vs H Q _ => ∃ (t : Addr) (rs : List Addr) (wr : List Str), vs = [.ref t] ∧ SqT K H t (rs.map V.ref) ∧ RowsW K C H rs wr ∧ wr.length ≤ 900 ∧ balF 0 wr = some 0 ∧
  ∀ H' t' he en hk ek, Same H H' → SqT K H' t' [.ref he, .ref en] → H' he = some (.dK hk) → H' en = some (.dK ek) → he ≠ en → H he = none → H en = none → FlowOk rs.length hk ek → Q (.ref t') H'
theorem ok_mb {f CR fI tt aL : Addr} (T : FT K mg "match_blocks" s_match_blocks ["rows"] f) (R : RowT K mg CR fI tt) (cL : TupT K mg "LOOPS" aL loopsV) (enu : mg "enumerate" = none) :
    ∃ fd, Fun K "match_blocks" "match_blocks" s_match_blocks f fd ∧ Binds K fd ["rows"] [] ∧ FnOk P w K mg base CX0 1 f fd ["rows"] (spMB K CR) := by
  obtain ⟨fd, F, b⟩ := T.fn
  refine ⟨fd, F, b, F.ok c_match_blocks (fun vs H Q E h => ?_) (fun cdv A outer s H vs Q E hr h => ?_)⟩
  · obtain ⟨t, rs, wr, rfl, _⟩ := h
    rfl
  obtain ⟨t, rs, wr, rfl, ht, hrs, hlen, hbal, q⟩ := h
  have hu := hu_of hr
  refine ⟨_, pss_cons (ps_set (i := 1) c_match_blocks.nd rfl (Or.inl rfl) pe_dnewK) <| pss_cons (ps_set (i := 2) c_match_blocks.nd rfl (Or.inl rfl) pe_dnewK) <| pss_cons (ps_set (i := 3) c_match_blocks.nd rfl (Or.inl rfl) (pe_lst pa_nil)) <|
    pss_cons (ps_for PassesOwn.never rfl (Nd.pi_enumT (by rfl) enu (pa_cons (pv 0) pa_nil)) (pg_tup rfl (pgs_cons (pg_name (i := 4) c_match_blocks.nd rfl (Or.inl rfl)) (pgs_cons (pg_name (i := 5) c_match_blocks.nd rfl (Or.inl rfl)) pgs_nil)))
      (pss_one (ps_if (PW.pt (pw_or (pt_cmpR op_eq (pe_fld (pv 5) rfl) pe_str (nomark _)) (pw_or1 (pt_cmpR op_in_seq (pe_fld (pv 5) rfl) (pe_glob (v := .ref aL) rfl cL.g rfl) rfl))))
        (pss_one (ps_expr (pe_bm PySem.F.plainAttrs_list PySem.F.slot_list_append PySem.F.type_list_append mt_append (pv 3) (pa_cons (pv 4) pa_nil))))
        (pss_one (ps_if (pt_cmpR op_eq (pe_fld (pv 5) rfl) pe_str (nomark _)) (pss_one (ps_dput hu (pv 1) (pv 4) (pe_ix ix_list (pv 3) (pe_un un_neg pe_int) (fun _ _ => rfl)) rfl))
          (pss_one (ps_if (pt_cmpR op_eq (pe_fld (pv 5) rfl) pe_str (nomark _)) (pss_cons (ps_dput hu (pv 1) (pv 4) (pe_bm0 PySem.F.plainAttrs_list PySem.F.slot_list_pop PySem.F.type_list_pop mt_pop (pv 3)) rfl) (pss_one (ps_dput hu (pv 2) (pe_dget hu (pv 1) (pv 4) (fun _ _ => rfl)) (pv 4) rfl))) pss_nil))))))) <|
    pss_one (ps_ret (pe_tup (pa_cons (pv 1) (pa_cons (pv 2) pa_nil)))), ?_⟩
  refine fun he nhe => fun en nen => ⟨Nat.zero_le _, fun op nop => ?_⟩
  obtain ⟨nen1, nee⟩ := free_upd nen
  obtain ⟨nop1, nope⟩ := free_upd nop
  obtain ⟨nop2, noph⟩ := free_upd nop1
  have s3 : Same H (upd (upd (upd H he (.dK [])) en (.dK [])) op (.lst [])) := same_new (same_new (new_same nhe) nen) nop
  refine ⟨_, rfl, t, _, rfl, sqt_same s3 ht, Nd.for_enumT (K := K) (a := t) (xs := rs.map V.ref) (fun i σ G => ∃ (hk ek : List (Key × V)) (os : List Nat) (v4 v5 : Option V), σ = [some (.ref t), some (.ref he), some (.ref en), some (.ref op), v4, v5] ∧ Same H G ∧ G he = some (.dK hk) ∧ G en = some (.dK ek) ∧ G op = some (.lst (intsN os)) ∧ BI i hk ek os ∧ balF os.length (wr.drop i) = some 0)
    ⟨[], [], [], none, none, rfl, s3, by rw [upd_ne noph.symm, upd_ne nee.symm, upd_same], by rw [upd_ne nope.symm, upd_same], upd_same, .start, hbal⟩ ?_ ?_ ?_⟩
  · rintro i σ G _ ⟨hk, ek, os, v4, v5, rfl, sG, _⟩
    exact sqt_same sG ht
  · rintro i v σ G T hi ⟨hk, ek, os, v4, v5, rfl, sG, ehe, een, eop, bi, hb⟩ nT
    rw [List.getElem?_map] at hi
    cases hri : rs[i]? with
    | none => rw [hri] at hi; cases hi
    | some r =>
      rw [hri] at hi
      cases hi
      have hil : i < rs.length := (List.getElem?_eq_some_iff.mp hri).1
      have hiw : i < wr.length := by rw [← hrs.1]; exact hil
      obtain ⟨x, hx⟩ : ∃ x, wr[i]? = some x := ⟨_, List.getElem?_eq_getElem hiw⟩
      have hd : wr.drop i = x :: wr.drop (i + 1) := by
        rw [List.drop_eq_getElem_cons hiw, (List.getElem?_eq_some_iff.mp hx).2]
      rw [hd, balF] at hb
      have sT := new_same (o := .tup [.int (i : Nat), .ref r]) nT
      have sGT : Same H (upd G T (.tup [.int (i : Nat), .ref r])) := same_new sG nT
      obtain ⟨dx, fs, hr1, hr2⟩ := (hrs.2 i r x hri hx).keep sGT
      have ehe1 := sT _ _ ehe
      have een1 := sT _ _ een
      have eop1 := sT _ _ eop
      have eT : (upd G T (.tup [.int (i : Nat), .ref r])) T = some (.tup [.int (i : Nat), .ref r]) := upd_same
      generalize upd G T (.tup [.int (i : Nat), .ref r]) = G1 at sGT hr1 ehe1 een1 eop1 eT ⊢
      refine ⟨T, _, rfl, SqT.of eT, rfl, _, _, rfl, _, _, rfl, rfl, ?_⟩
      have nhe1 : he ≠ en := nee.symm
      have nhop : op ≠ he := noph
      have big9 : ∀ {n : Nat}, n ≤ 900 → n < sizeLine := fun h => Nat.lt_of_le_of_lt h (by decide)
      -- the word of the row
      refine ⟨_, rfl, r, CR, dx, fs, _, rfl, hr1, R.cl, R.nw, hr2, rfl, _, rfl, ?_⟩
      rw [strV]
      have push : (decide (x = "if") || isLoop x) = true → BI (i + 1) hk ek (os ++ [i]) ∧ balF (os ++ [i]).length (wr.drop (i + 1)) = some 0 := fun c => by
        rw [if_pos c] at hb
        exact ⟨bi.push, by rw [List.length_append]; exact hb⟩
      have hol : (intsN os).length < sizeLine := by
        unfold intsN
        rw [List.length_map]
        exact big9 (by have := bi.ol; have := hrs.1; omega)
      have appnd : (decide (x = "if") || isLoop x) = true → ∀ G2, Same H G2 → G2 he = some (.dK hk) → G2 en = some (.dK ek) → G2 op = some (.lst (intsN os)) → Same H (upd G2 op (.lst (intsN os ++ [.int (i : Nat)]))) ∧ (upd G2 op (.lst (intsN os ++ [.int (i : Nat)]))) he = some (.dK hk) ∧ (upd G2 op (.lst (intsN os ++ [.int (i : Nat)]))) en = some (.dK ek) ∧ (upd G2 op (.lst (intsN os ++ [.int (i : Nat)]))) op = some (.lst (intsN (os ++ [i]))) := fun _ G2 s2 a1 a2 a3 =>
        ⟨same_out s2 nop2, by rw [upd_ne noph.symm]; exact a1, by rw [upd_ne nope.symm]; exact a2, by rw [upd_same]; unfold intsN; rw [List.map_append]; rfl⟩
      refine iteB (fun h1 => ?_) (fun h1 => ?_)
      · have c : (decide (x = "if") || isLoop x) = true := by rw [h1]; rfl
        obtain ⟨p1, p2⟩ := push c
        obtain ⟨a1, a2, a3, a4⟩ := appnd c G1 sGT ehe1 een1 eop1
        refine ⟨_, rfl, .inl ⟨rfl, _, SqL.of eop1⟩, _, rfl, op, _, _, rfl, rfl, eop1, hol, ?_⟩
        exact ⟨hk, ek, os ++ [i], _, _, rfl, a1, a2, a3, a4, p1, p2⟩
      refine ⟨_, rfl, r, CR, dx, fs, _, rfl, hr1, R.cl, R.nw, hr2, aL, _, rfl, .inr (cL.s _), rfl, rfl, _, rfl, ?_⟩
      refine iteB (fun h2 => ?_) (fun h2 => ?_)
      · have h2' : isLoop x = true := h2
        have c : (decide (x = "if") || isLoop x) = true := by rw [h2', Bool.or_true]
        obtain ⟨p1, p2⟩ := push c
        obtain ⟨a1, a2, a3, a4⟩ := appnd c G1 sGT ehe1 een1 eop1
        refine ⟨_, rfl, .inl ⟨rfl, _, SqL.of eop1⟩, _, rfl, op, _, _, rfl, rfl, eop1, hol, ?_⟩
        exact ⟨hk, ek, os ++ [i], _, _, rfl, a1, a2, a3, a4, p1, p2⟩
      have h2' : isLoop x = false := h2
      have c0 : ¬ (decide (x = "if") || isLoop x) = true := by rw [h1, h2']; decide
      rw [if_neg c0] at hb
      refine ⟨_, rfl, r, CR, dx, fs, _, rfl, hr1, R.cl, R.nw, hr2, rfl, _, rfl, ?_⟩
      rw [strV]
      have hkl : hk.length < sizeLine := big9 (by have := bi.hl; have := hrs.1; omega)
      have ekl : ek.length < sizeLine := big9 (by have := bi.el; have := hrs.1; omega)
      refine iteB (fun h3 => ?_) (fun h3 => ?_)
      · have hx3 : x = "else" := of_decide_eq_true h3
        rw [if_pos hx3] at hb
        by_cases hz : os.length = 0
        · rw [if_pos hz] at hb; cases hb
        rw [if_neg hz] at hb
        obtain ⟨os', h, rfl⟩ : ∃ os' h, os = os' ++ [h] := by
          rcases List.eq_nil_or_concat os with e | ⟨r, z, e⟩
          · rw [e] at hz; exact absurd rfl hz
          · exact ⟨r, z, by rw [e, List.concat_eq_append]⟩
        have hlast : atI (intsN (os' ++ [h])) (-1) = some (.int (h : Int)) := by
          unfold intsN
          rw [List.map_append]
          exact atI_last _ _
        refine ⟨_, rfl, _, rfl, op, _, _, _, rfl, rfl, SqL.of eop1, hlast, _, rfl, _, rfl, he, _, rfl, DPut.k (k := kI i) ehe1 hkl, ?_⟩
        refine ⟨putK hk (kI i) (.int (h : Int)), ek, os' ++ [h], _, _, rfl, same_out sGT nhe, upd_same, by rw [upd_ne nhe1.symm]; exact een1, by rw [upd_ne nhop]; exact eop1, bi.other, hb⟩
      have hx3 : ¬ x = "else" := of_decide_eq_false h3
      rw [if_neg hx3] at hb
      refine ⟨_, rfl, r, CR, dx, fs, _, rfl, hr1, R.cl, R.nw, hr2, rfl, _, rfl, ?_⟩
      rw [strV]
      refine iteB (fun h4 => ?_) (fun h4 => ?_)
      · have hx4 : x = "end" := of_decide_eq_true h4
        rw [if_pos hx4] at hb
        by_cases hz : os.length = 0
        · rw [if_pos hz] at hb; cases hb
        rw [if_neg hz] at hb
        obtain ⟨os', h, rfl⟩ : ∃ os' h, os = os' ++ [h] := by
          rcases List.eq_nil_or_concat os with e | ⟨r, z, e⟩
          · rw [e] at hz; exact absurd rfl hz
          · exact ⟨r, z, by rw [e, List.concat_eq_append]⟩
        have hlen2 : (intsN (os' ++ [h])).length = os'.length + 1 := by unfold intsN; rw [List.length_map, List.length_append]; rfl
        have hget : (intsN (os' ++ [h]))[(intsN (os' ++ [h])).length - 1]? = some (.int (h : Int)) := by
          rw [hlen2, Nat.add_sub_cancel]
          unfold intsN
          rw [List.map_append, List.getElem?_append_right (by rw [List.length_map]; exact Nat.le_refl _), List.length_map, Nat.sub_self]
          rfl
        have hdrop : (intsN (os' ++ [h])).dropLast = intsN os' := by
          unfold intsN
          rw [List.map_append]
          exact List.dropLast_concat
        refine ⟨_, rfl, .inl ⟨rfl, _, SqL.of eop1⟩, op, _, _, rfl, rfl, eop1, hget, ?_⟩
        rw [hdrop]
        have ehe2 : (upd G1 op (.lst (intsN os'))) he = some (.dK hk) := by rw [upd_ne noph.symm]; exact ehe1
        refine ⟨_, rfl, _, rfl, he, _, rfl, DPut.k (k := kI i) ehe2 hkl, ?_⟩
        have hput : valV (putK hk (kI i) (.int (h : Int))) (kI i) = some (.int (h : Int)) := by rw [valV_put, if_pos rfl]
        have een3 : (upd (upd G1 op (.lst (intsN os'))) he (.dK (putK hk (kI i) (.int (h : Int))))) en = some (.dK ek) := by rw [upd_ne nhe1.symm, upd_ne nope.symm]; exact een1
        refine ⟨_, rfl, _, rfl, _, rfl, _, rfl, he, _, rfl, (show DGet _ _ (kV (kI i)) (some (.int (h : Int))) from by rw [← hput]; exact DGet.k upd_same), en, _, rfl, DPut.k (k := kI h) een3 ekl, ?_⟩
        refine ⟨putK hk (kI i) (.int (h : Int)), putK ek (kI h) (.int (i : Int)), os', _, _, rfl, same_out (same_out (same_out sGT nop2) nhe) nen1, by rw [upd_ne nhe1]; exact upd_same, upd_same, by rw [upd_ne nope, upd_ne noph]; exact upd_same, bi.close, ?_⟩
        rw [List.length_append] at hb
        exact hb
      · have hx4 : ¬ x = "end" := of_decide_eq_false h4
        rw [if_neg hx4] at hb
        exact ⟨hk, ek, os, _, _, rfl, sGT, ehe1, een1, eop1, bi.skip, hb⟩
  · rintro σ G ⟨hk, ek, os, v4, v5, rfl, sG, ehe, een, eop, bi, hb⟩
    rw [List.length_map] at hb bi
    rw [hrs.1, List.drop_length, balF] at hb
    have hos : os = [] := List.length_eq_zero_iff.mp (Option.some.inj hb)
    subst hos
    refine ⟨_, rfl, _, rfl, (by show 2 ≤ sizeLine; decide), fun T nT => q _ T he en hk ek (same_new sG nT) (SqT.of upd_same) ((new_same nT) _ _ ehe) ((new_same nT) _ _ een) nee.symm nhe nen1 bi.done⟩
end
end H2
namespace H2
open PySem PySem.Spec PyProof.Rows L2 Hx Nd Dun
section
variable {P : Program} {w : World} {K : PySem.W.Frag} {mg : Str → Option Value} {base : Heap} {D : Addr}
/-! ### Flow -/
structure FlowT (K : PySem.W.Frag) (mg : Str → Option Value) (C : Addr) (m : Nat → Addr) : Prop where
  g : mg "Flow" = some (.ref C)
  mak : Mk K C (m 0)
  cl : Cls K C
  nr : NoAttr K C "rows"
  nz : NoAttr K C "size"
  nh : NoAttr K C "heads"
  ne : NoAttr K C "ends"
  na : NoAttr K C "after"
  no : NoAttr K C "other"
  nl : NoAttr K C "loop_of"
  f0 : ∃ fd, Fun K "__init__" "Flow.__init__" s_Flow_init (m 0) fd ∧ Binds K fd ["self", "rows"] []
  f1 : MT K C "landing" "Flow.landing" s_Flow_landing ["self", "at"] (m 1)
  f2 : MT K C "way_past" "Flow.way_past" s_Flow_way_past ["self", "at"] (m 2)
  f3 : MT K C "find_loops" "Flow.find_loops" s_Flow_find_loops ["self"] (m 3)
structure FlowH (K : PySem.W.Frag) (C CR : Addr) (H : Hp) (p tr he en : Addr) (rs : List Addr) (wr : List Str) (hk ek : List (Key × V)) : Prop where
  o : ∃ (dx : Addr) (fs : List (Str × V)), H p = some (.ins C dx fs) ∧ fs.lookup ("rows" : Str) = some (V.ref tr) ∧ fs.lookup ("size" : Str) = some (V.int (rs.length : Nat)) ∧ fs.lookup ("heads" : Str) = some (V.ref he) ∧ fs.lookup ("ends" : Str) = some (V.ref en) ∧
    fs.lookup ("landing" : Str) = none ∧ fs.lookup ("way_past" : Str) = none ∧ fs.lookup ("find_loops" : Str) = none
  t : SqT K H tr (rs.map V.ref)
  r : RowsW K CR H rs wr
  h : Rd H he (.dK hk)
  e : Rd H en (.dK ek)
  ok : FlowOk rs.length hk ek
section
variable {C CR p tr he en : Addr} {rs : List Addr} {wr : List Str} {hk ek : List (Key × V)} {H H' : Hp}
theorem rd_same {a : Addr} {u : HO} (e : Same H H') (r : Rd H a u) : Rd H' a u := by
  rcases r with r | ⟨o, r⟩
  · exact .inl (e _ _ r)
  · exact .inr ⟨o, e _ _ r⟩
theorem FlowH.keep (h : FlowH K C CR H p tr he en rs wr hk ek) (e : Same H H') : FlowH K C CR H' p tr he en rs wr hk ek := by
  obtain ⟨⟨dx, fs, o1, o2⟩, t, r, h1, h2, ok⟩ := h
  exact ⟨⟨dx, fs, e _ _ o1, o2⟩, sqt_same e t, r.keep e, rd_same e h1, rd_same e h2, ok⟩
/-- while a dict is locked -/
theorem FlowH.frz (h : FlowH K C CR H p tr he en rs wr hk ek) {d : Addr} {kvs : List (Key × V)} (hd : H d = some (.dK kvs)) (od : Obj) : FlowH K C CR (upd H d (.frz od (.dK kvs))) p tr he en rs wr hk ek := by
  obtain ⟨⟨dx, fs, o1, o2⟩, t, r, h1, h2, ok⟩ := h
  have rd : ∀ {a : Addr} {ys : List (Key × V)}, Rd H a (.dK ys) → Rd (upd H d (.frz od (.dK kvs))) a (.dK ys) := fun {a ys} r => by
    by_cases e : a = d
    · subst e
      rcases r with r | ⟨o, r⟩
      · rw [hd] at r; cases r; exact .inr ⟨od, upd_same⟩
      · rw [hd] at r; cases r
    · rcases r with r | ⟨o, r⟩
      · exact .inl (by rw [upd_ne e]; exact r)
      · exact .inr ⟨o, by rw [upd_ne e]; exact r⟩
  have tt : Nd.Tups H (upd H d (.frz od (.dK kvs))) := Nd.Tups.upd fun xs r => by
    rcases r with r | ⟨z, r⟩
    · rw [hd] at r; cases r
    · rw [hd] at r; cases r
  refine ⟨⟨dx, fs, by rw [upd_ne (ne_of o1 hd (by intro z; cases z))]; exact o1, o2⟩, sqt_tups tt t, ⟨r.1, fun i a x e1 e2 => ?_⟩, rd h1, rd h2, ok⟩
  obtain ⟨dx', fs', a1, a2⟩ := r.2 i a x e1 e2
  exact ⟨dx', fs', by rw [upd_ne (ne_of a1 hd (by intro z; cases z))]; exact a1, a2⟩
end
theorem rget {H : Hp} {a : Addr} {kvs : List (Key × V)} {k : Key} (r : Rd H a (.dK kvs)) : DGet H a (kV k) (valV kvs k) := .inl ⟨kvs, k, r, rfl, rfl⟩
def spLand (K : PySem.W.Frag) (C CR : Addr) : Sp := fun vs H Q _ => ∃ (p tr he en : Addr) (rs : List Addr) (wr : List Str) (hk ek : List (Key × V)) (a : Int), vs = [.ref p, .int a] ∧ FlowH K C CR H p tr he en rs wr hk ek ∧ 0 ≤ a ∧ ∀ v : Int, Q (.int v) H
def muL (n : Nat) (σ : L2.St) : Nat := match σ[1]? with
  | some (some (V.int k)) => ((n : Int) - k).toNat
  | _ => 0
theorem ok_landing {C CR fI tt aL : Addr} {m : Nat → Addr} (T : FlowT K mg C m) (R : RowT K mg CR fI tt) (cL : TupT K mg "LOOPS" aL loopsV) :
    ∃ fd, Fun K "landing" "Flow.landing" s_Flow_landing (m 1) fd ∧ Binds K fd ["self", "at"] [] ∧ FnOk P w K mg base CX0 1 (m 1) fd ["self", "at"] (spLand K C CR) := by
  obtain ⟨fd, F, b⟩ := T.f1.fn
  refine ⟨fd, F, b, F.ok c_Flow_landing (fun vs H Q E h => ?_) (fun cdv A outer s H vs Q E hr h => ?_)⟩
  · obtain ⟨p, tr, he, en, rs, wr, hk, ek, a, rfl, _⟩ := h
    rfl
  obtain ⟨p, tr, he, en, rs, wr, hk, ek, a, rfl, hf, ha, q⟩ := h
  have hu := hu_of hr
  refine ⟨_, pss_cons (ps_while PassesOwn.never (PW.pt (pw_and (pt_cmpR op_lt (pv 1) (pe_fld (pv 0) rfl) (nomark _)) (pw_and1 (pt_cmp (pc_din hu (pv 1) (pe_fld (pv 0) rfl))))))
      (pss_cons (ps_set (i := 2) c_Flow_landing.nd rfl (Or.inl rfl) (pe_dget hu (pe_fld (pv 0) rfl) (pv 1) (fun _ _ => rfl))) <|
      pss_cons (ps_if (PW.pt (pw_and (pt_cmpR op_eq (pe_fld (pe_ix ix_tup (pe_fld (pv 0) rfl) (pv 1) (fun _ _ => rfl)) rfl) pe_str (nomark _)) (pw_and1 (pt_cmpR op_in_seq (pe_fld (pe_ix ix_tup (pe_fld (pv 0) rfl) (pv 2) (fun _ _ => rfl)) rfl) (pe_glob (v := .ref aL) rfl cL.g rfl) rfl)))) (pss_one (ps_ret (pv 2))) pss_nil) <|
      pss_one (ps_set (i := 1) c_Flow_landing.nd rfl (Or.inl rfl) (pe_op op_add (pe_dget hu (pe_fld (pv 0) rfl) (pv 2) (fun _ _ => rfl)) pe_int)))) <|
    pss_one (ps_ret (pv 1)), ?_⟩
  obtain ⟨⟨dx, fs, o1, l1, l2, l3, l4, _⟩, ht, hrw, hh, hen, ok⟩ := hf
  have rowAt : ∀ {j : Nat}, j < rs.length → ∃ r x, atI (rs.map V.ref) (j : Int) = some (.ref r) ∧ RowW K CR H r x := fun {j} hj => by
    have hw : j < wr.length := by rw [← hrw.1]; exact hj
    exact ⟨rs[j], wr[j], at_of (j := j) rfl (by rw [List.getElem?_map, List.getElem?_eq_getElem hj]; rfl), hrw.2 j _ _ (List.getElem?_eq_getElem hj) (List.getElem?_eq_getElem hw)⟩
  refine while_by (fun σ G => G = H ∧ ∃ (a : Int) (v2 : Option V), σ = [some (.ref p), some (.int a), v2] ∧ 0 ≤ a) (fun σ _ => muL rs.length σ) ⟨rfl, a, none, rfl, ha⟩ ?_ ?_
  · rintro σ G ⟨rfl, a, v2, rfl, ha⟩
    refine ⟨_, rfl, _, rfl, p, C, dx, fs, _, rfl, o1, T.cl, T.nz, l2, _, _, rfl, rfl, _, rfl, iteB (fun h1 => ?_) (fun h1 => ?_)⟩
    · have han : a < (rs.length : Int) := of_decide_eq_true h1
      obtain ⟨k, rfl⟩ : ∃ k : Nat, a = (k : Int) := ⟨a.toNat, by omega⟩
      refine ⟨_, rfl, _, rfl, p, C, dx, fs, _, rfl, o1, T.cl, T.nh, l3, he, _, rfl, rget (k := kI k) hh, _, rfl, ?_⟩
      cases hv : valV hk (kI k) with
      | none => exact iteF ⟨_, rfl, q _⟩
      | some v =>
        refine iteT ?_
        obtain ⟨jn, hn, e1, heq, hjn, hhn, hev, hje, hen1⟩ := ok.hh _ (valV_mem hv)
        have ejk : jn = k := by
          have := congrArg Prod.fst heq
          have := Sum.inl.inj this
          omega
        have ev : v = .int (hn : Int) := congrArg Prod.snd heq
        subst ev ejk
        refine ⟨_, rfl, p, C, dx, fs, _, rfl, o1, T.cl, T.nh, l3, _, rfl, he, _, rfl, (show DGet _ _ (kV (kI jn)) (some (.int (hn : Int))) from by rw [← hv]; exact rget hh), ?_⟩
        obtain ⟨r1, x1, at1, dx1, fs1, b1, c1⟩ := rowAt hjn
        obtain ⟨r2, x2, at2, dx2, fs2, b2, c2⟩ := rowAt hhn
        unfold gName tSeq
        dsimp only
        refine if_with (S := fun G' => G' = G) (fun G' hG => ?_) (fun alt => ?_)
        · subst hG
          refine ⟨_, rfl, p, C, dx, fs, _, rfl, o1, T.cl, T.ne, l4, _, rfl, en, _, rfl, (show DGet _ _ (kV (kI hn)) (some (.int (e1 : Int))) from by rw [← hev]; exact rget hen), _, _, rfl, rfl, ⟨rfl, (e1 : Int) + 1, _, rfl, by omega⟩, ?_⟩
          show ((rs.length : Int) - ((e1 : Int) + 1)).toNat < ((rs.length : Int) - (jn : Int)).toNat
          omega
        · refine ⟨_, rfl, p, C, dx, fs, _, rfl, o1, T.cl, T.nr, l1, _, rfl, tr, _, _, _, rfl, rfl, ht, at1, r1, CR, dx1, fs1, _, rfl, b1, R.cl, R.nw, c1, rfl, _, rfl, iteB (fun h3 => ?_) (fun h3 => iteF (alt _ rfl))⟩
          refine ⟨_, rfl, p, C, dx, fs, _, rfl, o1, T.cl, T.nr, l1, _, rfl, tr, _, _, _, rfl, rfl, ht, at2, r2, CR, dx2, fs2, _, rfl, b2, R.cl, R.nw, c2, aL, _, rfl, .inr (cL.s _), rfl, rfl, _, rfl, iteB (fun h4 => ?_) (fun h4 => alt _ rfl)⟩
          exact ⟨_, rfl, q _⟩
    · exact iteF ⟨_, rfl, q _⟩
  · rintro σ G Q1 Q2 h ⟨x1, e1, x2, e2, a1, C1, dx1, fs1, v1, e3, e4, c1, n1, lk, i, j, r1, r2, b, e5, hq⟩
    refine ⟨x1, e1, x2, e2, a1, C1, dx1, fs1, v1, e3, e4, c1, n1, lk, i, j, r1, r2, b, e5, ?_⟩
    cases b with
    | false =>
      have hq' := hq
      exact h _ _ hq'
    | true =>
      obtain ⟨y1, f1, y2, f2, a2, C2, dx2, fs2, v2, f3, f4, c2, n2, lk2, d, ov, f5, g5, b2, f6, hq2⟩ := hq
      exact ⟨y1, f1, y2, f2, a2, C2, dx2, fs2, v2, f3, f4, c2, n2, lk2, d, ov, f5, g5, b2, f6, h _ _ hq2⟩
end
end H2
namespace H2
open PySem PySem.Spec PyProof.Rows L2 Hx Nd Dun
section
variable {P : Program} {w : World} {K : PySem.W.Frag} {mg : Str → Option Value} {base : Heap} {D : Addr}
/-! ### way_past, find_loops -/
def spWP (K : PySem.W.Frag) (C CR : Addr) : Sp := fun vs H Q _ => ∃ (p tr he en : Addr) (rs : List Addr) (wr : List Str) (hk ek : List (Key × V)) (a : Nat), vs = [.ref p, .int (a : Int)] ∧ FlowH K C CR H p tr he en rs wr hk ek ∧ H he = some (.dK hk) ∧ a < rs.length ∧ ∀ H' (v : Int), Same H H' → Q (.int v) H'
/-- what came while a dict was locked -/
theorem same_unlock {H G : Hp} {d : Addr} {od : Obj} {u : HO} (hd : H d = some u) (s : Same (upd H d (.frz od u)) G) : Same H (upd G d u) := fun b o z => by
  by_cases e : b = d
  · subst e
    rw [hd] at z
    cases z
    exact upd_same
  · rw [upd_ne e]
    exact s _ _ (by rw [upd_ne e]; exact z)
theorem ok_wp {C CR fI tt : Addr} {m : Nat → Addr} (T : FlowT K mg C m) (R : RowT K mg CR fI tt) {ld : FuncData} (FL : Fun K "landing" "Flow.landing" s_Flow_landing (m 1) ld) (bL : Binds K ld ["self", "at"] []) (GL : FnOk P w K mg base CX0 1 (m 1) ld ["self", "at"] (spLand K C CR)) :
    ∃ fd, Fun K "way_past" "Flow.way_past" s_Flow_way_past (m 2) fd ∧ Binds K fd ["self", "at"] [] ∧ FnOk P w K mg base CX0 2 (m 2) fd ["self", "at"] (spWP K C CR) := by
  obtain ⟨fd, F, b⟩ := T.f2.fn
  refine ⟨fd, F, b, F.ok c_Flow_way_past (fun vs H Q E h => ?_) (fun cdv A outer s H vs Q E hr h => ?_)⟩
  · obtain ⟨p, tr, he, en, rs, wr, hk, ek, a, rfl, _⟩ := h
    rfl
  obtain ⟨p, tr, he, en, rs, wr, hk, ek, a, rfl, hf, hhe, ha, q⟩ := h
  have hu := hu_of hr
  have hr1 : Room 1 _ := hr.mono (by decide)
  refine ⟨_, pss_cons (ps_if (pt_cmp (pc_dnotin hu (pv 1) (pe_fld (pv 0) rfl))) (pss_one (ps_ret (pe_fld (pv 0) rfl))) pss_nil) <|
    pss_cons (ps_lock (ps_for PassesOwn.never rfl (pi_items (pe_fld (pv 0) rfl)) (pg_tup rfl (pgs_cons (pg_name (i := 2) c_Flow_way_past.nd rfl (Or.inl rfl)) (pgs_cons (pg_name (i := 3) c_Flow_way_past.nd rfl (Or.inl rfl)) pgs_nil)))
      (pss_one (ps_if (PW.pt (pw_and (pt_cmpR op_eq (pv 3) (pv 1) (nomark _)) (pw_and1 (pt_cmpR op_eq (pe_fld (pe_ix ix_tup (pe_fld (pv 0) rfl) (pv 2) (fun _ _ => rfl)) rfl) pe_str (nomark _))))) (pss_one (ps_ret (pe_meth (pv 0) T.cl T.f1.m GL hr1 bL .nil pass0 (pa_cons (pe_op op_add (pv 2) pe_int) pa_nil)))) pss_nil)))) <|
    pss_one (ps_ret (pe_meth (pv 0) T.cl T.f1.m GL hr1 bL .nil pass0 (pa_cons (pe_op op_add (pe_dget hu (pe_fld (pv 0) rfl) (pv 1) (fun _ _ => rfl)) pe_int) pa_nil))), ?_⟩
  obtain ⟨⟨dx, fs, o1, l1, l2, l3, l4, l5, l6, l7⟩, ht, hrw, hh, hen, ok⟩ := id hf
  refine ⟨_, rfl, _, rfl, p, C, dx, fs, _, rfl, o1, T.cl, T.ne, l4, en, _, rfl, rget (k := kI a) hen, _, rfl, ?_⟩
  cases hv : valV ek (kI a) with
  | none =>
    refine iteT ⟨_, rfl, p, C, dx, fs, _, rfl, o1, T.cl, T.nz, l2, q H _ (Same.refl H)⟩
  | some v =>
    refine iteF ?_
    obtain ⟨hn, e1, heq, hhn, he1⟩ := ok.ee _ (valV_mem hv)
    have ev : v = .int (e1 : Int) := congrArg Prod.snd heq
    subst ev
    refine ⟨he, _, hhe, trivial, fun od => ?_⟩
    have hfz := hf.frz hhe od
    refine ⟨_, rfl, p, C, dx, fs, _, rfl, (by rw [upd_ne (ne_of o1 hhe (by intro z; cases z))]; exact o1), T.cl, T.nh, l3, he, od, hk, rfl, upd_same, for_it walk_items (fun i σ G => Same (upd H he (.frz od (.dK hk))) G ∧ ∃ v2 v3 : Option V, σ = [some (.ref p), some (.int (a : Int)), v2, v3]) ⟨Same.refl _, none, none, rfl⟩ ?_ ?_ ?_⟩
    · rintro i σ G _ ⟨sG, _⟩
      exact sG _ _ upd_same
    · rintro i x σ G G' hi ⟨sG, v2, v3, rfl⟩ ⟨Tn, k, v, rfl, nT, rfl, hk1, hk2⟩
      obtain ⟨kv, hkv⟩ : ∃ kv, hk[i]? = some kv := ⟨_, List.getElem?_eq_getElem hi⟩
      dsimp only at hk1 hk2
      rw [hkv] at hk1 hk2
      obtain ⟨jn, hn2, en2, heq2, hj, hh2, hv2, _⟩ := ok.hh _ (List.mem_of_getElem? hkv)
      rw [heq2] at hk1 hk2
      cases hk1
      cases hk2
      have sT := same_new (o := .tup [kV (kI jn), .int (hn2 : Int)]) sG nT
      have hfT := hfz.keep sT
      have eT : (upd G Tn (.tup [kV (kI jn), .int (hn2 : Int)])) Tn = some (.tup [.int (jn : Int), .int (hn2 : Int)]) := upd_same
      generalize upd G Tn (.tup [kV (kI jn), .int (hn2 : Int)]) = G2 at sT hfT eT ⊢
      obtain ⟨⟨dx2, fs2, p1, p2, p3, p4, p5, p6, p7, p8⟩, ht2, hrw2, _, _, _⟩ := id hfT
      refine ⟨Tn, _, rfl, SqT.of eT, rfl, _, _, rfl, _, _, rfl, rfl, ?_⟩
      refine if_with (S := fun G' => G' = G2) (fun G' hG => ?_) (fun alt => ?_)
      · subst hG
        exact ⟨sT, _, _, rfl⟩
      · have hw2 : jn < wr.length := by rw [← hrw2.1]; exact hj
        obtain ⟨dx1, fs1, b1, c1⟩ := hrw2.2 jn _ _ (List.getElem?_eq_getElem hj) (List.getElem?_eq_getElem hw2)
        refine ⟨_, rfl, _, rfl, rfl, _, rfl, iteB (fun h3 => ?_) (fun h3 => iteF (alt _ rfl))⟩
        refine ⟨_, rfl, p, C, dx2, fs2, _, rfl, p1, T.cl, T.nr, p2, _, rfl, tr, _, _, _, rfl, rfl, ht2, at_of (j := jn) rfl (by rw [List.getElem?_map, List.getElem?_eq_getElem hj]; rfl), rs[jn], CR, dx1, fs1, _, rfl, b1, R.cl, R.nw, c1, rfl, _, rfl, iteB (fun h4 => ?_) (fun h4 => alt _ rfl)⟩
        refine ⟨_, rfl, p, dx2, fs2, rfl, p1, p6, _, rfl, _, _, rfl, rfl, p, tr, he, en, rs, wr, hk, ek, (jn : Int) + 1, rfl, hfT, by omega, fun v => ⟨sT _ _ upd_same, q _ _ (same_unlock hhe sT)⟩⟩
    · rintro σ G ⟨sG, v2, v3, rfl⟩
      refine ⟨sG _ _ upd_same, ?_⟩
      have sU := same_unlock hhe sG
      have hfU := hf.keep sU
      generalize upd G he (.dK hk) = G2 at sU hfU ⊢
      obtain ⟨⟨dx2, fs2, p1, p2, p3, p4, p5, p6, p7, p8⟩, _, _, _, hen2, _⟩ := id hfU
      refine ⟨_, rfl, p, dx2, fs2, rfl, p1, p6, _, rfl, p, C, dx2, fs2, _, rfl, p1, T.cl, T.ne, p5, _, rfl, en, _, rfl, (show DGet _ _ (kV (kI a)) (some (.int (e1 : Int))) from by rw [← hv]; exact rget hen2), _, _, rfl, rfl, p, tr, he, en, rs, wr, hk, ek, (e1 : Int) + 1, rfl, hfU, by omega, fun v => q _ _ sU⟩
def spFL (K : PySem.W.Frag) (C CR : Addr) : Sp := fun vs H Q _ => ∃ (p tr he en : Addr) (rs : List Addr) (wr : List Str) (hk ek : List (Key × V)), vs = [.ref p] ∧ FlowH K C CR H p tr he en rs wr hk ek ∧ H en = some (.dK ek) ∧ rs.length ≤ 900 ∧ ∀ H' r xs, Same H H' → H' r = some (.lst xs) → H r = none → xs.length = rs.length → Q (.ref r) H'
theorem ok_fl {C CR fI tt aL : Addr} {m : Nat → Addr} (T : FlowT K mg C m) (R : RowT K mg CR fI tt) (cL : TupT K mg "LOOPS" aL loopsV) (rng : mg "range" = none) :
    ∃ fd, Fun K "find_loops" "Flow.find_loops" s_Flow_find_loops (m 3) fd ∧ Binds K fd ["self"] [] ∧ FnOk P w K mg base CX0 1 (m 3) fd ["self"] (spFL K C CR) := by
  obtain ⟨fd, F, b⟩ := T.f3.fn
  refine ⟨fd, F, b, F.ok c_Flow_find_loops (fun vs H Q E h => ?_) (fun cdv A outer s H vs Q E hr h => ?_)⟩
  · obtain ⟨p, tr, he, en, rs, wr, hk, ek, rfl, _⟩ := h
    rfl
  obtain ⟨p, tr, he, en, rs, wr, hk, ek, rfl, hf, hen0, hlen, q⟩ := h
  refine ⟨_, pss_cons (ps_set (i := 1) c_Flow_find_loops.nd rfl (Or.inl rfl) (pe_op op_rep (pe_lst (pa_cons (pe_un un_neg pe_int) pa_nil)) (pe_fld (pv 0) rfl))) <|
    pss_cons (ps_lock (ps_for PassesOwn.never rfl (pi_items (pe_fld (pv 0) rfl)) (pg_tup rfl (pgs_cons (pg_name (i := 2) c_Flow_find_loops.nd rfl (Or.inl rfl)) (pgs_cons (pg_name (i := 3) c_Flow_find_loops.nd rfl (Or.inl rfl)) pgs_nil)))
      (pss_one (ps_if (pt_cmpR op_in_seq (pe_fld (pe_ix ix_tup (pe_fld (pv 0) rfl) (pv 2) (fun _ _ => rfl)) rfl) (pe_glob (v := .ref aL) rfl cL.g rfl) rfl)
        (pss_one (ps_for PassesOwn.never rfl (pi_range2 rfl rng (pa_cons (pv 2) (pa_cons (pe_op op_add (pv 3) pe_int) pa_nil))) (pg_name (i := 4) c_Flow_find_loops.nd rfl (Or.inl rfl)) (pss_one (ps_asg (pv 2) (pg_sub (pv 1) (pv 4) set_list))))) pss_nil)))) <|
    pss_one (ps_ret (pv 1)), ?_⟩
  obtain ⟨⟨dx, fs, o1, l1, l2, l3, l4, l5, l6, l7⟩, ht, hrw, hh, hen, ok⟩ := id hf
  refine ⟨_, rfl, (by show 1 ≤ sizeLine; decide), fun l0 nl0 => ⟨_, rfl, p, C, dx, fs, _, rfl, (new_same nl0) _ _ o1, T.cl, T.nz, l2, l0, _, _, rfl, rfl, upd_same, by omega, by omega, by rw [Int.toNat_natCast]; exact Nat.le_of_lt (big (by show 1 * _ ≤ _; omega)), fun fo nfo => ?_⟩⟩
  have s0 := new_same (o := .lst [.int (-1)]) nl0
  have s1 := same_new (o := .lst (List.replicate ((rs.length : Nat) : Int).toNat [.int (-1)]).flatten) s0 nfo
  have nfoH := free_same s0 nfo
  have efo : ∃ xs, (upd (upd H l0 (.lst [.int (-1)])) fo (.lst (List.replicate ((rs.length : Nat) : Int).toNat [.int (-1)]).flatten)) fo = some (.lst xs) ∧ xs.length = rs.length := ⟨_, upd_same, by simp⟩
  have hf1 := hf.keep s1
  have hen1 := s1 _ _ hen0
  have o1' := s1 _ _ o1
  have hno : fo ≠ en := fun z => by rw [z, hen0] at nfoH; cases nfoH
  obtain ⟨xs0, ex0, hx0⟩ := efo
  generalize upd (upd H l0 (.lst [.int (-1)])) fo (.lst (List.replicate ((rs.length : Nat) : Int).toNat [.int (-1)]).flatten) = G1 at s1 hf1 hen1 o1' ex0 ⊢
  refine ⟨en, _, hen1, trivial, fun od => ?_⟩
  have hfz := hf.frz hen0 od
  have sB : Same (upd H en (.frz od (.dK ek))) (upd G1 en (.frz od (.dK ek))) := fun b o z => by
    by_cases e : b = en
    · subst e
      rw [upd_same] at z ⊢
      exact z
    · rw [upd_ne e] at z ⊢
      exact s1 _ _ z
  have nfoB : (upd H en (.frz od (.dK ek))) fo = none := by rw [upd_ne hno]; exact nfoH
  refine ⟨_, rfl, p, C, dx, fs, _, rfl, (by rw [upd_ne (ne_of o1' hen1 (by intro z; cases z))]; exact o1'), T.cl, T.ne, l4, en, od, ek, rfl, upd_same, for_it walk_items (fun i σ G => Same (upd H en (.frz od (.dK ek))) G ∧ (∃ xs, G fo = some (.lst xs) ∧ xs.length = rs.length) ∧ ∃ v2 v3 v4 : Option V, σ = [some (.ref p), some (.ref fo), v2, v3, v4]) ⟨sB, ⟨xs0, by rw [upd_ne hno]; exact ex0, hx0⟩, none, none, none, rfl⟩ ?_ ?_ ?_⟩
  · rintro i σ G _ ⟨sG, _⟩
    exact sG _ _ upd_same
  · rintro i x σ G G' hi ⟨sG, ⟨xs, ex, hx⟩, v2, v3, v4, rfl⟩ ⟨Tn, k, v, rfl, nT, rfl, hk1, hk2⟩
    obtain ⟨kv, hkv⟩ : ∃ kv, ek[i]? = some kv := ⟨_, List.getElem?_eq_getElem hi⟩
    dsimp only at hk1 hk2
    rw [hkv] at hk1 hk2
    obtain ⟨hn, e1, heq, hhn, he1⟩ := ok.ee _ (List.mem_of_getElem? hkv)
    rw [heq] at hk1 hk2
    cases hk1
    cases hk2
    have sT := same_new (o := .tup [kV (kI hn), .int (e1 : Int)]) sG nT
    have hfT := hfz.keep sT
    have eT : (upd G Tn (.tup [kV (kI hn), .int (e1 : Int)])) Tn = some (.tup [.int (hn : Int), .int (e1 : Int)]) := upd_same
    have exT := (new_same (o := .tup [kV (kI hn), .int (e1 : Int)]) nT) _ _ ex
    generalize upd G Tn (.tup [kV (kI hn), .int (e1 : Int)]) = G2 at sT hfT eT exT ⊢
    obtain ⟨⟨dx2, fs2, p1, p2, p3, p4, p5, p6, p7, p8⟩, ht2, hrw2, _, _, _⟩ := id hfT
    refine ⟨Tn, _, rfl, SqT.of eT, rfl, _, _, rfl, _, _, rfl, rfl, ?_⟩
    have hw2 : hn < wr.length := by rw [← hrw2.1]; exact hhn
    obtain ⟨dx1, fs1, b1, c1⟩ := hrw2.2 hn _ _ (List.getElem?_eq_getElem hhn) (List.getElem?_eq_getElem hw2)
    refine ⟨_, rfl, p, C, dx2, fs2, _, rfl, p1, T.cl, T.nr, p2, _, rfl, tr, _, _, _, rfl, rfl, ht2, at_of (j := hn) rfl (by rw [List.getElem?_map, List.getElem?_eq_getElem hhn]; rfl), rs[hn], CR, dx1, fs1, _, rfl, b1, R.cl, R.nw, c1, aL, _, rfl, .inr (cL.s _), rfl, rfl, _, rfl, iteB (fun h3 => ?_) (fun h3 => ?_)⟩
    · refine ⟨_, rfl, _, rfl, _, _, rfl, rfl, (hn : Int), (e1 : Int) + 1, rfl, ⟨by omega, by omega, by omega, by omega⟩, for_range (lo := (hn : Int)) (n := ((e1 : Int) + 1 - (hn : Int)).toNat) (fun j σ G3 => Same (upd H en (.frz od (.dK ek))) G3 ∧ (∃ xs, G3 fo = some (.lst xs) ∧ xs.length = rs.length) ∧ ∃ v4 : Option V, σ = [some (.ref p), some (.ref fo), some (.int (hn : Int)), some (.int (e1 : Int)), v4]) ⟨sT, ⟨xs, exT, hx⟩, v4, rfl⟩ ?_ ?_⟩
      · rintro j σ G3 hj ⟨s3, ⟨ys, ey, hy⟩, v4, rfl⟩
        refine ⟨_, rfl, _, rfl, _, rfl, fo, ys, (hn : Int) + (j : Int), hn + j, rfl, rfl, ey, ?_, same_out s3 nfoB, ⟨_, upd_same, by rw [List.length_set]; exact hy⟩, _, rfl⟩
        unfold ixN
        rw [if_pos (by omega), if_pos (by omega)]
        congr 1
      · rintro σ G3 ⟨s3, ys, v4, rfl⟩
        exact ⟨s3, ys, _, _, _, rfl⟩
    · exact ⟨sT, ⟨xs, exT, hx⟩, _, _, _, rfl⟩
  · rintro σ G ⟨sG, ⟨xs, ex, hx⟩, v2, v3, v4, rfl⟩
    exact ⟨sG _ _ upd_same, _, rfl, q _ fo xs (same_unlock hen0 sG) (by rw [upd_ne hno]; exact ex) nfoH hx⟩
end
end H2
namespace H2
open PySem PySem.Spec PyProof.Rows L2 Hx Nd Dun
section
variable {P : Program} {w : World} {K : PySem.W.Frag} {mg : Str → Option Value} {base : Heap} {D : Addr}
/-! ### Flow.__init__ -/
def spFlow (K : PySem.W.Frag) (C CR : Addr) : Sp := fun vs H Q _ => ∃ (p l dx : Addr) (rs : List Addr) (wr : List Str), vs = [.ref p, .ref l] ∧ H p = some (.ins C dx []) ∧ H l = some (.lst (rs.map V.ref)) ∧ RowsW K CR H rs wr ∧ wr.length ≤ 900 ∧ balF 0 wr = some 0 ∧
  ∀ H', But p H H' → (∃ dx' fs, H' p = some (.ins C dx' fs)) → Q .non H'
def flowF (tr : Addr) (n : Nat) (he en : Addr) (r : List (Str × V)) : List (Str × V) := ("rows", .ref tr) :: ("size", .int (n : Int)) :: ("heads", .ref he) :: ("ends", .ref en) :: r
theorem sqt_ins {H : Hp} {p t : Addr} {C dx : Addr} {fs : List (Str × V)} {o : HO} {xs : List V} (hp : H p = some (.ins C dx fs)) (h : SqT K H t xs) : SqT K (upd H p o) t xs := sqt_tups (Nd.Tups.upd fun xs r => by
  rcases r with r | ⟨z, r⟩
  · rw [hp] at r; cases r
  · rw [hp] at r; cases r) h
/-- the object gets one field more -/
theorem FlowH.set {C CR p tr he en : Addr} {rs : List Addr} {wr : List Str} {hk ek : List (Key × V)} {G : Hp} {dx : Addr} {fs fs' : List (Str × V)} (h : FlowH K C CR G p tr he en rs wr hk ek) (hp : G p = some (.ins C dx fs)) (hnp : ∀ r ∈ rs, r ≠ p)
    (l1 : fs'.lookup ("rows" : Str) = some (V.ref tr)) (l2 : fs'.lookup ("size" : Str) = some (V.int (rs.length : Nat))) (l3 : fs'.lookup ("heads" : Str) = some (V.ref he)) (l4 : fs'.lookup ("ends" : Str) = some (V.ref en))
    (l5 : fs'.lookup ("landing" : Str) = none) (l6 : fs'.lookup ("way_past" : Str) = none) (l7 : fs'.lookup ("find_loops" : Str) = none) : FlowH K C CR (upd G p (.ins C dx fs')) p tr he en rs wr hk ek := by
  have rd : ∀ {a : Addr} {ys : List (Key × V)}, Rd G a (.dK ys) → Rd (upd G p (.ins C dx fs')) a (.dK ys) := fun {a ys} r => by
    rcases r with r | ⟨o, r⟩
    · exact .inl (by rw [upd_ne (ne_of r hp (by intro z; cases z))]; exact r)
    · exact .inr ⟨o, by rw [upd_ne (ne_of r hp (by intro z; cases z))]; exact r⟩
  refine ⟨⟨dx, fs', upd_same, l1, l2, l3, l4, l5, l6, l7⟩, sqt_ins hp h.t, ⟨h.r.1, fun i a x e1 e2 => ?_⟩, rd h.h, rd h.e, h.ok⟩
  obtain ⟨dx', fs2, a1, a2⟩ := h.r.2 i a x e1 e2
  exact ⟨dx', fs2, by rw [upd_ne (hnp a (List.mem_of_getElem? e1))]; exact a1, a2⟩
theorem ok_Flow {C CR fI tt aL gM : Addr} {m : Nat → Addr} (T : FlowT K mg C m) (R : RowT K mg CR fI tt) (cL : TupT K mg "LOOPS" aL loopsV) (rng : mg "range" = none) (len : mg "len" = none) (tup : mg "tuple" = none)
    {md : FuncData} (FM : Fun K "match_blocks" "match_blocks" s_match_blocks gM md) (bM : Binds K md ["rows"] []) (mM : mg "match_blocks" = some (.ref gM)) (GM : FnOk P w K mg base CX0 1 gM md ["rows"] (spMB K CR)) :
    ∃ fd, Fun K "__init__" "Flow.__init__" s_Flow_init (m 0) fd ∧ Binds K fd ["self", "rows"] [] ∧ FnOk P w K mg base CX0 3 (m 0) fd ["self", "rows"] (spFlow K C CR) := by
  obtain ⟨ld, FL, bL, GL⟩ := ok_landing (P := P) (w := w) (base := base) T R cL
  obtain ⟨wd, FW, bW, GW⟩ := ok_wp (P := P) (w := w) (base := base) T R FL bL GL
  obtain ⟨od, FO, bO, GO⟩ := ok_fl (P := P) (w := w) (base := base) T R cL rng
  obtain ⟨fd, F, b⟩ := T.f0
  refine ⟨fd, F, b, F.ok c_Flow_init (fun vs H Q E h => ?_) (fun cdv A outer s H vs Q E hr h => ?_)⟩
  · obtain ⟨p, l, dx, rs, wr, rfl, _⟩ := h
    rfl
  obtain ⟨p, l, dx, rs, wr, rfl, hp, hl, hrw, hlen, hbal, q⟩ := h
  refine ⟨_, pss_cons (ps_fld (pv 0) (pe_callTy call_tuple_of (by rfl) tup (by decide +kernel) (pa_cons (pv 1) pa_nil)) rfl) <|
    pss_cons (ps_fld (pv 0) (pe_callB (call_len_seq) (by rfl) len PySem.boot_len (pa_cons (pe_fld (pv 0) rfl) pa_nil)) rfl) <|
    pss_cons (ps_asg (pe_call GM (hr.mono (by decide)) rfl mM FM.kp bM .nil pass0 (pa_cons (pe_fld (pv 0) rfl) pa_nil)) (pg_tup rfl (pgs_cons (Nd.pg_fld (pv 0)) (pgs_cons (Nd.pg_fld (pv 0)) pgs_nil)))) <|
    pss_cons (ps_fld (pv 0) (pe_callTy call_tuple_of (by rfl) tup (by decide +kernel) (pa_cons (pe_lc (own := [("at", 2)]) (g := gName 2) (tt := tYes) rfl c_Flow_init.nd (pi_range1 rfl rng (pa_cons (pe_fld (pv 0) rfl) pa_nil)) (blkOk_by (own := [("at", 2)]) (N := n_Flow_init) (sc := defScope s_Flow_init) (by decide +kernel))
        (fun _ _ _ _ _ => pg_name (i := 2) c_Flow_init.nd rfl (Or.inl rfl)) (fun _ _ _ _ _ => pts_nil) (fun _ _ _ _ _ => pe_meth (pv 0) T.cl T.f1.m GL (hr.mono (by decide)) bL .nil pass0 (pa_cons (pe_op op_add (pv 2) pe_int) pa_nil))) pa_nil)) rfl) <|
    pss_cons (ps_fld (pv 0) (pe_callTy call_tuple_of (by rfl) tup (by decide +kernel) (pa_cons (pe_lc (own := [("at", 2)]) (g := gName 2) (tt := tYes) rfl c_Flow_init.nd (pi_range1 rfl rng (pa_cons (pe_fld (pv 0) rfl) pa_nil)) (blkOk_by (own := [("at", 2)]) (N := n_Flow_init) (sc := defScope s_Flow_init) (by decide +kernel))
        (fun _ _ _ _ _ => pg_name (i := 2) c_Flow_init.nd rfl (Or.inl rfl)) (fun _ _ _ _ _ => pts_nil) (fun _ _ _ _ _ => pe_meth (pv 0) T.cl T.f2.m GW (hr.mono (by decide)) bW .nil pass0 (pa_cons (pv 2) pa_nil))) pa_nil)) rfl) <|
    pss_one (ps_fld (pv 0) (pe_callTy call_tuple_of (by rfl) tup (by decide +kernel) (pa_cons (pe_meth0 (pv 0) T.cl T.f3.m GO (hr.mono (by decide)) bO .nil pass0) pa_nil)) rfl), ?_⟩
  have hnp : ∀ r ∈ rs, r ≠ p := fun r hr z => by
    subst z
    obtain ⟨i, hi⟩ := List.getElem?_of_mem hr
    have hw : i < wr.length := by rw [← hrw.1]; exact (List.getElem?_eq_some_iff.mp hi).1
    obtain ⟨dx', fs', a1, a2⟩ := hrw.2 i r _ hi (List.getElem?_eq_getElem hw)
    rw [hp] at a1
    cases a1
    cases a2
  have npl : l ≠ p := ne_of hl hp (by intro z; cases z)
  refine ⟨_, rfl, l, _, rfl, .inl ⟨SqL.of hl, fun tr ntr => ⟨_, rfl, p, C, dx, [], rfl, (new_same ntr) _ _ hp, T.cl, T.nr, (by show 0 < 1000; decide), ?_⟩⟩⟩
  have ntrp : tr ≠ p := (ne_of_none hp ntr).symm
  have htr : SqT K (upd (upd H tr (.tup (rs.map V.ref))) p (.ins C dx (putF "rows" (.ref tr) []))) tr (rs.map V.ref) := SqT.of (by rw [upd_ne ntrp, upd_same])
  refine ⟨_, rfl, p, C, dx, _, _, rfl, upd_same, T.cl, T.nr, rfl, tr, _, rfl, .inr htr, _, rfl, p, C, dx, _, rfl, upd_same, T.cl, T.nz, (by show 1 < 1000; decide), ?_⟩
  rw [upd_upd, List.length_map]
  have b3 : But p H (upd (upd H tr (.tup (rs.map V.ref))) p (.ins C dx (putF "size" (.int (rs.length : Nat)) (putF "rows" (.ref tr) [])))) := (Same.but (new_same ntr)).trans But.upd
  have htr3 : SqT K (upd (upd H tr (.tup (rs.map V.ref))) p (.ins C dx (putF "size" (.int (rs.length : Nat)) (putF "rows" (.ref tr) [])))) tr (rs.map V.ref) := SqT.of (by rw [upd_ne ntrp, upd_same])
  have hrw3 : RowsW K CR (upd (upd H tr (.tup (rs.map V.ref))) p (.ins C dx (putF "size" (.int (rs.length : Nat)) (putF "rows" (.ref tr) [])))) rs wr := ⟨hrw.1, fun i a x e1 e2 => by
    obtain ⟨dx', fs', a1, a2⟩ := hrw.2 i a x e1 e2
    exact ⟨dx', fs', b3 _ _ (hnp a (List.mem_of_getElem? e1)) a1, a2⟩⟩
  have hp3 : (upd (upd H tr (.tup (rs.map V.ref))) p (.ins C dx (putF "size" (.int (rs.length : Nat)) (putF "rows" (.ref tr) [])))) p = some (.ins C dx [("rows", .ref tr), ("size", .int (rs.length : Nat))]) := upd_same
  generalize upd (upd H tr (.tup (rs.map V.ref))) p (.ins C dx (putF "size" (.int (rs.length : Nat)) (putF "rows" (.ref tr) []))) = H3 at b3 htr3 hrw3 hp3 ⊢
  refine ⟨_, rfl, p, C, dx, _, _, rfl, hp3, T.cl, T.nr, rfl, tr, rs, wr, rfl, htr3, hrw3, hlen, hbal, fun H4 t' he en hk ek s4 ht' ehe een hne nhe nen hok => ?_⟩
  have hp4 := s4 _ _ hp3
  have nhep : he ≠ p := (ne_of_none hp3 nhe).symm
  have nenp : en ≠ p := (ne_of_none hp3 nen).symm
  refine ⟨t', _, rfl, ht', rfl, _, _, rfl, _, rfl, p, C, dx, _, rfl, hp4, T.cl, T.nh, (by show 2 < 1000; decide), _, _, rfl, _, rfl, p, C, dx, _, rfl, upd_same, T.cl, T.ne, (by show 3 < 1000; decide), rfl, ?_⟩
  rw [upd_upd]
  have f5 : FlowH K C CR (upd H4 p (.ins C dx (putF "ends" (.ref en) (putF "heads" (.ref he) [("rows", .ref tr), ("size", .int (rs.length : Nat))])))) p tr he en rs wr hk ek :=
    ⟨⟨dx, _, upd_same, rfl, rfl, rfl, rfl, rfl, rfl, rfl⟩, sqt_ins hp4 (sqt_same s4 htr3), ⟨hrw3.1, fun i a x e1 e2 => by
      obtain ⟨dx', fs', a1, a2⟩ := (hrw3.keep s4).2 i a x e1 e2
      exact ⟨dx', fs', by rw [upd_ne (hnp a (List.mem_of_getElem? e1))]; exact a1, a2⟩⟩, .inl (by rw [upd_ne nhep]; exact ehe), .inl (by rw [upd_ne nenp]; exact een), hok⟩
  have b5 : But p H (upd H4 p (.ins C dx (putF "ends" (.ref en) (putF "heads" (.ref he) [("rows", .ref tr), ("size", .int (rs.length : Nat))])))) := (b3.trans (Same.but s4)).trans But.upd
  have he5 : (upd H4 p (.ins C dx (putF "ends" (.ref en) (putF "heads" (.ref he) [("rows", .ref tr), ("size", .int (rs.length : Nat))])))) he = some (.dK hk) := by rw [upd_ne nhep]; exact ehe
  have en5 : (upd H4 p (.ins C dx (putF "ends" (.ref en) (putF "heads" (.ref he) [("rows", .ref tr), ("size", .int (rs.length : Nat))])))) en = some (.dK ek) := by rw [upd_ne nenp]; exact een
  have hp5 : (upd H4 p (.ins C dx (putF "ends" (.ref en) (putF "heads" (.ref he) [("rows", .ref tr), ("size", .int (rs.length : Nat))])))) p = some (.ins C dx (flowF tr rs.length he en [])) := upd_same
  generalize upd H4 p (.ins C dx (putF "ends" (.ref en) (putF "heads" (.ref he) [("rows", .ref tr), ("size", .int (rs.length : Nat))]))) = H5 at f5 b5 he5 en5 hp5 ⊢
  have hrl : rs.length ≤ 900 := by rw [hrw.1]; exact hlen
  -- after
  refine ⟨_, rfl, p, C, dx, _, _, rfl, hp5, T.cl, T.nz, rfl, _, rfl, by omega, by omega, fun D nD => ?_⟩
  rw [Int.toNat_natCast]
  refine lc_range (lo := 0) (n := rs.length) (fun i G => Same H5 G ∧ ∃ acc, G D = some (.lst acc) ∧ acc.length = i) ⟨new_same nD, [], upd_same, rfl⟩ ?_ ?_
  · rintro i G hi ⟨sG, acc, eD, hacc⟩
    refine ⟨rfl, ?_⟩
    unfold tYes
    dsimp only
    rw [if_pos rfl]
    refine ⟨_, rfl, p, dx, _, rfl, sG _ _ hp5, rfl, _, rfl, _, _, rfl, rfl, p, tr, he, en, rs, wr, hk, ek, _, rfl, f5.keep sG, by omega, fun v => ⟨acc, eD, big (by omega), same_out sG nD, _, upd_same, by rw [List.length_append, hacc]; rfl⟩⟩
  rintro G6 ⟨s6, acc6, eD6, _⟩
  refine ⟨D, _, rfl, .inl ⟨SqL.of eD6, fun ta nta => ?_⟩⟩
  have s6a := same_new (o := .tup acc6) s6 nta
  have hp6 := s6a _ _ hp5
  refine ⟨_, rfl, p, C, dx, _, rfl, hp6, T.cl, T.na, (by show 4 < 1000; decide), ?_⟩
  have f7 : FlowH K C CR (upd (upd G6 ta (.tup acc6)) p (.ins C dx (putF "after" (.ref ta) (flowF tr rs.length he en [])))) p tr he en rs wr hk ek := (f5.keep s6a).set hp6 hnp rfl rfl rfl rfl rfl rfl rfl
  have b7 : But p H (upd (upd G6 ta (.tup acc6)) p (.ins C dx (putF "after" (.ref ta) (flowF tr rs.length he en [])))) := (b5.trans (Same.but s6a)).trans But.upd
  have he7 : (upd (upd G6 ta (.tup acc6)) p (.ins C dx (putF "after" (.ref ta) (flowF tr rs.length he en [])))) he = some (.dK hk) := by rw [upd_ne nhep]; exact s6a _ _ he5
  have en7 : (upd (upd G6 ta (.tup acc6)) p (.ins C dx (putF "after" (.ref ta) (flowF tr rs.length he en [])))) en = some (.dK ek) := by rw [upd_ne nenp]; exact s6a _ _ en5
  have hp7 : (upd (upd G6 ta (.tup acc6)) p (.ins C dx (putF "after" (.ref ta) (flowF tr rs.length he en [])))) p = some (.ins C dx (flowF tr rs.length he en [("after", .ref ta)])) := upd_same
  generalize upd (upd G6 ta (.tup acc6)) p (.ins C dx (putF "after" (.ref ta) (flowF tr rs.length he en []))) = H7 at f7 b7 he7 en7 hp7 ⊢
  -- other
  refine ⟨_, rfl, p, C, dx, _, _, rfl, hp7, T.cl, T.nz, rfl, _, rfl, by omega, by omega, fun D2 nD2 => ?_⟩
  rw [Int.toNat_natCast]
  refine lc_range (lo := 0) (n := rs.length) (fun i G => Same H7 G ∧ ∃ acc, G D2 = some (.lst acc) ∧ acc.length = i) ⟨new_same nD2, [], upd_same, rfl⟩ ?_ ?_
  · rintro i G hi ⟨sG, acc, eD, hacc⟩
    refine ⟨rfl, ?_⟩
    unfold tYes
    dsimp only
    rw [if_pos rfl]
    refine ⟨_, rfl, p, dx, _, rfl, sG _ _ hp7, rfl, _, rfl, p, tr, he, en, rs, wr, hk, ek, i, by rw [Int.zero_add]; rfl, f7.keep sG, sG _ _ he7, hi, fun G2 v s2 => ⟨acc, s2 _ _ eD, big (by omega), same_out (fun c o z => s2 _ _ (sG _ _ z)) nD2, _, upd_same, by rw [List.length_append, hacc]; rfl⟩⟩
  rintro G8 ⟨s8, acc8, eD8, _⟩
  refine ⟨D2, _, rfl, .inl ⟨SqL.of eD8, fun tb ntb => ?_⟩⟩
  have s8a := same_new (o := .tup acc8) s8 ntb
  have hp8 := s8a _ _ hp7
  refine ⟨_, rfl, p, C, dx, _, rfl, hp8, T.cl, T.no, (by show 5 < 1000; decide), ?_⟩
  have f9 : FlowH K C CR (upd (upd G8 tb (.tup acc8)) p (.ins C dx (putF "other" (.ref tb) (flowF tr rs.length he en [("after", .ref ta)])))) p tr he en rs wr hk ek := (f7.keep s8a).set hp8 hnp rfl rfl rfl rfl rfl rfl rfl
  have b9 : But p H (upd (upd G8 tb (.tup acc8)) p (.ins C dx (putF "other" (.ref tb) (flowF tr rs.length he en [("after", .ref ta)])))) := (b7.trans (Same.but s8a)).trans But.upd
  have en9 : (upd (upd G8 tb (.tup acc8)) p (.ins C dx (putF "other" (.ref tb) (flowF tr rs.length he en [("after", .ref ta)])))) en = some (.dK ek) := by rw [upd_ne nenp]; exact s8a _ _ en7
  have hp9 : (upd (upd G8 tb (.tup acc8)) p (.ins C dx (putF "other" (.ref tb) (flowF tr rs.length he en [("after", .ref ta)])))) p = some (.ins C dx (flowF tr rs.length he en [("after", .ref ta), ("other", .ref tb)])) := upd_same
  generalize upd (upd G8 tb (.tup acc8)) p (.ins C dx (putF "other" (.ref tb) (flowF tr rs.length he en [("after", .ref ta)]))) = H9 at f9 b9 en9 hp9 ⊢
  refine ⟨_, rfl, p, dx, _, rfl, hp9, rfl, p, tr, he, en, rs, wr, hk, ek, rfl, f9, en9, hrl, fun G10 r xs s10 er nr hx => ?_⟩
  refine ⟨r, _, rfl, .inl ⟨SqL.of er, fun tc ntc => ?_⟩⟩
  have s11 := same_new (o := .tup xs) s10 ntc
  exact ⟨_, rfl, p, C, dx, _, rfl, s11 _ _ hp9, T.cl, T.nl, (by show 6 < 1000; decide), q _ ((b9.trans (Same.but s11)).trans But.upd) ⟨dx, _, upd_same⟩⟩
end
end H2
namespace H2
open PySem PySem.Spec PyProof.Rows L2 Hx Nd Dun
section
variable {P : Program} {w : World} {K : PySem.W.Frag} {mg : Str → Option Value} {base : Heap} {D : Addr}
/-! ### items as trees -/
/-- the list of tuples at these addresses -/
def ItA (H : Hp) (as : List Addr) (its : List (Int × Int)) : Prop := as.length = its.length ∧ ∀ (i : Nat) (a : Addr) (p : Int × Int), as[i]? = some a → its[i]? = some p → H a = some (.tup [.int p.1, .int p.2])
theorem ItA.keep {H H' : Hp} {as : List Addr} {its : List (Int × Int)} (h : ItA H as its) (e : Same H H') : ItA H' as its := ⟨h.1, fun i a p h1 h2 => e _ _ (h.2 i a p h1 h2)⟩
theorem ItA.but {H H' : Hp} {q : Addr} {as : List Addr} {its : List (Int × Int)} (h : ItA H as its) (e : But q H H') (hq : ∀ xs, H q ≠ some (.tup xs)) : ItA H' as its := ⟨h.1, fun i a p h1 h2 => e _ _ (fun z => hq _ (by rw [← z]; exact h.2 i a p h1 h2)) (h.2 i a p h1 h2)⟩
def itV (as : List Addr) : List V := as.map V.ref
/-- the key at a place -/
def kyA (its : List (Int × Int)) (i : Nat) : Int := (its.getD i (0, 0)).1
def mkA (its : List (Int × Int)) (i : Nat) : Int := (its.getD i (0, 0)).2
theorem ItA.at {H : Hp} {as : List Addr} {its : List (Int × Int)} (h : ItA H as its) {i : Nat} (hi : i < its.length) : ∃ a, atI (itV as) (i : Int) = some (.ref a) ∧ as[i]? = some a ∧ H a = some (.tup [.int (kyA its i), .int (mkA its i)]) := by
  have h1 : i < as.length := by rw [h.1]; exact hi
  refine ⟨as[i], at_of (j := i) rfl (by unfold itV; rw [List.getElem?_map, List.getElem?_eq_getElem h1]; rfl), List.getElem?_eq_getElem h1, ?_⟩
  have h2 := h.2 i _ (its[i]) (List.getElem?_eq_getElem h1) (List.getElem?_eq_getElem hi)
  unfold kyA mkA
  rw [List.getD_eq_getElem?_getD, List.getElem?_eq_getElem hi]
  exact h2
def paN (w i : Nat) : Nat := (i - 1) / w
theorem paN_lt {w i : Nat} (hi : 0 < i) : paN w i < i := by
  unfold paN
  exact Nat.lt_of_le_of_lt (Nat.div_le_self _ _) (by omega)
theorem pa_fdiv {w i : Nat} (hi : 0 < i) : Int.fdiv ((i : Int) - 1) (w : Int) = ((paN w i : Nat) : Int) := by
  unfold paN
  have : ((i : Int) - 1) = ((i - 1 : Nat) : Int) := by omega
  rw [this, Int.fdiv_eq_ediv_of_nonneg _ (by omega)]
  rfl
/-- the widths -/
def WdN (w : Nat) : Prop := w = 2 ∨ w = 3 ∨ w = 4
abbrev psPW : List Str := ["place", "width"]
def spParent : Sp := fun vs H Q _ => ∃ (i w : Nat), vs = [.int (i : Int), .int (w : Int)] ∧ WdN w ∧ Q (if i = 0 then .non else .int (paN w i : Nat)) H
theorem ok_parent {f : Addr} (T0 : FT K mg "parent" s_parent psPW f) : ∃ fd, Fun K "parent" "parent" s_parent f fd ∧ Binds K fd psPW [] ∧ FnOk P w K mg base CX0 1 f fd psPW spParent := by
  obtain ⟨fd, F, b⟩ := T0.fn
  refine ⟨fd, F, b, F.ok c_parent (fun vs H Q E h => ?_) (fun cdv A outer s H vs Q E hr h => ?_)⟩
  · obtain ⟨i, w, rfl, _⟩ := h
    rfl
  obtain ⟨i, w, rfl, hw, q⟩ := h
  refine ⟨_, pss_cons (ps_if (pt_cmpR op_eq (pv 0) pe_int (nomark _)) (pss_one (ps_ret pe_non)) pss_nil) <|
    pss_one (ps_ret (pe_op op_fdivN (pe_op op_sub (pv 0) pe_int) (pv 1))), ?_⟩
  refine ⟨_, rfl, rfl, _, rfl, iteB (fun h0 => ?_) (fun h0 => ?_)⟩
  · have h1 : i = 0 := by
      have := of_decide_eq_true h0
      injection this with h2
      omega
    rw [if_pos h1] at q
    exact q
  · have h1 : ¬ i = 0 := fun z => by
      rw [z] at h0
      exact absurd h0 (by decide)
    rw [if_neg h1] at q
    refine ⟨_, rfl, _, _, rfl, rfl, _, rfl, _, _, rfl, rfl, ⟨by rcases hw with rfl | rfl | rfl <;> decide, by rcases hw with rfl | rfl | rfl <;> decide⟩, ?_⟩
    dsimp only
    rw [pa_fdiv (by omega)]
    exact q
/-- less than at the parent -/
def ftB (its : List (Int × Int)) (w i : Nat) : Bool := decide (kyA its i < kyA its (paN w i))
abbrev psIW : List Str := ["items", "width"]
def NoFt (its : List (Int × Int)) (w n : Nat) : Prop := ∀ i, 0 < i → i < n → ftB its w i = false
def spFF (K : PySem.W.Frag) : Sp := fun vs H Q _ => ∃ (l : Addr) (as : List Addr) (its : List (Int × Int)) (w : Nat), vs = [.ref l, .int (w : Int)] ∧ SqL K H l (itV as) ∧ ItA H as its ∧ WdN w ∧ its.length ≤ 900 ∧ ∀ v, ((v = .non ∧ NoFt its w its.length) ∨ ∃ i : Nat, v = .int (i : Int) ∧ 0 < i ∧ i < its.length ∧ ftB its w i = true) → Q v H
theorem itV_len {as : List Addr} {its : List (Int × Int)} {H : Hp} (h : ItA H as its) : (itV as).length = its.length := by unfold itV; rw [List.length_map]; exact h.1
theorem ok_ff {f g : Addr} (T0 : FT K mg "first_fault" s_first_fault psIW f) (rng : mg "range" = none) (len : mg "len" = none) {gd : FuncData} (FP : Fun K "parent" "parent" s_parent g gd) (bP : Binds K gd psPW []) (mP : mg "parent" = some (.ref g)) (GP : FnOk P w K mg base CX0 1 g gd psPW spParent) :
    ∃ fd, Fun K "first_fault" "first_fault" s_first_fault f fd ∧ Binds K fd psIW [] ∧ FnOk P w K mg base CX0 2 f fd psIW (spFF K) := by
  obtain ⟨fd, F, b⟩ := T0.fn
  refine ⟨fd, F, b, F.ok c_first_fault (fun vs H Q E h => ?_) (fun cdv A outer s H vs Q E hr h => ?_)⟩
  · obtain ⟨l, as, its, w, rfl, _⟩ := h
    rfl
  obtain ⟨l, as, its, w, rfl, hl, ha, hw, hn, q⟩ := h
  refine ⟨_, pss_cons (ps_for PassesOwn.never rfl (pi_range2 rfl rng (pa_cons pe_int (pa_cons (pe_callB call_len_seq (by rfl) len PySem.boot_len (pa_cons (pv 0) pa_nil)) pa_nil))) (pg_name (i := 2) c_first_fault.nd rfl (Or.inl rfl))
      (pss_one (ps_if (pt_cmpR op_lt (pe_ix ix_tup (pe_ix ix_list (pv 0) (pv 2) (fun _ _ => rfl)) pe_int (fun _ _ => rfl)) (pe_ix ix_tup (pe_ix ix_list (pv 0) (pe_call GP hr rfl mP FP.kp bP .nil pass0 (pa_cons (pv 2) (pa_cons (pv 1) pa_nil))) (fun _ _ => rfl)) pe_int (fun _ _ => rfl)) (nomark _)) (pss_one (ps_ret (pv 2))) pss_nil))) <|
    pss_one (ps_ret pe_non), ?_⟩
  refine ⟨_, rfl, l, _, rfl, .inl hl, 1, ((itV as).length : Nat), rfl, ⟨by decide, by decide, by rw [itV_len ha]; omega, by rw [itV_len ha]; omega⟩, ?_⟩
  rw [itV_len ha]
  refine for_range (lo := 1) (n := (((its.length : Nat) : Int) - 1).toNat) (fun i σ G => G = H ∧ NoFt its w (1 + i) ∧ ∃ v2, σ = [some (.ref l), some (.int (w : Int)), v2]) ⟨rfl, fun i h0 h1 => by omega, none, rfl⟩ ?_ ?_
  · rintro i σ G hi ⟨rfl, hf, v2, rfl⟩
    have h1 : (1 : Int) + (i : Int) = ((1 + i : Nat) : Int) := by omega
    rw [h1]
    obtain ⟨a, e1, _, e2⟩ := ha.at (i := 1 + i) (by omega)
    obtain ⟨c, e3, _, e4⟩ := ha.at (i := paN w (1 + i)) (Nat.lt_trans (paN_lt (by omega)) (by omega))
    refine ⟨_, rfl, _, rfl, l, _, _, _, rfl, rfl, hl, e1, a, _, _, _, rfl, rfl, SqT.of e2, rfl, ?_⟩
    refine ⟨_, rfl, _, rfl, _, rfl, 1 + i, w, rfl, hw, ?_⟩
    rw [if_neg (by omega)]
    refine ⟨l, _, _, _, rfl, rfl, hl, e3, c, _, _, _, rfl, rfl, SqT.of e4, rfl, ?_⟩
    refine ⟨_, _, rfl, rfl, _, rfl, iteB (fun h2 => ?_) (fun h2 => ?_)⟩
    · exact ⟨_, rfl, q _ (.inr ⟨1 + i, rfl, by omega, by omega, h2⟩)⟩
    · refine ⟨rfl, fun j h0 hj => ?_, _, rfl⟩
      by_cases e : j = 1 + i
      · subst e
        exact h2
      · exact hf j h0 (by omega)
  · rintro σ G ⟨rfl, hf, v2, rfl⟩
    exact q _ (.inl ⟨rfl, fun i h0 hi => hf i h0 (by omega)⟩)
def heapB (its : List (Int × Int)) (w : Nat) : Bool := (List.range its.length).all fun i => decide (i = 0) || !ftB its w i
theorem heapB_iff {its : List (Int × Int)} {w : Nat} : heapB its w = true ↔ NoFt its w its.length := by
  unfold heapB NoFt
  rw [List.all_eq_true]
  constructor
  · intro h i h0 hi
    have := h i (List.mem_range.mpr hi)
    rw [Bool.or_eq_true, Bool.not_eq_true'] at this
    rcases this with h1 | h1
    · have := of_decide_eq_true h1
      omega
    · exact h1
  · intro h i hi
    rw [Bool.or_eq_true, Bool.not_eq_true']
    by_cases e : i = 0
    · exact .inl (decide_eq_true e)
    · exact .inr (h i (by omega) (List.mem_range.mp hi))
def spHeap (K : PySem.W.Frag) : Sp := fun vs H Q _ => ∃ (l : Addr) (as : List Addr) (its : List (Int × Int)) (w : Nat), vs = [.ref l, .int (w : Int)] ∧ SqL K H l (itV as) ∧ ItA H as its ∧ WdN w ∧ its.length ≤ 900 ∧ Q (.bl (heapB its w)) H
theorem ok_heap {f g : Addr} (T0 : FT K mg "is_heap" s_is_heap psIW f) {gd : FuncData} (FP : Fun K "first_fault" "first_fault" s_first_fault g gd) (bP : Binds K gd psIW []) (mP : mg "first_fault" = some (.ref g)) (GP : FnOk P w K mg base CX0 2 g gd psIW (spFF K)) :
    ∃ fd, Fun K "is_heap" "is_heap" s_is_heap f fd ∧ Binds K fd psIW [] ∧ FnOk P w K mg base CX0 3 f fd psIW (spHeap K) := by
  obtain ⟨fd, F, b⟩ := T0.fn
  refine ⟨fd, F, b, F.ok c_is_heap (fun vs H Q E h => ?_) (fun cdv A outer s H vs Q E hr h => ?_)⟩
  · obtain ⟨l, as, its, w, rfl, _⟩ := h
    rfl
  obtain ⟨l, as, its, w, rfl, hl, ha, hw, hn, q⟩ := h
  refine ⟨_, pss_one (ps_ret (pe_cmp (pc_isN (pe_call GP hr rfl mP FP.kp bP .nil pass0 (pa_cons (pv 0) (pa_cons (pv 1) pa_nil)))) rfl)), ?_⟩
  refine ⟨_, rfl, _, rfl, l, as, its, w, rfl, hl, ha, hw, hn, fun v hv => ?_⟩
  rcases hv with ⟨rfl, h⟩ | ⟨i, rfl, h0, h1, h2⟩
  · rw [heapB_iff.mpr h] at q
    exact q
  · have : heapB its w = false := by
      cases e : heapB its w with
      | false => rfl
      | true =>
        have := heapB_iff.mp e i h0 h1
        rw [h2] at this
        cases this
    rw [this] at q
    exact q
end
end H2
namespace H2
open PySem PySem.Spec PyProof.Rows L2 Hx Nd Dun
section
variable {P : Program} {w : World} {K : PySem.W.Frag} {mg : Str → Option Value} {base : Heap} {D : Addr}
/-! ### items and cases -/
def IntV (K : PySem.W.Frag) (H : Hp) (v : V) (b : Bool) : Prop := ∃ (t : Value) (b1 b2 : Bool), TyX K H v t ∧ PySem.W.kitOne K t (.type "int") = some b1 ∧ PySem.W.kitOne K t (.type "bool") = some b2 ∧ b = (b1 && !b2)
theorem intV_int {H : Hp} (n : Int) : IntV K H (.int n) true := ⟨.type "int", true, false, .base (.int n), kit_ty (by decide +kernel), kit_ty (by decide +kernel), rfl⟩
def spInt (K : PySem.W.Frag) : Sp := fun vs H Q _ => ∃ (v : V) (b : Bool), vs = [v] ∧ IntV K H v b ∧ Q (.bl b) H
theorem ok_int {f : Addr} (T0 : FT K mg "is_integer" s_is_integer ["value"] f) (isi : mg "isinstance" = none) (it : mg "int" = none) (bo : mg "bool" = none) : ∃ fd, Fun K "is_integer" "is_integer" s_is_integer f fd ∧ Binds K fd ["value"] [] ∧ FnOk P w K mg base CX0 1 f fd ["value"] (spInt K) := by
  obtain ⟨fd, F, b⟩ := T0.fn
  refine ⟨fd, F, b, F.ok c_is_integer (fun vs H Q E h => ?_) (fun cdv A outer s H vs Q E hr h => ?_)⟩
  · obtain ⟨v, b, rfl, _⟩ := h
    rfl
  obtain ⟨v, b, rfl, ⟨t, b1, b2, ty, k1, k2, rfl⟩, q⟩ := h
  refine ⟨_, pss_one (ps_ret (pe_and (pe_callB call_isi (by rfl) isi (by decide +kernel) (pa_cons (pv 0) (pa_cons (pe_bltn (x := "int") (v := .ty "int") rfl it (by decide +kernel) rfl) pa_nil)))
    (pe_one (pe_not (pe_callB call_isi (by rfl) isi (by decide +kernel) (pa_cons (pv 0) (pa_cons (pe_bltn (x := "bool") (v := .ty "bool") rfl bo (by decide +kernel) rfl) pa_nil))))))), ?_⟩
  refine ⟨_, rfl, v, .ty "int", t, .type "int", b1, rfl, .ty _, ty, k1, b1, rfl, ?_⟩
  cases b1 with
  | false => exact q
  | true => exact ⟨_, rfl, v, .ty "bool", t, .type "bool", b2, rfl, .ty _, ty, k2, _, rfl, q⟩
def ItemV (K : PySem.W.Frag) (H : Hp) (v : V) (b : Bool) : Prop := ∃ (t : Value) (b1 : Bool), TyX K H v t ∧ PySem.W.kitOne K t (.type "tuple") = some b1 ∧ (b1 = false → b = false) ∧
  (b1 = true → ∃ a xs, v = .ref a ∧ SqT K H a xs ∧ (xs.length ≠ 2 → b = false) ∧ ∀ x y, xs = [x, y] → ∃ c d, IntV K H x c ∧ IntV K H y d ∧ b = (c && d))
theorem itemV_tup {H : Hp} {a : Addr} {k m : Int} (h : H a = some (.tup [.int k, .int m])) : ItemV K H (.ref a) true :=
  ⟨.type "tuple", true, .base (.tup h), kit_ty (by decide +kernel), fun z => Bool.noConfusion z, fun _ => ⟨a, _, rfl, SqT.of h, fun z => absurd rfl z, fun x y e => by
    cases e
    exact ⟨true, true, intV_int k, intV_int m, rfl⟩⟩⟩
def spItem (K : PySem.W.Frag) : Sp := fun vs H Q _ => ∃ (v : V) (b : Bool), vs = [v] ∧ ItemV K H v b ∧ Q (.bl b) H
theorem ok_item {f g : Addr} (T0 : FT K mg "is_item" s_is_item ["value"] f) (isi : mg "isinstance" = none) (tup : mg "tuple" = none) (len : mg "len" = none) {gd : FuncData} (FI : Fun K "is_integer" "is_integer" s_is_integer g gd) (bI : Binds K gd ["value"] []) (mI : mg "is_integer" = some (.ref g)) (GI : FnOk P w K mg base CX0 1 g gd ["value"] (spInt K)) :
    ∃ fd, Fun K "is_item" "is_item" s_is_item f fd ∧ Binds K fd ["value"] [] ∧ FnOk P w K mg base CX0 2 f fd ["value"] (spItem K) := by
  obtain ⟨fd, F, b⟩ := T0.fn
  refine ⟨fd, F, b, F.ok c_is_item (fun vs H Q E h => ?_) (fun cdv A outer s H vs Q E hr h => ?_)⟩
  · obtain ⟨v, b, rfl, _⟩ := h
    rfl
  obtain ⟨v, b, rfl, ⟨t, b1, ty, k1, h0, h1⟩, q⟩ := h
  refine ⟨_, pss_one (ps_ret (pe_and (pe_callB call_isi (by rfl) isi (by decide +kernel) (pa_cons (pv 0) (pa_cons (pe_bltn (x := "tuple") (v := .ty "tuple") rfl tup (by decide +kernel) rfl) pa_nil)))
    (pe_and (pe_cmpR op_eq (pe_callB call_len_seq (by rfl) len PySem.boot_len (pa_cons (pv 0) pa_nil)) pe_int (nomark _))
    (pe_and (pe_call GI hr rfl mI FI.kp bI .nil pass0 (pa_cons (pe_ix ix_tup (pv 0) pe_int (fun _ _ => rfl)) pa_nil))
    (pe_one (pe_call GI hr rfl mI FI.kp bI .nil pass0 (pa_cons (pe_ix ix_tup (pv 0) pe_int (fun _ _ => rfl)) pa_nil))))))), ?_⟩
  refine ⟨_, rfl, v, .ty "tuple", t, .type "tuple", b1, rfl, .ty _, ty, k1, b1, rfl, ?_⟩
  cases b1 with
  | false =>
    rw [h0 rfl] at q
    exact q
  | true =>
    obtain ⟨a, xs, rfl, hs, n2, y2⟩ := h1 rfl
    refine ⟨_, rfl, a, _, rfl, .inr hs, rfl, _, rfl, ?_⟩
    by_cases e : xs.length = 2
    · obtain ⟨x, y, rfl⟩ : ∃ x y, xs = [x, y] := by
        match xs, e with
        | [x, y], _ => exact ⟨x, y, rfl⟩
      obtain ⟨c, d, hc, hd, rfl⟩ := y2 x y rfl
      refine iteT ?_
      refine ⟨_, rfl, a, _, _, _, rfl, rfl, hs, rfl, x, c, rfl, hc, c, rfl, ?_⟩
      cases c with
      | false => exact q
      | true => exact ⟨_, rfl, a, _, _, _, rfl, rfl, hs, rfl, y, d, rfl, hd, q⟩
    · rw [n2 e] at q
      have : decide (V.int (xs.length : Nat) = V.int 2) = false := decide_eq_false (fun z => e (by injection z with z; omega))
      rw [this]
      exact q
/-- no mark stands twice -/
def MkNd (its : List (Int × Int)) : Prop := ∀ i j, i < its.length → j < its.length → mkA its i = mkA its j → i = j
def spFB (K : PySem.W.Frag) : Sp := fun vs H Q _ => ∃ (l : Addr) (as : List Addr) (its : List (Int × Int)), vs = [.ref l] ∧ SqL K H l (itV as) ∧ ItA H as its ∧ MkNd its ∧ its.length ≤ 900 ∧ ∀ H', Same H H' → Q .non H'
theorem itV_at {as : List Addr} {x : V} {i : Nat} (h : (itV as)[i]? = some x) : ∃ a, as[i]? = some a ∧ x = .ref a := by
  unfold itV at h
  rw [List.getElem?_map] at h
  cases hz : as[i]? with
  | none => rw [hz] at h; cases h
  | some a => rw [hz] at h; exact ⟨a, rfl, (Option.some.inj h).symm⟩
theorem ItA.get {H : Hp} {as : List Addr} {its : List (Int × Int)} (h : ItA H as its) {i : Nat} {a : Addr} (hi : as[i]? = some a) : i < its.length ∧ H a = some (.tup [.int (kyA its i), .int (mkA its i)]) := by
  have h1 : i < its.length := by rw [← h.1]; exact (List.getElem?_eq_some_iff.mp hi).1
  obtain ⟨b, _, h2, h3⟩ := h.at h1
  rw [hi] at h2
  cases h2
  exact ⟨h1, h3⟩
theorem ok_fb {f g : Addr} (T0 : FT K mg "first_bad_item" s_first_bad_item ["values"] f) (enu : mg "enumerate" = none) {gd : FuncData} (FI : Fun K "is_item" "is_item" s_is_item g gd) (bI : Binds K gd ["value"] []) (mI : mg "is_item" = some (.ref g)) (GI : FnOk P w K mg base CX0 2 g gd ["value"] (spItem K)) :
    ∃ fd, Fun K "first_bad_item" "first_bad_item" s_first_bad_item f fd ∧ Binds K fd ["values"] [] ∧ FnOk P w K mg base CX0 3 f fd ["values"] (spFB K) := by
  obtain ⟨fd, F, b⟩ := T0.fn
  refine ⟨fd, F, b, F.ok c_first_bad_item (fun vs H Q E h => ?_) (fun cdv A outer s H vs Q E hr h => ?_)⟩
  · obtain ⟨l, as, its, rfl, _⟩ := h
    rfl
  obtain ⟨l, as, its, rfl, hl, ha, hm, hn, q⟩ := h
  refine ⟨_, pss_cons (ps_set (i := 1) c_first_bad_item.nd rfl (Or.inl rfl) pe_dnewK) <|
    pss_cons (ps_for PassesOwn.never rfl (pi_enum (by rfl) enu (pa_cons (pv 0) pa_nil)) (pg_tup rfl (pgs_cons (pg_name (i := 2) c_first_bad_item.nd rfl (Or.inl rfl)) (pgs_cons (pg_name (i := 3) c_first_bad_item.nd rfl (Or.inl rfl)) pgs_nil)))
      (pss_cons (ps_if (PW.pt (pw_or (pt_not (pt_val (pe_call GI hr rfl mI FI.kp bI .nil pass0 (pa_cons (pv 3) pa_nil)))) (pw_or1 (pt_cmp (pc_din (hu_of hr) (pe_ix ix_tup (pv 3) pe_int (fun _ _ => rfl)) (pv 1)))))) (pss_one (ps_ret (pv 2))) pss_nil) <|
      pss_one (ps_dput (hu_of hr) (pv 1) (pe_ix ix_tup (pv 3) pe_int (fun _ _ => rfl)) pe_bl rfl))) <|
    pss_one (ps_ret pe_non), ?_⟩
  intro d nd
  refine ⟨_, rfl, l, _, rfl, sqt_list_same hl (new_same nd), for_it (walk_enum (xs := itV as)) (fun i σ G => Same H G ∧ (∃ kvs, G d = some (.dK kvs) ∧ kvs.length ≤ i ∧ ∀ m : Int, valV kvs (Sum.inl m) ≠ none → ∃ j, j < i ∧ mkA its j = m) ∧ ∃ v2 v3, σ = [some (.ref l), some (.ref d), v2, v3])
    ⟨new_same nd, ⟨[], upd_same, Nat.le_refl _, fun m h => absurd rfl h⟩, none, none, rfl⟩ ?_ ?_ ?_⟩
  · rintro i σ G _ ⟨sG, _⟩
    exact sqt_list_same hl sG
  · rintro i x σ G G' hi ⟨sG, ⟨kvs, ed, hk, hv⟩, v2, v3, rfl⟩ ⟨Tn, k, v, rfl, nT, rfl, hk1, hk2⟩
    obtain ⟨a, e1, rfl⟩ := itV_at hk2
    obtain ⟨hil, e2⟩ := ha.get e1
    cases hk1
    have sT := same_new (o := .tup [.int (i : Nat), .ref a]) sG nT
    have e3 := sT _ _ e2
    have ed' : (upd G Tn (.tup [.int (i : Nat), .ref a])) d = some (.dK kvs) := (new_same nT) _ _ ed
    refine ⟨Tn, _, rfl, SqT.of upd_same, rfl, _, _, rfl, _, _, rfl, rfl, ?_⟩
    refine ⟨_, rfl, .ref a, true, rfl, itemV_tup e3, _, rfl, iteF ?_⟩
    have hnone : valV kvs (Sum.inl (mkA its i)) = none := by
      cases hz : valV kvs (Sum.inl (mkA its i)) with
      | none => rfl
      | some z =>
        obtain ⟨j, hj, e⟩ := hv _ (by rw [hz]; exact Option.some_ne_none _)
        have := hm j i (by omega) hil e
        omega
    refine ⟨_, rfl, a, _, _, _, rfl, rfl, SqT.of e3, rfl, _, rfl, d, _, rfl, DGet.k (k := Sum.inl (mkA its i)) ed', _, rfl, ?_⟩
    rw [hnone]
    refine iteF ?_
    refine ⟨_, rfl, _, rfl, a, _, _, _, rfl, rfl, SqT.of e3, rfl, d, _, rfl, DPut.k (k := Sum.inl (mkA its i)) ed' (big (by omega)), ?_⟩
    refine ⟨fun c o z => ?_, ⟨_, upd_same, Nat.le_trans put_len (by omega), fun m h => ?_⟩, _, _, rfl⟩
    · rw [upd_ne (ne_of_none z nd)]
      exact sT _ _ z
    · rw [valV_put] at h
      by_cases e : (Sum.inl m : Key) = Sum.inl (mkA its i)
      · injection e with e
        exact ⟨i, by omega, e.symm⟩
      · rw [if_neg e] at h
        obtain ⟨j, hj, e⟩ := hv m h
        exact ⟨j, by omega, e⟩
  · rintro σ G ⟨sG, _⟩
    exact q _ sG
end
end H2
namespace H2
open PySem PySem.Spec PyProof.Rows L2 Hx Nd Dun
section
variable {P : Program} {w : World} {K : PySem.W.Frag} {mg : Str → Option Value} {base : Heap} {D : Addr}
/-! ### lists made of lists -/
theorem flat_ints (xs : List Int) : (xs.map V.int).all flatV = true := by
  induction xs with
  | nil => rfl
  | cons x r ih => rw [List.map_cons, List.all_cons, ih]; rfl
theorem inV_int {x : Int} {xs : List Int} : inV (.int x) (xs.map V.int) = decide (x ∈ xs) := by
  induction xs with
  | nil => rw [decide_eq_false (List.not_mem_nil)]; rfl
  | cons y r ih =>
    have e : inV (.int x) ((y :: r).map V.int) = (eqV (.int y) (.int x) || inV (.int x) (r.map V.int)) := rfl
    rw [e, ih]
    have e2 : eqV (.int y) (.int x) = decide (y = x) := rfl
    rw [e2, ← Bool.decide_or, decide_eq_decide, List.mem_cons]
    exact ⟨fun h => h.elim (fun z => .inl z.symm) .inr, fun h => h.elim (fun z => .inl z.symm) .inr⟩
theorem eqv_nil_i (ys : List Int) : PyData.eqv (.list (ys.map PyData.int)) (.list []) = ys.isEmpty := by
  cases ys with
  | nil => rfl
  | cons y r => simp [PyData.eqv, PyData.eqvAll]
/-- [f(x) for x in xs if P(x)], xs ints -/
theorem lc_filt {K : PySem.W.Frag} {a : Addr} {xs : List Int} (P : Int → Bool) (φ : Int → V) {tt : TT} {te : TE} {j : Nat} {σ : L2.St} {G1 : Hp} {D : Addr} {Qd : Hp → Prop} (hsq : G1 a = some (.lst (xs.map V.int))) (nD : G1 D = none) (hlen : xs.length ≤ 100000)
    (hw : ∀ v, wipe ((wipe σ [j]).set j (some v)) [j] = wipe σ [j])
    (ht : ∀ (x : Int) (G : Hp) (Z : Bool → Hp → Prop), x ∈ xs → Same G1 G → (∀ H', Same G H' → Z (P x) H') → tt ((wipe σ [j]).set j (some (.int x))) G Z)
    (he : ∀ (x : Int) (G : Hp) (Z : VK), x ∈ xs → Same G1 G → P x = true → (∀ H', Same G H' → Z (φ x) H') → te ((wipe σ [j]).set j (some (.int x))) G Z)
    (hd : ∀ G, Same G1 G → G D = some (.lst ((xs.filter P).map φ)) → Qd G) :
    ∃ W : Nat → Nat → Hp → Prop, (∃ m, W 0 m (upd G1 D (.lst []))) ∧ ∀ i m H, W i m H →
      ((Itl K a).stop i H ∧ Qd H) ∨ ((Itl K a).go i H ∧ ∃ Nx : Hp → Prop, (∀ H', Nx H' → ∃ m', m' < m ∧ W (i + 1) m' H') ∧ ∀ x H', (Itl K a).yld i H x H' → gName j x (wipe σ [j]) H' fun σ2 H2 => wipe σ2 [j] = wipe σ [j] ∧ tt σ2 H2 fun b H3 =>
        if b = true then te σ2 H3 fun y H4 => ∃ acc, H4 D = some (.lst acc) ∧ acc.length < sizeLine ∧ Nx (upd H4 D (.lst (acc ++ [y]))) else Nx H3) := by
  refine lc_list (K := K) (a := a) (xs := xs.map V.int) (fun i G => Same G1 G ∧ G D = some (.lst (((xs.take i).filter P).map φ))) ⟨new_same nD, upd_same⟩ ?_ ?_ ?_
  · rintro i G _ ⟨s, _⟩
    exact SqL.of (s _ _ hsq)
  · rintro i v G hi ⟨s, e⟩
    rw [List.getElem?_map] at hi
    cases hx : xs[i]? with
    | none => rw [hx] at hi; cases hi
    | some x =>
      rw [hx] at hi
      cases hi
      have hm := List.mem_of_getElem? hx
      have et : (xs.take (i + 1)).filter P = (xs.take i).filter P ++ (if P x = true then [x] else []) := by
        rw [List.take_add_one, hx, List.filter_append, Option.toList_some, List.filter_cons, List.filter_nil]
      refine ⟨hw _, ht x G _ hm s fun H2 s2 => ?_⟩
      cases hP : P x with
      | true =>
        rw [if_pos rfl]
        refine he x H2 _ hm (fun c o z => s2 _ _ (s _ _ z)) hP fun H3 s3 => ?_
        refine ⟨_, s3 _ _ (s2 _ _ e), ?_, same_out (fun c o z => s3 _ _ (s2 _ _ (s _ _ z))) nD, ?_⟩
        · rw [List.length_map]
          exact Nat.lt_of_le_of_lt (Nat.le_trans (List.length_filter_le _ _) (by rw [List.length_take]; exact Nat.min_le_right _ _)) (Nat.lt_of_le_of_lt hlen (by decide))
        · rw [upd_same, et, if_pos hP, List.map_append]
          rfl
      | false =>
        rw [if_neg Bool.false_ne_true]
        refine ⟨fun c o z => s2 _ _ (s _ _ z), ?_⟩
        rw [et, hP, if_neg Bool.false_ne_true, List.append_nil]
        exact s2 _ _ e
  · rintro G ⟨s, e⟩
    rw [List.length_map, List.take_length] at e
    exact hd G s e
/-- the numbers lo, lo + 1, .. (n of them) -/
def rangeI (lo : Int) (n : Nat) : List Int := (List.range n).map fun (i : Nat) => lo + (i : Int)
theorem mem_rangeI {lo y : Int} {n : Nat} : y ∈ rangeI lo n ↔ lo ≤ y ∧ y < lo + n := by
  unfold rangeI
  rw [List.mem_map]
  constructor
  · rintro ⟨i, hi, rfl⟩
    have := List.mem_range.mp hi
    omega
  · rintro ⟨h1, h2⟩
    exact ⟨(y - lo).toNat, List.mem_range.mpr (by omega), by omega⟩
theorem rangeI_succ (lo : Int) (n : Nat) : rangeI lo (n + 1) = rangeI lo n ++ [lo + (n : Int)] := by
  unfold rangeI
  rw [List.range_succ, List.map_append]
  rfl
/-- [x for x in range(..) if P(x)] -/
theorem lcr_filt {lo : Int} {n : Nat} (P : Int → Bool) {tt : TT} {te : TE} {j : Nat} {σ : L2.St} {G1 : Hp} {D : Addr} {Qd : Hp → Prop} (nD : G1 D = none) (hlen : n ≤ 100000)
    (hw : ∀ v, wipe ((wipe σ [j]).set j (some v)) [j] = wipe σ [j])
    (ht : ∀ (x : Int) (G : Hp) (Z : Bool → Hp → Prop), lo ≤ x → x < lo + n → Same G1 G → (∀ H', Same G H' → Z (P x) H') → tt ((wipe σ [j]).set j (some (.int x))) G Z)
    (he : ∀ (x : Int) (G : Hp) (Z : VK), Z (.int x) G → te ((wipe σ [j]).set j (some (.int x))) G Z)
    (hd : ∀ G, Same G1 G → G D = some (.lst (((rangeI lo n).filter P).map V.int)) → Qd G) :
    ∃ W : Nat → Nat → Hp → Prop, (∃ m, W 0 m (upd G1 D (.lst []))) ∧ ∀ i m H, W i m H →
      ((Itr lo n).stop i H ∧ Qd H) ∨ ((Itr lo n).go i H ∧ ∃ Nx : Hp → Prop, (∀ H', Nx H' → ∃ m', m' < m ∧ W (i + 1) m' H') ∧ ∀ x H', (Itr lo n).yld i H x H' → gName j x (wipe σ [j]) H' fun σ2 H2 => wipe σ2 [j] = wipe σ [j] ∧ tt σ2 H2 fun b H3 =>
        if b = true then te σ2 H3 fun y H4 => ∃ acc, H4 D = some (.lst acc) ∧ acc.length < sizeLine ∧ Nx (upd H4 D (.lst (acc ++ [y]))) else Nx H3) := by
  refine lc_range (lo := lo) (n := n) (fun i G => Same G1 G ∧ G D = some (.lst (((rangeI lo i).filter P).map V.int))) ⟨new_same nD, upd_same⟩ ?_ ?_
  · rintro i G hi ⟨s, e⟩
    have et : (rangeI lo (i + 1)).filter P = (rangeI lo i).filter P ++ (if P (lo + (i : Int)) = true then [lo + (i : Int)] else []) := by
      rw [rangeI_succ, List.filter_append, List.filter_cons, List.filter_nil]
    refine ⟨hw _, ht _ G _ (by omega) (by omega) s fun H2 s2 => ?_⟩
    cases hP : P (lo + (i : Int)) with
    | true =>
      rw [if_pos rfl]
      refine he _ H2 _ ⟨_, s2 _ _ e, ?_, same_out (fun c o z => s2 _ _ (s _ _ z)) nD, ?_⟩
      · rw [List.length_map]
        refine Nat.lt_of_le_of_lt (List.length_filter_le _ _) ?_
        unfold rangeI
        rw [List.length_map, List.length_range]
        exact Nat.lt_of_le_of_lt (Nat.le_trans (Nat.le_of_lt hi) hlen) (by decide)
      · rw [upd_same, et, if_pos hP, List.map_append]
        rfl
    | false =>
      rw [if_neg Bool.false_ne_true]
      refine ⟨fun c o z => s2 _ _ (s _ _ z), ?_⟩
      rw [et, hP, if_neg Bool.false_ne_true, List.append_nil]
      exact s2 _ _ e
  · rintro G ⟨s, e⟩
    exact hd G s e
/-- [f(x) for x in xs]: the values one by one -/
theorem lc_map {K : PySem.W.Frag} {a : Addr} {xs ys : List V} {g : TG} {te : TE} {vs : List Nat} {σ : L2.St} {G1 : Hp} {D : Addr} {Qd : Hp → Prop} (hsq : SqL K G1 a xs) (nD : G1 D = none) (hl : xs.length = ys.length) (hlen : ys.length ≤ 100000)
    (hs : ∀ (i : Nat) (x y : V) (G : Hp) (Z : V → Hp → Prop), xs[i]? = some x → ys[i]? = some y → Same G1 G → (∀ H', Same G H' → Z y H') → g x (wipe σ vs) G fun σ2 H2 => wipe σ2 vs = wipe σ vs ∧ te σ2 H2 Z)
    (hd : ∀ G, Same G1 G → G D = some (.lst ys) → Qd G) :
    ∃ W : Nat → Nat → Hp → Prop, (∃ m, W 0 m (upd G1 D (.lst []))) ∧ ∀ i m H, W i m H →
      ((Itl K a).stop i H ∧ Qd H) ∨ ((Itl K a).go i H ∧ ∃ Nx : Hp → Prop, (∀ H', Nx H' → ∃ m', m' < m ∧ W (i + 1) m' H') ∧ ∀ x H', (Itl K a).yld i H x H' → g x (wipe σ vs) H' fun σ2 H2 => wipe σ2 vs = wipe σ vs ∧ tYes σ2 H2 fun b H3 =>
        if b = true then te σ2 H3 fun y H4 => ∃ acc, H4 D = some (.lst acc) ∧ acc.length < sizeLine ∧ Nx (upd H4 D (.lst (acc ++ [y]))) else Nx H3) := by
  refine lc_list (K := K) (a := a) (xs := xs) (fun i G => Same G1 G ∧ G D = some (.lst (ys.take i))) ⟨new_same nD, upd_same⟩ ?_ ?_ ?_
  · rintro i G _ ⟨s, _⟩
    exact sqt_list_same hsq s
  · rintro i x G hi ⟨s, e⟩
    have h1 : i < ys.length := by rw [← hl]; exact (List.getElem?_eq_some_iff.mp hi).1
    have h2 := List.getElem?_eq_getElem h1
    unfold tYes
    dsimp only
    simp only [if_true]
    refine hs i x _ G _ hi h2 s fun H' s' => ⟨_, s' _ _ e, ?_, same_out (fun c o z => s' _ _ (s _ _ z)) nD, ?_⟩
    · rw [List.length_take]
      exact Nat.lt_of_le_of_lt (Nat.le_trans (Nat.min_le_right _ _) hlen) (by decide)
    · rw [upd_same, List.take_add_one, h2]
      rfl
  · rintro G ⟨s, e⟩
    rw [hl, List.take_length] at e
    exact hd G s e
theorem inV_strs {x : Str} {os : List Str} : inV (.str x) (os.map V.str) = decide (x ∈ os) := by
  induction os with
  | nil => rw [decide_eq_false (List.not_mem_nil)]; rfl
  | cons y r ih =>
    have e : inV (.str x) ((y :: r).map V.str) = (eqV (.str y) (.str x) || inV (.str x) (r.map V.str)) := rfl
    rw [e, ih]
    have e2 : eqV (.str y) (.str x) = decide (y = x) := rfl
    rw [e2, ← Bool.decide_or, decide_eq_decide, List.mem_cons]
    exact ⟨fun h => h.elim (fun z => .inl z.symm) .inr, fun h => h.elim (fun z => .inl z.symm) .inr⟩
end
end H2
namespace H2
open PySem PySem.Spec PyProof.Rows L2 Hx Nd Dun
section
variable {P : Program} {w : World} {K : PySem.W.Frag} {mg : Str → Option Value} {base : Heap} {D : Addr}
/-! ### start_fits, given_fits -/
def startW : List Str := ["out", "either", "above", "below", "tree"]
def givenW : List Str := ["put", "top"]
def toldW : List Str := ["take", "top", "out"]
def heapsW : List Str := ["put", "take", "top", "out"]
theorem flat_strs (os : List Str) : (os.map V.str).all flatV = true := by
  induction os with
  | nil => rfl
  | cons x r ih => rw [List.map_cons, List.all_cons, ih]; rfl
def StartV (K : PySem.W.Frag) (H : Hp) (kd : Str) (n : Nat) (v : V) (b : Bool) : Prop := (kd ∈ startW ∧ ∃ c, IntV K H v c ∧ (c = false → b = false) ∧ (c = true → ∃ s : Int, v = .int s ∧ b = decide (0 ≤ s ∧ s < n))) ∨ (kd ∉ startW ∧ b = decide (v = .non))
abbrev psSF : List Str := ["kind", "count", "start"]
def spSF (K : PySem.W.Frag) : Sp := fun vs H Q _ => ∃ (kd : Str) (n : Nat) (v : V) (b : Bool), vs = [.str kd, .int (n : Int), v] ∧ StartV K H kd n v b ∧ Q (.bl b) H
theorem ok_sf {f g aS : Addr} (T0 : FT K mg "start_fits" s_start_fits psSF f) (cS : TupT K mg "WITH_START" aS (startW.map V.str)) {gd : FuncData} (FI : Fun K "is_integer" "is_integer" s_is_integer g gd) (bI : Binds K gd ["value"] []) (mI : mg "is_integer" = some (.ref g)) (GI : FnOk P w K mg base CX0 1 g gd ["value"] (spInt K)) :
    ∃ fd, Fun K "start_fits" "start_fits" s_start_fits f fd ∧ Binds K fd psSF [] ∧ FnOk P w K mg base CX0 2 f fd psSF (spSF K) := by
  obtain ⟨fd, F, b⟩ := T0.fn
  refine ⟨fd, F, b, F.ok c_start_fits (fun vs H Q E h => ?_) (fun cdv A outer s H vs Q E hr h => ?_)⟩
  · obtain ⟨kd, n, v, b, rfl, _⟩ := h
    rfl
  obtain ⟨kd, n, v, b, rfl, hs, q⟩ := h
  refine ⟨_, pss_cons (ps_if (pt_cmpR op_in_seq (pv 0) (pe_glob (v := .ref aS) rfl cS.g rfl) rfl)
      (pss_one (ps_ret (pe_and (pe_call GI hr rfl mI FI.kp bI .nil pass0 (pa_cons (pv 2) pa_nil)) (pe_one (pe_chain op_le op_lt pe_int (pv 2) (pv 1)))))) pss_nil) <|
    pss_one (ps_ret (pe_cmp (pc_isN (pv 2)) rfl)), ?_⟩
  refine ⟨_, rfl, aS, _, rfl, .inr (cS.s _), rfl, flat_strs _, _, rfl, iteB (fun h1 => ?_) (fun h1 => ?_)⟩
  · have h1 := of_decide_eq_true (inV_strs.symm.trans h1)
    rcases hs with ⟨_, c, hi, hf, ht⟩ | ⟨h2, _⟩
    · refine ⟨_, rfl, v, c, rfl, hi, c, rfl, ?_⟩
      cases c with
      | false =>
        rw [hf rfl] at q
        exact q
      | true =>
        obtain ⟨st, rfl, rfl⟩ := ht rfl
        refine ⟨_, rfl, _, _, rfl, rfl, _, rfl, iteB (fun h2 => ?_) (fun h2 => ?_)⟩
        · refine ⟨_, rfl, _, _, rfl, rfl, ?_⟩
          have : decide (0 ≤ st ∧ st < (n : Int)) = decide (st < (n : Int)) := by
            rw [decide_eq_decide]
            exact ⟨fun z => z.2, fun z => ⟨of_decide_eq_true h2, z⟩⟩
          rw [this] at q
          exact q
        · have : decide (0 ≤ st ∧ st < (n : Int)) = false := decide_eq_false fun z => of_decide_eq_false h2 z.1
          rw [this] at q
          exact q
    · exact absurd h1 h2
  · have h1 := of_decide_eq_false (inV_strs.symm.trans h1)
    rcases hs with ⟨h2, _⟩ | ⟨_, rfl⟩
    · exact absurd h2 h1
    · exact ⟨_, rfl, q⟩
def GivV (K : PySem.W.Frag) (H : Hp) (kd : Str) (its : List (Int × Int)) (v : V) (b : Bool) : Prop := (kd ∈ givenW ∧ ((ItemV K H v false ∧ b = false) ∨ ∃ a k m, v = .ref a ∧ H a = some (.tup [.int k, .int m]) ∧ b = !decide (m ∈ its.map (·.2)))) ∨ (kd ∉ givenW ∧ b = decide (v = .non))
abbrev psGF : List Str := ["kind", "items", "given"]
def spGF (K : PySem.W.Frag) : Sp := fun vs H Q _ => ∃ (kd : Str) (l : Addr) (as : List Addr) (its : List (Int × Int)) (v : V) (b : Bool), vs = [.str kd, .ref l, v] ∧ SqL K H l (itV as) ∧ ItA H as its ∧ its.length ≤ 900 ∧ GivV K H kd its v b ∧ ∀ H', Same H H' → Q (.bl b) H'
theorem ok_gf {f g aS : Addr} (T0 : FT K mg "given_fits" s_given_fits psGF f) (cS : TupT K mg "WITH_GIVEN" aS (givenW.map V.str)) {gd : FuncData} (FI : Fun K "is_item" "is_item" s_is_item g gd) (bI : Binds K gd ["value"] []) (mI : mg "is_item" = some (.ref g)) (GI : FnOk P w K mg base CX0 2 g gd ["value"] (spItem K)) :
    ∃ fd, Fun K "given_fits" "given_fits" s_given_fits f fd ∧ Binds K fd psGF [] ∧ FnOk P w K mg base CX0 3 f fd psGF (spGF K) := by
  obtain ⟨fd, F, b⟩ := T0.fn
  refine ⟨fd, F, b, F.ok c_given_fits (fun vs H Q E h => ?_) (fun cdv A outer s H vs Q E hr h => ?_)⟩
  · obtain ⟨kd, l, as, its, v, b, rfl, _⟩ := h
    rfl
  obtain ⟨kd, l, as, its, v, b, rfl, hl, ha, hn, hg, q⟩ := h
  refine ⟨_, pss_cons (ps_if (pt_cmpR op_in_seq (pv 0) (pe_glob (v := .ref aS) rfl cS.g rfl) rfl)
      (pss_one (ps_ret (pe_and (pe_call GI hr rfl mI FI.kp bI .nil pass0 (pa_cons (pv 2) pa_nil)) (pe_one (pe_cmpR op_notIn_seq (pe_ix ix_tup (pv 2) pe_int (fun _ _ => rfl))
        (pe_lc (own := [("_", 3), ("mark", 4)]) (g := gTup K 2 (gCons (gName 3) (gCons (gName 4) gNil))) (tt := tYes) rfl c_given_fits.nd (pi_list (pv 1)) (blkOk_by (own := [("_", 3), ("mark", 4)]) (N := n_given_fits) (sc := defScope s_given_fits) (by decide +kernel))
          (fun _ _ _ _ _ => pg_tup rfl (pgs_cons (pg_name (i := 3) c_given_fits.nd rfl (Or.inl rfl)) (pgs_cons (pg_name (i := 4) c_given_fits.nd rfl (Or.inl rfl)) pgs_nil))) (fun _ _ _ _ _ => pts_nil) (fun _ _ _ _ _ => pv 4)) rfl))))) pss_nil) <|
    pss_one (ps_ret (pe_cmp (pc_isN (pv 2)) rfl)), ?_⟩
  refine ⟨_, rfl, aS, _, rfl, .inr (cS.s _), rfl, flat_strs _, _, rfl, iteB (fun h1 => ?_) (fun h1 => ?_)⟩
  · have h1 := of_decide_eq_true (inV_strs.symm.trans h1)
    rcases hg with ⟨_, ⟨hi, rfl⟩ | ⟨a, k, m, rfl, ea, rfl⟩⟩ | ⟨h2, _⟩
    · exact ⟨_, rfl, v, false, rfl, hi, _, rfl, q _ (Same.refl _)⟩
    · refine ⟨_, rfl, .ref a, true, rfl, itemV_tup ea, _, rfl, ?_⟩
      refine ⟨_, rfl, a, _, _, _, rfl, rfl, SqT.of ea, rfl, ?_⟩
      refine ⟨_, rfl, l, rfl, ⟨_, hl⟩, fun D nD => lc_map (ys := (its.map (·.2)).map V.int) hl nD (by rw [itV_len ha, List.length_map, List.length_map]) (by rw [List.length_map, List.length_map]; omega) ?_ ?_⟩
      · intro i x y G Z hx hy sG hz
        obtain ⟨b, e1, rfl⟩ := itV_at hx
        obtain ⟨hil, e2⟩ := ha.get e1
        refine ⟨b, _, rfl, SqT.of (sG _ _ e2), rfl, _, _, rfl, _, _, rfl, rfl, ?_⟩
        refine ⟨rfl, _, rfl, ?_⟩
        have : y = .int (mkA its i) := by
          rw [List.getElem?_map, List.getElem?_map, List.getElem?_eq_getElem hil] at hy
          cases hy
          unfold mkA
          rw [List.getD_eq_getElem?_getD, List.getElem?_eq_getElem hil]
          rfl
        rw [← this]
        exact hz G (Same.refl _)
      · intro G sG eG
        refine ⟨D, _, rfl, .inl (SqL.of eG), rfl, flat_ints _, ?_⟩
        rw [inV_int]
        exact q _ sG
    · exact absurd h1 h2
  · have h1 := of_decide_eq_false (inV_strs.symm.trans h1)
    rcases hg with ⟨h2, _⟩ | ⟨_, rfl⟩
    · exact absurd h2 h1
    · exact ⟨_, rfl, q _ (Same.refl _)⟩
end
end H2
namespace H2
open PySem PySem.Spec PyProof.Rows L2 Hx Nd Dun
section
variable {P : Program} {w : World} {K : PySem.W.Frag} {mg : Str → Option Value} {base : Heap} {D : Addr}
/-! ### the list of a kind -/
theorem all_rng {n : Nat} {P : Nat → Bool} : (List.range n).all P = true ↔ ∀ i, i < n → P i = true := by
  rw [List.all_eq_true]
  exact ⟨fun h i hi => h i (List.mem_range.mpr hi), fun h i hi => h i (List.mem_range.mp hi)⟩
theorem all_rngF {n i : Nat} {P : Nat → Bool} (hi : i < n) (hp : P i = false) : (List.range n).all P = false := by
  cases e : (List.range n).all P with
  | false => rfl
  | true =>
    have := all_rng.mp e i hi
    rw [hp] at this
    cases this
def undF (w s : Nat) : Nat → Nat → Bool
  | 0, i => decide (i = s)
  | n + 1, i => if i ≤ s then decide (i = s) else undF w s n (paN w i)
theorem undF_eq {w s : Nat} : ∀ n m i : Nat, i ≤ n → i ≤ m → undF w s n i = undF w s m i
  | 0, 0, i, _, _ => rfl
  | 0, m + 1, i, h, _ => by
    have : i = 0 := by omega
    subst this
    rw [undF, undF, if_pos (Nat.zero_le _)]
  | n + 1, 0, i, _, h => by
    have : i = 0 := by omega
    subst this
    rw [undF, undF, if_pos (Nat.zero_le _)]
  | n + 1, m + 1, i, h1, h2 => by
    rw [undF, undF]
    split
    · rfl
    · rename_i h
      have := paN_lt (w := w) (i := i) (by omega)
      exact undF_eq n m _ (by omega) (by omega)
/-- the place is in the tree of the start -/
def und (w s i : Nat) : Bool := undF w s i i
theorem und_le {w s i : Nat} (h : i ≤ s) : und w s i = decide (i = s) := by
  unfold und
  cases i with
  | zero => rfl
  | succ n => rw [undF, if_pos h]
theorem und_gt {w s i : Nat} (h : s < i) : und w s i = und w s (paN w i) := by
  unfold und
  cases i with
  | zero => omega
  | succ n =>
    rw [undF, if_neg (by omega)]
    have := paN_lt (w := w) (i := n + 1) (by omega)
    exact undF_eq _ _ _ (by omega) (Nat.le_refl _)
def trB (its : List (Int × Int)) (w s i : Nat) : Bool := decide (s < i) && (und w s (paN w i) && (decide (paN w i ≠ s) && ftB its w i))
def treeB (its : List (Int × Int)) (w s : Nat) : Bool := (List.range its.length).all fun i => !trB its w s i
abbrev psIWS : List Str := ["items", "width", "start"]
def spTr (K : PySem.W.Frag) : Sp := fun vs H Q _ => ∃ (l : Addr) (as : List Addr) (its : List (Int × Int)) (w s : Nat), vs = [.ref l, .int (w : Int), .int (s : Int)] ∧ SqL K H l (itV as) ∧ ItA H as its ∧ WdN w ∧ its.length ≤ 900 ∧ s < its.length ∧ ∀ H', Same H H' → Q (.bl (treeB its w s)) H'
theorem ok_tr {f g : Addr} (T0 : FT K mg "trees_are_heaps" s_trees_are_heaps psIWS f) (rng : mg "range" = none) (len : mg "len" = none) {gd : FuncData} (FP : Fun K "parent" "parent" s_parent g gd) (bP : Binds K gd psPW []) (mP : mg "parent" = some (.ref g)) (GP : FnOk P w K mg base CX0 1 g gd psPW spParent) :
    ∃ fd, Fun K "trees_are_heaps" "trees_are_heaps" s_trees_are_heaps f fd ∧ Binds K fd psIWS [] ∧ FnOk P w K mg base CX0 2 f fd psIWS (spTr K) := by
  obtain ⟨fd, F, b⟩ := T0.fn
  refine ⟨fd, F, b, F.ok c_trees_are_heaps (fun vs H Q E h => ?_) (fun cdv A outer s H vs Q E hr h => ?_)⟩
  · obtain ⟨l, as, its, w, s, rfl, _⟩ := h
    rfl
  obtain ⟨l, as, its, w, s, rfl, hl, ha, hw, hn, hsn, q⟩ := h
  refine ⟨_, pss_cons (ps_set (i := 3) c_trees_are_heaps.nd rfl (Or.inl rfl) (pe_disp (pps_cons (pv 2) pe_bl pps_nil) (by rfl) (by rfl) (fun z => by cases z) (by decide))) <|
    pss_cons (ps_for PassesOwn.never rfl (pi_range2 rfl rng (pa_cons (pe_op op_add (pv 2) pe_int) (pa_cons (pe_callB call_len_seq (by rfl) len PySem.boot_len (pa_cons (pv 0) pa_nil)) pa_nil))) (pg_name (i := 4) c_trees_are_heaps.nd rfl (Or.inl rfl))
      (pss_cons (ps_set (i := 5) c_trees_are_heaps.nd rfl (Or.inl rfl) (pe_call GP hr rfl mP FP.kp bP .nil pass0 (pa_cons (pv 4) (pa_cons (pv 1) pa_nil)))) <|
      pss_one (ps_if (pt_cmp (pc_din (hu_of hr) (pv 5) (pv 3)))
        (pss_cons (ps_dput (hu_of hr) (pv 3) (pv 4) pe_bl rfl) <|
        pss_one (ps_if (PW.pt (pw_and (pt_cmpR op_ne (pv 5) (pv 2) (nomark _)) (pw_and1 (pt_cmpR op_lt (pe_ix ix_tup (pe_ix ix_list (pv 0) (pv 4) (fun _ _ => rfl)) pe_int (fun _ _ => rfl)) (pe_ix ix_tup (pe_ix ix_list (pv 0) (pv 5) (fun _ _ => rfl)) pe_int (fun _ _ => rfl)) (nomark _)))))
          (pss_one (ps_ret pe_bl)) pss_nil)) pss_nil))) <|
    pss_one (ps_ret pe_bl), ?_⟩
  intro d nd
  refine ⟨_, rfl, upd_same, [(Sum.inl (s : Int), .bl true)], rfl, (by show 1 ≤ 15; decide), ?_⟩
  have s0 : Same H (upd (upd H d (.dK [])) d (.dK (mergeK [] [(Sum.inl (s : Int), V.bl true)]))) := fun c o z => by
    rw [upd_upd]
    exact (new_same nd) _ _ z
  have ed0 : (upd (upd H d (.dK [])) d (.dK (mergeK [] [(Sum.inl (s : Int), V.bl true)]))) d = some (.dK [(Sum.inl (s : Int), .bl true)]) := upd_same
  generalize upd (upd H d (.dK [])) d (.dK (mergeK [] [(Sum.inl (s : Int), V.bl true)])) = G0 at s0 ed0 ⊢
  refine ⟨_, rfl, _, _, rfl, rfl, _, rfl, l, _, rfl, .inl (sqt_list_same hl s0), (s : Int) + 1, ((itV as).length : Nat), rfl, ⟨by omega, by omega, by rw [itV_len ha]; omega, by rw [itV_len ha]; omega⟩, ?_⟩
  rw [itV_len ha]
  refine for_range (lo := (s : Int) + 1) (n := (((its.length : Nat) : Int) - ((s : Int) + 1)).toNat) (fun i σ G => Same H G ∧ (∃ kvs, G d = some (.dK kvs) ∧ kvs.length ≤ i + 1 ∧ ∀ m : Nat, (valV kvs (Sum.inl (m : Int))).isSome = (decide (m < s + 1 + i) && und w s m)) ∧ (∀ j, j < s + 1 + i → trB its w s j = false) ∧
      ∃ v4 v5, σ = [some (.ref l), some (.int (w : Int)), some (.int (s : Int)), some (.ref d), v4, v5]) ⟨s0, ⟨_, ed0, Nat.le_refl _, fun m => ?_⟩, fun j hj => ?_, none, none, rfl⟩ ?_ ?_
  · by_cases e : m = s
    · subst e
      rw [und_le (Nat.le_refl _), valV_pos rfl, decide_eq_true (show m < m + 1 + 0 by omega), decide_eq_true rfl]
      rfl
    · rw [valV_neg (fun z => e (by injection z with z; omega))]
      by_cases h : m < s + 1 + 0
      · rw [und_le (by omega), decide_eq_false e, Bool.and_false]
        rfl
      · rw [decide_eq_false h]
        rfl
  · unfold trB
    rw [decide_eq_false (by omega)]
    rfl
  · rintro i σ G hi ⟨sG, ⟨kvs, ed, hk, hv⟩, hf, v4, v5, rfl⟩
    have h1 : ((s : Int) + 1) + (i : Int) = ((s + 1 + i : Nat) : Int) := by omega
    rw [h1]
    have hpl := paN_lt (w := w) (i := s + 1 + i) (by omega)
    refine ⟨_, rfl, _, rfl, s + 1 + i, w, rfl, hw, ?_⟩
    rw [if_neg (by omega)]
    refine ⟨_, rfl, _, rfl, d, _, rfl, DGet.k (k := Sum.inl ((paN w (s + 1 + i) : Nat) : Int)) ed, _, rfl, ?_⟩
    rw [hv, decide_eq_true hpl, Bool.true_and]
    have hum : und w s (s + 1 + i) = und w s (paN w (s + 1 + i)) := und_gt (by omega)
    refine iteB (fun h2 => ?_) (fun h2 => ?_)
    · refine ⟨_, rfl, _, rfl, d, _, rfl, DPut.k (k := Sum.inl ((s + 1 + i : Nat) : Int)) ed (big (by omega)), ?_⟩
      have sG2 : Same H (upd G d (.dK (putK kvs (Sum.inl ((s + 1 + i : Nat) : Int)) (.bl true)))) := fun c o z => by
        rw [upd_ne (ne_of_none z nd)]
        exact sG _ _ z
      have hv2 : ∀ m : Nat, (valV (putK kvs (Sum.inl ((s + 1 + i : Nat) : Int)) (.bl true)) (Sum.inl (m : Int))).isSome = (decide (m < s + 1 + (i + 1)) && und w s m) := fun m => by
        rw [valV_put]
        by_cases e : m = s + 1 + i
        · subst e
          rw [if_pos rfl, hum, h2, decide_eq_true (by omega)]
          rfl
        · rw [if_neg (fun z => e (by injection z with z; omega)), hv m]
          have : decide (m < s + 1 + i) = decide (m < s + 1 + (i + 1)) := by
            rw [decide_eq_decide]
            omega
          rw [this]
      have ed2 : (upd G d (.dK (putK kvs (Sum.inl ((s + 1 + i : Nat) : Int)) (.bl true)))) d = some (.dK (putK kvs (Sum.inl ((s + 1 + i : Nat) : Int)) (.bl true))) := upd_same
      have hk2 : (putK kvs (Sum.inl ((s + 1 + i : Nat) : Int)) (.bl true)).length ≤ i + 1 + 1 := Nat.le_trans put_len (by omega)
      generalize upd G d (.dK (putK kvs (Sum.inl ((s + 1 + i : Nat) : Int)) (.bl true))) = G2 at sG2 ed2 ⊢
      generalize putK kvs (Sum.inl ((s + 1 + i : Nat) : Int)) (.bl true) = kvs2 at hv2 ed2 hk2
      have done : trB its w s (s + 1 + i) = false → Same H G2 ∧ (∃ kvs, G2 d = some (.dK kvs) ∧ kvs.length ≤ i + 1 + 1 ∧ ∀ m : Nat, (valV kvs (Sum.inl (m : Int))).isSome = (decide (m < s + 1 + (i + 1)) && und w s m)) ∧ (∀ j, j < s + 1 + (i + 1) → trB its w s j = false) := fun h3 =>
        ⟨sG2, ⟨_, ed2, hk2, hv2⟩, fun j hj => by
          by_cases e : j = s + 1 + i
          · rw [e]; exact h3
          · exact hf j (by omega)⟩
      refine ⟨_, rfl, _, rfl, rfl, _, rfl, iteB (fun h3 => ?_) (fun h3 => ?_)⟩
      · have hne : paN w (s + 1 + i) ≠ s := fun z => by
          rw [z] at h3
          simp at h3
        obtain ⟨a, e1, _, e2⟩ := ha.at (i := s + 1 + i) (by omega)
        obtain ⟨c, e3, _, e4⟩ := ha.at (i := paN w (s + 1 + i)) (by omega)
        have hl2 := sqt_list_same hl sG2
        refine ⟨_, rfl, _, rfl, l, _, _, _, rfl, rfl, hl2, e1, a, _, _, _, rfl, rfl, SqT.of (sG2 _ _ e2), rfl, ?_⟩
        refine ⟨_, rfl, _, rfl, l, _, _, _, rfl, rfl, hl2, e3, c, _, _, _, rfl, rfl, SqT.of (sG2 _ _ e4), rfl, ?_⟩
        have etr : trB its w s (s + 1 + i) = ftB its w (s + 1 + i) := by
          unfold trB
          rw [h2, decide_eq_true (by omega), decide_eq_true hne]
          rfl
        refine ⟨_, _, rfl, rfl, _, rfl, iteB (fun h4 => ?_) (fun h4 => ?_)⟩
        · have : treeB its w s = false := all_rngF (i := s + 1 + i) (by omega) (by rw [etr]; unfold ftB; rw [h4]; rfl)
          rw [this] at q
          exact q _ sG2
        · obtain ⟨a1, a2, a3⟩ := done (by rw [etr]; exact h4)
          exact ⟨a1, a2, a3, _, _, rfl⟩
      · have heq : paN w (s + 1 + i) = s := by
          have h4 : decide (V.int ((paN w (s + 1 + i) : Nat) : Int) = V.int (s : Int)) = true := by simpa using h3
          have := of_decide_eq_true h4
          injection this with z
          omega
        obtain ⟨a1, a2, a3⟩ := done (by unfold trB; simp [heq])
        exact ⟨a1, a2, a3, _, _, rfl⟩
    · refine ⟨sG, ⟨kvs, ed, by omega, fun m => ?_⟩, fun j hj => ?_, _, _, rfl⟩
      · by_cases e : m = s + 1 + i
        · subst e
          rw [hv, hum, h2, Bool.and_false, Bool.and_false]
        · rw [hv m]
          have : decide (m < s + 1 + i) = decide (m < s + 1 + (i + 1)) := by
            rw [decide_eq_decide]
            omega
          rw [this]
      · by_cases e : j = s + 1 + i
        · rw [e]
          unfold trB
          rw [h2]
          simp
        · exact hf j (by omega)
  · rintro σ G ⟨sG, _, hf, v4, v5, rfl⟩
    have : treeB its w s = true := all_rng.mpr fun i hi => by rw [hf i (by omega)]; rfl
    rw [this] at q
    exact q _ sG
end
end H2
namespace H2
open PySem PySem.Spec PyProof.Rows L2 Hx Nd Dun
section
variable {P : Program} {w : World} {K : PySem.W.Frag} {mg : Str → Option Value} {base : Heap} {D : Addr}
theorem lcr_map {lo : Int} {n : Nat} (φ : Int → V) {te : TE} {j : Nat} {σ : L2.St} {G1 : Hp} {D : Addr} {Qd : Hp → Prop} (nD : G1 D = none) (hlen : n ≤ 100000)
    (hw : ∀ v, wipe ((wipe σ [j]).set j (some v)) [j] = wipe σ [j])
    (he : ∀ (x : Int) (G : Hp) (Z : V → Hp → Prop), lo ≤ x → x < lo + n → Same G1 G → Z (φ x) G → te ((wipe σ [j]).set j (some (.int x))) G Z)
    (hd : ∀ G, Same G1 G → G D = some (.lst ((rangeI lo n).map φ)) → Qd G) :
    ∃ W : Nat → Nat → Hp → Prop, (∃ m, W 0 m (upd G1 D (.lst []))) ∧ ∀ i m H, W i m H →
      ((Itr lo n).stop i H ∧ Qd H) ∨ ((Itr lo n).go i H ∧ ∃ Nx : Hp → Prop, (∀ H', Nx H' → ∃ m', m' < m ∧ W (i + 1) m' H') ∧ ∀ x H', (Itr lo n).yld i H x H' → gName j x (wipe σ [j]) H' fun σ2 H2 => wipe σ2 [j] = wipe σ [j] ∧ tYes σ2 H2 fun b H3 =>
        if b = true then te σ2 H3 fun y H4 => ∃ acc, H4 D = some (.lst acc) ∧ acc.length < sizeLine ∧ Nx (upd H4 D (.lst (acc ++ [y]))) else Nx H3) := by
  refine lc_range (lo := lo) (n := n) (fun i G => Same G1 G ∧ G D = some (.lst ((rangeI lo i).map φ))) ⟨new_same nD, upd_same⟩ ?_ ?_
  · rintro i G hi ⟨s, e⟩
    refine ⟨hw _, ?_⟩
    unfold tYes
    dsimp only
    simp only [if_true]
    refine he _ G _ (by omega) (by omega) s ⟨_, e, ?_, same_out s nD, ?_⟩
    · rw [List.length_map]
      unfold rangeI
      rw [List.length_map, List.length_range]
      exact Nat.lt_of_le_of_lt (Nat.le_trans (Nat.le_of_lt hi) hlen) (by decide)
    · rw [upd_same, rangeI_succ, List.map_append]
      rfl
  · rintro G ⟨s, e⟩
    exact hd G s e
/-- [x for x in xs if P(x)], xs objects -/
theorem lc_filtR {K : PySem.W.Frag} {a : Addr} {xs : List Addr} (P : Addr → Bool) {tt : TT} {te : TE} {j : Nat} {σ : L2.St} {G1 : Hp} {D : Addr} {Qd : Hp → Prop} (hsq : SqL K G1 a (xs.map V.ref)) (nD : G1 D = none) (hlen : xs.length ≤ 100000)
    (hw : ∀ v, wipe ((wipe σ [j]).set j (some v)) [j] = wipe σ [j])
    (ht : ∀ (x : Addr) (G : Hp) (Z : Bool → Hp → Prop), x ∈ xs → Same G1 G → Z (P x) G → tt ((wipe σ [j]).set j (some (.ref x))) G Z)
    (he : ∀ (x : Addr) (G : Hp) (Z : V → Hp → Prop), Z (.ref x) G → te ((wipe σ [j]).set j (some (.ref x))) G Z)
    (hd : ∀ G, Same G1 G → G D = some (.lst ((xs.filter P).map V.ref)) → Qd G) :
    ∃ W : Nat → Nat → Hp → Prop, (∃ m, W 0 m (upd G1 D (.lst []))) ∧ ∀ i m H, W i m H →
      ((Itl K a).stop i H ∧ Qd H) ∨ ((Itl K a).go i H ∧ ∃ Nx : Hp → Prop, (∀ H', Nx H' → ∃ m', m' < m ∧ W (i + 1) m' H') ∧ ∀ x H', (Itl K a).yld i H x H' → gName j x (wipe σ [j]) H' fun σ2 H2 => wipe σ2 [j] = wipe σ [j] ∧ tt σ2 H2 fun b H3 =>
        if b = true then te σ2 H3 fun y H4 => ∃ acc, H4 D = some (.lst acc) ∧ acc.length < sizeLine ∧ Nx (upd H4 D (.lst (acc ++ [y]))) else Nx H3) := by
  refine lc_list (K := K) (a := a) (xs := xs.map V.ref) (fun i G => Same G1 G ∧ G D = some (.lst (((xs.take i).filter P).map V.ref))) ⟨new_same nD, upd_same⟩ ?_ ?_ ?_
  · rintro i G _ ⟨s, _⟩
    exact sqt_list_same hsq s
  · rintro i v G hi ⟨s, e⟩
    rw [List.getElem?_map] at hi
    cases hx : xs[i]? with
    | none => rw [hx] at hi; cases hi
    | some x =>
      rw [hx] at hi
      cases hi
      have hm := List.mem_of_getElem? hx
      have et : (xs.take (i + 1)).filter P = (xs.take i).filter P ++ (if P x = true then [x] else []) := by
        rw [List.take_add_one, hx, List.filter_append, Option.toList_some, List.filter_cons, List.filter_nil]
      refine ⟨hw _, ht x G _ hm s ?_⟩
      cases hP : P x with
      | true =>
        rw [if_pos rfl]
        refine he x G _ ⟨_, e, ?_, same_out s nD, ?_⟩
        · rw [List.length_map]
          exact Nat.lt_of_le_of_lt (Nat.le_trans (List.length_filter_le _ _) (by rw [List.length_take]; exact Nat.min_le_right _ _)) (Nat.lt_of_le_of_lt hlen (by decide))
        · rw [upd_same, et, if_pos hP, List.map_append]
          rfl
      | false =>
        rw [if_neg Bool.false_ne_true]
        refine ⟨s, ?_⟩
        rw [et, hP, if_neg Bool.false_ne_true, List.append_nil]
        exact e
  · rintro G ⟨s, e⟩
    rw [List.length_map, List.take_length] at e
    exact hd G s e
theorem dp_refs {H : Hp} : ∀ {bs : List Addr}, (∀ b ∈ bs, ∃ k m : Int, H b = some (.tup [.int k, .int m])) → ∃ ds : List PyData, DpAll K H (bs.map V.ref) ds ∧ PyData.canLayAll0 ds = true ∧ PyData.depthAll ds ≤ 1 ∧ ds.length = bs.length
  | [], _ => ⟨[], .nil, rfl, Nat.zero_le _, rfl⟩
  | b :: r, h => by
    obtain ⟨ds, h1, h2, h3, h4⟩ := dp_refs fun c hc => h c (List.mem_cons_of_mem _ hc)
    obtain ⟨k, m, e⟩ := h b List.mem_cons_self
    refine ⟨.tuple [.int k, .int m] :: ds, .cons (.tup (SqT.of e) (.cons (.int k) (.cons (.int m) .nil))) h1, ?_, ?_, by rw [List.length_cons, List.length_cons, h4]⟩
    · rw [PyData.canLayAll0, h2, PyData.canLay0, PyData.canLayAll0, PyData.canLayAll0, PyData.canLayAll0, PyData.canLay0, PyData.canLay0]
      rfl
    · rw [PyData.depthAll]
      have : PyData.depth (.tuple [.int k, .int m]) = 1 := rfl
      rw [this]
      exact Nat.max_le.mpr ⟨Nat.le_refl _, h3⟩
theorem shaped_refs {ds : List PyData} (h1 : PyData.canLayAll0 ds = true) (h2 : PyData.depthAll ds ≤ 1) : SeqAt.shaped (.list ds) = true := by
  unfold SeqAt.shaped
  rw [Bool.and_eq_true]
  refine ⟨by rw [PyData.canLay0]; exact h1, decide_eq_true ?_⟩
  rw [PyData.depth]
  omega
theorem eqv_nil_d (ds : List PyData) : PyData.eqv (.list ds) (.list []) = ds.isEmpty := by
  cases ds with
  | nil => rfl
  | cons y r => simp [PyData.eqv, PyData.eqvAll]
theorem op_notIn_seqk {X : Cx} {K' : PySem.W.Frag} (hk : X.K = K') : OpR X (compareOp .NotIn) (rIn K' true) := by subst hk; exact op_notIn_seq
end
end H2
namespace H2
open PySem PySem.Spec PyProof.Rows L2 Hx Nd Dun
section
variable {P : Program} {w : World} {K : PySem.W.Frag} {mg : Str → Option Value} {base : Heap} {D : Addr}
/-! ### the code without lines -/
theorem pe_nev {X : Cx} {e : Expr} : PE X e (fun _ _ _ => False) := ⟨fun _ _ _ _ _ _ h => h.elim⟩
def spMB0 (K : PySem.W.Frag) : Sp := fun vs H Q _ => ∃ (t : Addr), vs = [.ref t] ∧ SqT K H t [] ∧
  ∀ H' t' he en, Same H H' → SqT K H' t' [.ref he, .ref en] → H' he = some (.dK []) → H' en = some (.dK []) → he ≠ en → H he = none → H en = none → Q (.ref t') H'
theorem ok_mb0 {f : Addr} (T : FT K mg "match_blocks" s_match_blocks ["rows"] f) (enu : mg "enumerate" = none) :
    ∃ fd, Fun K "match_blocks" "match_blocks" s_match_blocks f fd ∧ Binds K fd ["rows"] [] ∧ FnOk P w K mg base CX0 1 f fd ["rows"] (spMB0 K) := by
  obtain ⟨fd, F, b⟩ := T.fn
  refine ⟨fd, F, b, F.ok c_match_blocks (fun vs H Q E h => ?_) (fun cdv A outer s H vs Q E hr h => ?_)⟩
  · obtain ⟨t, rfl, _⟩ := h
    rfl
  obtain ⟨t, rfl, ht, q⟩ := h
  refine ⟨_, pss_cons (ps_set (i := 1) c_match_blocks.nd rfl (Or.inl rfl) pe_dnewK) <| pss_cons (ps_set (i := 2) c_match_blocks.nd rfl (Or.inl rfl) pe_dnewK) <| pss_cons (ps_set (i := 3) c_match_blocks.nd rfl (Or.inl rfl) (pe_lst pa_nil)) <|
    pss_cons (ps_for PassesOwn.never rfl (Nd.pi_enumT (by rfl) enu (pa_cons (pv 0) pa_nil)) (pg_tup rfl (pgs_cons (pg_name (i := 4) c_match_blocks.nd rfl (Or.inl rfl)) (pgs_cons (pg_name (i := 5) c_match_blocks.nd rfl (Or.inl rfl)) pgs_nil)))
      pss_never) <|
    pss_one (ps_ret (pe_tup (pa_cons (pv 1) (pa_cons (pv 2) pa_nil)))), ?_⟩
  refine fun he nhe => fun en nen => ⟨Nat.zero_le _, fun op nop => ?_⟩
  obtain ⟨nen1, nee⟩ := free_upd nen
  have s3 : Same H (upd (upd (upd H he (.dK [])) en (.dK [])) op (.lst [])) := same_new (same_new (new_same nhe) nen) nop
  have ehe : (upd (upd (upd H he (.dK [])) en (.dK [])) op (.lst [])) he = some (.dK []) := (new_same nop) _ _ ((new_same nen) _ _ upd_same)
  have een : (upd (upd (upd H he (.dK [])) en (.dK [])) op (.lst [])) en = some (.dK []) := (new_same nop) _ _ upd_same
  generalize upd (upd (upd H he (.dK [])) en (.dK [])) op (.lst []) = G0 at s3 ehe een ⊢
  refine ⟨_, rfl, t, _, rfl, sqt_same s3 ht, Nd.for_enumT (K := K) (a := t) (xs := []) (fun i σ G => Same G0 G ∧ ∃ v4 v5, σ = [some (.ref t), some (.ref he), some (.ref en), some (.ref op), v4, v5]) ⟨Same.refl _, none, none, rfl⟩ ?_ ?_ ?_⟩
  · rintro i σ G _ ⟨sG, _⟩
    exact sqt_same sG (sqt_same s3 ht)
  · rintro i v σ G T hi
    cases hi
  · rintro σ G ⟨sG, v4, v5, rfl⟩
    refine ⟨_, rfl, _, rfl, (by show 2 ≤ sizeLine; decide), fun u nu => ?_⟩
    exact q _ u he en (fun c o z => (new_same nu) _ _ (sG _ _ (s3 _ _ z))) (SqT.of upd_same) ((new_same nu) _ _ (sG _ _ ehe)) ((new_same nu) _ _ (sG _ _ een)) nee.symm nhe nen1
def FlowZ (C : Addr) (H : Hp) (p tr he en : Addr) : Prop := (∃ (dx : Addr) (fs : List (Str × V)), H p = some (.ins C dx fs) ∧ fs.lookup ("rows" : Str) = some (V.ref tr) ∧ fs.lookup ("size" : Str) = some (V.int 0) ∧ fs.lookup ("heads" : Str) = some (V.ref he) ∧ fs.lookup ("ends" : Str) = some (V.ref en) ∧
    fs.lookup ("landing" : Str) = none ∧ fs.lookup ("way_past" : Str) = none ∧ fs.lookup ("find_loops" : Str) = none) ∧ H he = some (.dK []) ∧ H en = some (.dK [])
theorem FlowZ.keep {C p tr he en : Addr} {H H' : Hp} (h : FlowZ C H p tr he en) (e : Same H H') : FlowZ C H' p tr he en := by
  obtain ⟨⟨dx, fs, h1, h2⟩, h3, h4⟩ := h
  exact ⟨⟨dx, fs, e _ _ h1, h2⟩, e _ _ h3, e _ _ h4⟩
def spFL0 (C : Addr) : Sp := fun vs H Q _ => ∃ (p tr he en : Addr), vs = [.ref p] ∧ FlowZ C H p tr he en ∧ ∀ H' r, Same H H' → H' r = some (.lst []) → Q (.ref r) H'
theorem ok_fl0 {C : Addr} {m : Nat → Addr} (T : FlowT K mg C m) : ∃ fd, Fun K "find_loops" "Flow.find_loops" s_Flow_find_loops (m 3) fd ∧ Binds K fd ["self"] [] ∧ FnOk P w K mg base CX0 1 (m 3) fd ["self"] (spFL0 C) := by
  obtain ⟨fd, F, b⟩ := T.f3.fn
  refine ⟨fd, F, b, F.ok c_Flow_find_loops (fun vs H Q E h => ?_) (fun cdv A outer s H vs Q E hr h => ?_)⟩
  · obtain ⟨p, tr, he, en, rfl, _⟩ := h
    rfl
  obtain ⟨p, tr, he, en, rfl, hf, q⟩ := h
  obtain ⟨⟨dx, fs, o1, l1, l2, l3, l4, _⟩, hh, hen⟩ := hf
  refine ⟨_, pss_cons (ps_set (i := 1) c_Flow_find_loops.nd rfl (Or.inl rfl) (pe_op op_rep (pe_lst (pa_cons (pe_un un_neg pe_int) pa_nil)) (pe_fld (pv 0) rfl))) <|
    pss_cons (ps_lock (ps_for PassesOwn.never rfl (pi_items (pe_fld (pv 0) rfl)) (pg_tup rfl (pgs_cons (pg_name (i := 2) c_Flow_find_loops.nd rfl (Or.inl rfl)) (pgs_cons (pg_name (i := 3) c_Flow_find_loops.nd rfl (Or.inl rfl)) pgs_nil)))
      (pss_one ps_never))) <|
    pss_one (ps_ret (pv 1)), ?_⟩
  refine ⟨_, rfl, (by show 1 ≤ sizeLine; decide), fun l0 nl0 => ⟨_, rfl, p, C, dx, fs, _, rfl, (new_same nl0) _ _ o1, T.cl, T.nz, l2, l0, _, _, rfl, rfl, upd_same, by decide, by decide, (by show 1 * 0 ≤ sizeLine; decide), fun fo nfo => ?_⟩⟩
  have s1 := same_new (o := .lst (List.replicate (0 : Int).toNat [V.int (-1)]).flatten) (new_same (o := .lst [.int (-1)]) nl0) nfo
  have efo : (upd (upd H l0 (.lst [.int (-1)])) fo (.lst (List.replicate (0 : Int).toNat [V.int (-1)]).flatten)) fo = some (.lst []) := upd_same
  generalize upd (upd H l0 (.lst [.int (-1)])) fo (.lst (List.replicate (0 : Int).toNat [V.int (-1)]).flatten) = G1 at s1 efo ⊢
  have hen1 := s1 _ _ hen
  refine ⟨en, _, hen1, trivial, fun od => ?_⟩
  have hfe : fo ≠ en := ne_of efo hen1 (by intro z; cases z)
  refine ⟨_, rfl, p, C, dx, fs, _, rfl, (by rw [upd_ne (ne_of (s1 _ _ o1) hen1 (by intro z; cases z))]; exact s1 _ _ o1), T.cl, T.ne, l4, en, od, [], rfl, upd_same, for_it walk_items (fun i σ G => G = upd G1 en (.frz od (.dK [])) ∧ σ = [some (.ref p), some (.ref fo), none, none, none]) ⟨rfl, rfl⟩ ?_ ?_ ?_⟩
  · rintro i σ G _ ⟨rfl, _⟩
    exact upd_same
  · rintro i x σ G G' hi _ _
    exact absurd hi (Nat.not_lt_zero _)
  · rintro σ G ⟨rfl, rfl⟩
    refine ⟨upd_same, ?_⟩
    refine ⟨_, rfl, q _ fo ?_ ?_⟩
    · rw [upd_upd]
      intro c o z
      by_cases e : c = en
      · subst e
        rw [hen] at z
        cases z
        exact upd_same
      · rw [upd_ne e]
        exact s1 _ _ z
    · rw [upd_upd, upd_ne hfe]
      exact efo
/-- the flow at p of no row -/
def FlowO (K : PySem.W.Frag) (C : Addr) (H : Hp) (p : Addr) : Prop := ∃ (dx : Addr) (fs : List (Str × V)), H p = some (.ins C dx fs) ∧ fs.lookup ("size" : Str) = some (V.int 0)
theorem FlowO.keep {C p : Addr} {H H' : Hp} (h : FlowO K C H p) (e : Same H H') : FlowO K C H' p := by
  obtain ⟨dx, fs, h1, h2⟩ := h
  exact ⟨dx, fs, e _ _ h1, h2⟩
def spFlow0 (K : PySem.W.Frag) (C : Addr) : Sp := fun vs H Q _ => ∃ (p l dx : Addr), vs = [.ref p, .ref l] ∧ H p = some (.ins C dx []) ∧ H l = some (.lst []) ∧ ∀ H', But p H H' → FlowO K C H' p → Q .non H'
theorem ok_Flow0 {C gM : Addr} {m : Nat → Addr} (T : FlowT K mg C m) (rng : mg "range" = none) (len : mg "len" = none) (tup : mg "tuple" = none)
    {md : FuncData} (FM : Fun K "match_blocks" "match_blocks" s_match_blocks gM md) (bM : Binds K md ["rows"] []) (mM : mg "match_blocks" = some (.ref gM)) (GM : FnOk P w K mg base CX0 1 gM md ["rows"] (spMB0 K)) :
    ∃ fd, Fun K "__init__" "Flow.__init__" s_Flow_init (m 0) fd ∧ Binds K fd ["self", "rows"] [] ∧ FnOk P w K mg base CX0 2 (m 0) fd ["self", "rows"] (spFlow0 K C) := by
  obtain ⟨od, FO, bO, GO⟩ := ok_fl0 (P := P) (w := w) (base := base) T
  obtain ⟨fd, F, b⟩ := T.f0
  refine ⟨fd, F, b, F.ok c_Flow_init (fun vs H Q E h => ?_) (fun cdv A outer s H vs Q E hr h => ?_)⟩
  · obtain ⟨p, l, dx, rfl, _⟩ := h
    rfl
  obtain ⟨p, l, dx, rfl, hp, hl, q⟩ := h
  refine ⟨_, pss_cons (ps_fld (pv 0) (pe_callTy call_tuple_of (by rfl) tup (by decide +kernel) (pa_cons (pv 1) pa_nil)) rfl) <|
    pss_cons (ps_fld (pv 0) (pe_callB (call_len_seq) (by rfl) len PySem.boot_len (pa_cons (pe_fld (pv 0) rfl) pa_nil)) rfl) <|
    pss_cons (ps_asg (pe_call GM hr rfl mM FM.kp bM .nil pass0 (pa_cons (pe_fld (pv 0) rfl) pa_nil)) (pg_tup rfl (pgs_cons (Nd.pg_fld (pv 0)) (pgs_cons (Nd.pg_fld (pv 0)) pgs_nil)))) <|
    pss_cons (ps_fld (pv 0) (pe_callTy call_tuple_of (by rfl) tup (by decide +kernel) (pa_cons (pe_lc (own := [("at", 2)]) (g := gName 2) (tt := tYes) rfl c_Flow_init.nd (pi_range1 rfl rng (pa_cons (pe_fld (pv 0) rfl) pa_nil)) (blkOk_by (own := [("at", 2)]) (N := n_Flow_init) (sc := defScope s_Flow_init) (by decide +kernel))
        (fun _ _ _ _ _ => pg_name (i := 2) c_Flow_init.nd rfl (Or.inl rfl)) (fun _ _ _ _ _ => pts_nil) (fun _ _ _ _ _ => pe_nev)) pa_nil)) rfl) <|
    pss_cons (ps_fld (pv 0) (pe_callTy call_tuple_of (by rfl) tup (by decide +kernel) (pa_cons (pe_lc (own := [("at", 2)]) (g := gName 2) (tt := tYes) rfl c_Flow_init.nd (pi_range1 rfl rng (pa_cons (pe_fld (pv 0) rfl) pa_nil)) (blkOk_by (own := [("at", 2)]) (N := n_Flow_init) (sc := defScope s_Flow_init) (by decide +kernel))
        (fun _ _ _ _ _ => pg_name (i := 2) c_Flow_init.nd rfl (Or.inl rfl)) (fun _ _ _ _ _ => pts_nil) (fun _ _ _ _ _ => pe_nev)) pa_nil)) rfl) <|
    pss_one (ps_fld (pv 0) (pe_callTy call_tuple_of (by rfl) tup (by decide +kernel) (pa_cons (pe_meth0 (pv 0) T.cl T.f3.m GO hr bO .nil pass0) pa_nil)) rfl), ?_⟩
  have npl : l ≠ p := ne_of hl hp (by intro z; cases z)
  refine ⟨_, rfl, l, _, rfl, .inl ⟨SqL.of hl, fun tr ntr => ⟨_, rfl, p, C, dx, [], rfl, (new_same ntr) _ _ hp, T.cl, T.nr, (by show 0 < 1000; decide), ?_⟩⟩⟩
  have ntrp : tr ≠ p := (ne_of_none hp ntr).symm
  have htr : SqT K (upd (upd H tr (.tup [])) p (.ins C dx (putF "rows" (.ref tr) []))) tr [] := SqT.of (by rw [upd_ne ntrp, upd_same])
  refine ⟨_, rfl, p, C, dx, _, _, rfl, upd_same, T.cl, T.nr, rfl, tr, _, rfl, .inr htr, _, rfl, p, C, dx, _, rfl, upd_same, T.cl, T.nz, (by show 1 < 1000; decide), ?_⟩
  rw [upd_upd]
  have b3 : But p H (upd (upd H tr (.tup [])) p (.ins C dx (putF "size" (.int (([] : List V).length : Nat)) (putF "rows" (.ref tr) [])))) := (Same.but (new_same ntr)).trans But.upd
  have htr3 : SqT K (upd (upd H tr (.tup [])) p (.ins C dx (putF "size" (.int (([] : List V).length : Nat)) (putF "rows" (.ref tr) [])))) tr [] := SqT.of (by rw [upd_ne ntrp, upd_same])
  have hp3 : (upd (upd H tr (.tup [])) p (.ins C dx (putF "size" (.int (([] : List V).length : Nat)) (putF "rows" (.ref tr) [])))) p = some (.ins C dx [("rows", .ref tr), ("size", .int 0)]) := upd_same
  generalize upd (upd H tr (.tup [])) p (.ins C dx (putF "size" (.int (([] : List V).length : Nat)) (putF "rows" (.ref tr) []))) = H3 at b3 htr3 hp3 ⊢
  refine ⟨_, rfl, p, C, dx, _, _, rfl, hp3, T.cl, T.nr, rfl, tr, rfl, htr3, fun H4 t' he en s4 ht' ehe een hne nhe nen => ?_⟩
  have hp4 := s4 _ _ hp3
  have nhep : he ≠ p := (ne_of_none hp3 nhe).symm
  have nenp : en ≠ p := (ne_of_none hp3 nen).symm
  refine ⟨t', _, rfl, ht', rfl, _, _, rfl, _, rfl, p, C, dx, _, rfl, hp4, T.cl, T.nh, (by show 2 < 1000; decide), _, _, rfl, _, rfl, p, C, dx, _, rfl, upd_same, T.cl, T.ne, (by show 3 < 1000; decide), rfl, ?_⟩
  rw [upd_upd]
  have b5 : But p H (upd H4 p (.ins C dx (putF "ends" (.ref en) (putF "heads" (.ref he) [("rows", .ref tr), ("size", .int 0)])))) := (b3.trans (Same.but s4)).trans But.upd
  have he5 : (upd H4 p (.ins C dx (putF "ends" (.ref en) (putF "heads" (.ref he) [("rows", .ref tr), ("size", .int 0)])))) he = some (.dK []) := by rw [upd_ne nhep]; exact ehe
  have en5 : (upd H4 p (.ins C dx (putF "ends" (.ref en) (putF "heads" (.ref he) [("rows", .ref tr), ("size", .int 0)])))) en = some (.dK []) := by rw [upd_ne nenp]; exact een
  have hp5 : (upd H4 p (.ins C dx (putF "ends" (.ref en) (putF "heads" (.ref he) [("rows", .ref tr), ("size", .int 0)])))) p = some (.ins C dx (flowF tr 0 he en [])) := upd_same
  generalize upd H4 p (.ins C dx (putF "ends" (.ref en) (putF "heads" (.ref he) [("rows", .ref tr), ("size", .int 0)]))) = H5 at b5 he5 en5 hp5 ⊢
  -- after
  refine ⟨_, rfl, p, C, dx, _, _, rfl, hp5, T.cl, T.nz, rfl, 0, rfl, by decide, by decide, fun D nD => ?_⟩
  refine lcr_map (lo := 0) (n := 0) (te := fun _ _ _ => False) (j := 2) (fun x => .int (x + 1)) nD (by decide) (fun _ => rfl) (fun x G Z h0 h1 sG hz => ?_) (fun G6 s6 e6 => ?_)
  · exfalso
    have h2 : x < 0 + 0 := h1
    omega
  refine ⟨D, _, rfl, .inl ⟨SqL.of e6, fun ta nta => ?_⟩⟩
  have s6a := same_new (o := .tup ((rangeI 0 0).map fun x => V.int (x + 1))) s6 nta
  generalize upd G6 ta (.tup ((rangeI 0 0).map fun x => V.int (x + 1))) = G6a at s6a ⊢
  have hp6 := s6a _ _ hp5
  refine ⟨_, rfl, p, C, dx, _, rfl, hp6, T.cl, T.na, (by show 4 < 1000; decide), ?_⟩
  have b7 : But p H (upd G6a p (.ins C dx (putF "after" (.ref ta) (flowF tr 0 he en [])))) := (b5.trans (Same.but s6a)).trans But.upd
  have he7 : (upd G6a p (.ins C dx (putF "after" (.ref ta) (flowF tr 0 he en [])))) he = some (.dK []) := by rw [upd_ne nhep]; exact s6a _ _ he5
  have en7 : (upd G6a p (.ins C dx (putF "after" (.ref ta) (flowF tr 0 he en [])))) en = some (.dK []) := by rw [upd_ne nenp]; exact s6a _ _ en5
  have hp7 : (upd G6a p (.ins C dx (putF "after" (.ref ta) (flowF tr 0 he en [])))) p = some (.ins C dx (flowF tr 0 he en [("after", .ref ta)])) := upd_same
  generalize upd G6a p (.ins C dx (putF "after" (.ref ta) (flowF tr 0 he en []))) = H7 at b7 he7 en7 hp7 ⊢
  -- other
  refine ⟨_, rfl, p, C, dx, _, _, rfl, hp7, T.cl, T.nz, rfl, 0, rfl, by decide, by decide, fun D2 nD2 => ?_⟩
  refine lcr_map (lo := 0) (n := 0) (te := fun _ _ _ => False) (j := 2) (fun x => .int 1) nD2 (by decide) (fun _ => rfl) (fun x G Z h0 h1 sG hz => ?_) (fun G8 s8 e8 => ?_)
  · exfalso
    have h2 : x < 0 + 0 := h1
    omega
  refine ⟨D2, _, rfl, .inl ⟨SqL.of e8, fun tb ntb => ?_⟩⟩
  have s8a := same_new (o := .tup ((rangeI 0 0).map fun x => V.int 1)) s8 ntb
  generalize upd G8 tb (.tup ((rangeI 0 0).map fun x => V.int 1)) = G8a at s8a ⊢
  have hp8 := s8a _ _ hp7
  refine ⟨_, rfl, p, C, dx, _, rfl, hp8, T.cl, T.no, (by show 5 < 1000; decide), ?_⟩
  have b9 : But p H (upd G8a p (.ins C dx (putF "other" (.ref tb) (flowF tr 0 he en [("after", .ref ta)])))) := (b7.trans (Same.but s8a)).trans But.upd
  have he9 : (upd G8a p (.ins C dx (putF "other" (.ref tb) (flowF tr 0 he en [("after", .ref ta)])))) he = some (.dK []) := by rw [upd_ne nhep]; exact s8a _ _ he7
  have en9 : (upd G8a p (.ins C dx (putF "other" (.ref tb) (flowF tr 0 he en [("after", .ref ta)])))) en = some (.dK []) := by rw [upd_ne nenp]; exact s8a _ _ en7
  have hp9 : (upd G8a p (.ins C dx (putF "other" (.ref tb) (flowF tr 0 he en [("after", .ref ta)])))) p = some (.ins C dx (flowF tr 0 he en [("after", .ref ta), ("other", .ref tb)])) := upd_same
  generalize upd G8a p (.ins C dx (putF "other" (.ref tb) (flowF tr 0 he en [("after", .ref ta)]))) = H9 at b9 he9 en9 hp9 ⊢
  have f9 : FlowZ C H9 p tr he en := ⟨⟨dx, _, hp9, rfl, rfl, rfl, rfl, rfl, rfl, rfl⟩, he9, en9⟩
  refine ⟨_, rfl, p, dx, _, rfl, hp9, rfl, p, tr, he, en, rfl, f9, fun G10 rr s10 er => ?_⟩
  refine ⟨rr, _, rfl, .inl ⟨SqL.of er, fun tc ntc => ?_⟩⟩
  have s11 := same_new (o := .tup []) s10 ntc
  have hp11 := s11 _ _ hp9
  refine ⟨_, rfl, p, C, dx, _, rfl, hp11, T.cl, T.nl, (by show 6 < 1000; decide), q _ ((b9.trans (Same.but s11)).trans But.upd) ⟨dx, _, upd_same, rfl⟩⟩
end
end H2
namespace H2
open PySem PySem.Spec PyProof.Rows L2 Hx Nd Dun
section
variable {P : Program} {w : World} {K : PySem.W.Frag} {mg : Str → Option Value} {base : Heap} {D : Addr}
/-! ### reading no line -/
def spRows0 (K : PySem.W.Frag) : Sp := fun vs H Q _ => ∃ (l : Addr) (z : V), vs = [.ref l, z] ∧ H l = some (.lst []) ∧ ∀ H' r, Same H H' → H' r = some (.lst []) → Q (.ref r) H'
theorem ok_rows0 {f : Addr} (T : FT K mg "read_rows" s_read_rows psLW f) (enu : mg "enumerate" = none) : ∃ fd, Fun K "read_rows" "read_rows" s_read_rows f fd ∧ Binds K fd psLW [] ∧ FnOk P w K mg base CX0 1 f fd psLW (spRows0 K) := by
  obtain ⟨fd, F, b⟩ := T.fn
  refine ⟨fd, F, b, F.ok c_read_rows (fun vs H Q E h => ?_) (fun cdv A outer s H vs Q E hr h => ?_)⟩
  · obtain ⟨l, z, rfl, _⟩ := h
    rfl
  obtain ⟨l, z, rfl, hl, q⟩ := h
  refine ⟨_, pss_cons (ps_set (i := 2) c_read_rows.nd rfl (Or.inl rfl) (pe_lst pa_nil)) (pss_cons (ps_set (i := 3) c_read_rows.nd rfl (Or.inl rfl) (pe_lst pa_nil))
    (pss_cons (ps_for PassesOwn.never rfl (Nd.pi_from enu (by decide) (by decide) (pa_cons (pv 0) pa_nil)) (pg_tup rfl (pgs_cons (pg_name (i := 4) c_read_rows.nd rfl (Or.inl rfl)) (pgs_cons (pg_name (i := 5) c_read_rows.nd rfl (Or.inl rfl)) pgs_nil)))
      pss_never)
    (pss_cons (ps_if (pt_truth (pv 3) (by intro _; rfl)) (pss_one ps_never) pss_nil)
    (pss_one (ps_ret (pv 2)))))), ?_⟩
  refine ⟨Nat.zero_le _, fun lr nr => ⟨Nat.zero_le _, fun lo no => ?_⟩⟩
  obtain ⟨no1, nlr⟩ := free_upd no
  have s2 : Same H (upd (upd H lr (.lst [])) lo (.lst [])) := same_new (new_same nr) no
  have elr : (upd (upd H lr (.lst [])) lo (.lst [])) lr = some (.lst []) := (new_same no) _ _ upd_same
  have elo : (upd (upd H lr (.lst [])) lo (.lst [])) lo = some (.lst []) := upd_same
  generalize upd (upd H lr (.lst [])) lo (.lst []) = G0 at s2 elr elo ⊢
  refine ⟨_, rfl, l, _, rfl, SqL.of (s2 _ _ hl), for_from (K := K) (a := l) (xs := []) (fun i σ G => G = G0 ∧ σ = [some (.ref l), some z, some (.ref lr), some (.ref lo), none, none, none]) ⟨rfl, rfl⟩ ?_ ?_ ?_⟩
  · rintro i σ G _ ⟨rfl, _⟩
    exact SqL.of (s2 _ _ hl)
  · rintro i x σ G Tp hi
    cases hi
  · rintro σ G ⟨rfl, rfl⟩
    refine ⟨_, rfl, false, .inl ⟨_, SqL.of elo, rfl⟩, iteF ?_⟩
    exact ⟨_, rfl, q _ lr s2 elr⟩
def spLeast0 : Sp := fun vs H Q _ => ∃ (l : Addr) (kd : V), vs = [kd, .ref l] ∧ H l = some (.lst []) ∧ ∀ H', Same H H' → Q .non H'
theorem ok_least0 {f C aF : Addr} {m : Nat → Addr} (T0 : FT K mg "least_break" s_least_break psLB f) (T : WalkT K mg C m) (cF : FreshT K mg aF) (lst : mg "list" = none) (enu : mg "enumerate" = none) (mn : mg "min" = none) :
    ∃ fd, Fun K "least_break" "least_break" s_least_break f fd ∧ Binds K fd psLB [] ∧ FnOk P w K mg base CX0 3 f fd psLB spLeast0 := by
  obtain ⟨fd, F, b⟩ := T0.fn
  obtain ⟨d6, F6, b6, G6⟩ := ok_end (P := P) (w := w) (base := base) T lst
  obtain ⟨d0, F0, b0⟩ := T.f0
  refine ⟨fd, F, b, F.ok c_least_break (fun vs H Q E h => ?_) (fun cdv A outer s H vs Q E hr h => ?_)⟩
  · obtain ⟨l, kd, rfl, _⟩ := h
    rfl
  obtain ⟨l, kd, rfl, hl, q⟩ := h
  refine ⟨_, pss_cons (ps_set (i := 2) c_least_break.nd rfl (Or.inl rfl) (pe_make T.mak (ok_Walk T cF F0) (hr.mono (by decide)) rfl T.g b0 .nil pass0 (pa_cons (pv 0) pa_nil)))
    (pss_cons (ps_for PassesOwn.never rfl (Nd.pi_from enu (by decide) (by decide) (pa_cons (pv 1) pa_nil)) (pg_tup rfl (pgs_cons (pg_name (i := 3) c_least_break.nd rfl (Or.inl rfl)) (pgs_cons (pg_name (i := 4) c_least_break.nd rfl (Or.inl rfl)) pgs_nil)))
      (pss_one ps_never))
    (pss_cons (ps_expr (pe_meth0 (pv 2) T.cl T.f6.m G6 (hr.mono (by decide)) b6 .nil pass0))
    (pss_one (ps_ret (pe_callBK (Nd.call_min0 rfl hr.units) rfl mn (by decide +kernel) (pa_cons (pe_fld (pv 2) rfl) pa_nil) (pk_cons pe_non pk_nil)))))), ?_⟩
  refine ⟨_, rfl, fun wk dx nwk nd nw => ⟨wk, dx, kd, rfl, upd_same, fun H1 br fo b1' nbr nfo w1 => ⟨rfl, ?_⟩⟩⟩
  have nwk' : upd H dx (.own wk) wk = none := by rw [upd_ne nw.symm]; exact nwk
  have sH : Same H (upd (upd H dx (.own wk)) wk (.ins C dx [])) := same_new (new_same nd) nwk'
  have s1 : Same H H1 := fun c u z => b1' c u (ne_of_none z nwk) (sH c u z)
  have nfoH : H fo = none := free_same sH nfo
  refine ⟨_, rfl, l, _, rfl, SqL.of (s1 _ _ hl), for_from (K := K) (a := l) (xs := []) (fun i σ G => G = H1 ∧ σ = [some kd, some (.ref l), some (.ref wk), none, none]) ⟨rfl, rfl⟩ ?_ ?_ ?_⟩
  · rintro i σ G _ ⟨rfl, _⟩
    exact SqL.of (s1 _ _ hl)
  · rintro i x σ G Tp hi
    cases hi
  · rintro σ G ⟨rfl, rfl⟩
    obtain ⟨⟨dxw, wy, ks, fs, h1, _⟩, _⟩ := id w1
    refine ⟨_, rfl, wk, dxw, _, rfl, h1, rfl, wk, br, fo, kd, .no, rfl, w1, fun G2 bt w2 => ?_⟩
    obtain ⟨⟨dxw, wy, ks, fs, h1, h2, _⟩, _⟩ := id w2
    exact ⟨_, rfl, wk, C, dxw, _, _, rfl, h1, T.cl, T.nb, rfl, br, .non, rfl, rfl, SqL.of h2, q _ (bt.same s1 nwk nfoH)⟩
/-! ### Code of the empty text -/
structure CodeX (K : PySem.W.Frag) (mg : Str → Option Value) (C m : Addr) : Prop where
  g : mg "Code" = some (.ref C)
  mak : Mk K C m
  cl : Cls K C
  nk : NoAttr K C "kind"
  nw : NoAttr K C "width"
  nt : NoAttr K C "text"
  nf : NoAttr K C "flow"
  nm : NoAttr K C "memory"
  nl : NoAttr K C "_lines"
  f0 : ∃ fd, Fun K "__init__" "Code.__init__" s_Code_init m fd ∧ Binds K fd ["self", "kind", "width", "text"] []
abbrev psCD : List Str := ["self", "kind", "width", "text"]
theorem wd_in {w : Nat} (h : WdN w) : inV (.int (w : Int)) widthsV = true := by
  rcases h with rfl | rfl | rfl <;> rfl
def CodH (C : Addr) (H : Hp) (c : Addr) (kd : Str) (w : Nat) (fl : Addr) : Prop := ∃ dx fs, H c = some (.ins C dx fs) ∧ fs.lookup ("kind" : Str) = some (V.str kd) ∧ fs.lookup ("width" : Str) = some (V.int (w : Nat)) ∧ fs.lookup ("flow" : Str) = some (V.ref fl)
theorem CodH.keep {C : Addr} {H H' : Hp} {c : Addr} {kd : Str} {w : Nat} {fl : Addr} (h : CodH C H c kd w fl) (e : Same H H') : CodH C H' c kd w fl := by
  obtain ⟨dx, fs, h1, h2⟩ := h
  exact ⟨dx, fs, e _ _ h1, h2⟩
/-- a code for trees without lines -/
def CodO (K : PySem.W.Frag) (C CF : Addr) (H : Hp) (c : Addr) (w : Nat) : Prop := ∃ fl : Addr, CodH C H c "tree" w fl ∧ FlowO K CF H fl
theorem CodO.keep {C CF c : Addr} {H H' : Hp} {w : Nat} (h : CodO K C CF H c w) (e : Same H H') : CodO K C CF H' c w := by
  obtain ⟨fl, h1, h2⟩ := h
  exact ⟨fl, h1.keep e, h2.keep e⟩
def spCode0 (K : PySem.W.Frag) (C CF : Addr) : Sp := fun vs H Q _ => ∃ (p dx : Addr) (w : Nat), vs = [.ref p, .str "tree", .int (w : Int), .str ""] ∧ H p = some (.ins C dx []) ∧ WdN w ∧ ∀ H', But p H H' → CodO K C CF H' p w → Q .non H'
theorem ok_Code0 {CF : Addr} {mF : Nat → Addr} (TF : FlowT K mg CF mF) {fdF : FuncData} (bF : Binds K fdF ["self", "rows"] []) {C g1 g2 g3 g4 m0 : Addr} (T : CodeX K mg C m0) (len : mg "len" = none) (tup : mg "tuple" = none) {tk60 : Value} (GF : FnOk P w K mg base CX0 2 (mF 0) fdF ["self", "rows"] (spFlow0 K CF)) (m60 : mg "MOST_LINES" = some tk60) (r60 : RelV (.int 60) tk60) {d1 d2 d3 d4 : FuncData}
    (F1 : Fun K "is_kind" "is_kind" s_is_kind g1 d1) (b1 : Binds K d1 ["value"] []) (m1 : mg "is_kind" = some (.ref g1)) (G1 : FnOk P w K mg base CX0 1 g1 d1 ["value"] (spIs K "str" kindsV))
    (F2 : Fun K "is_width" "is_width" s_is_width g2 d2) (b2 : Binds K d2 ["value"] []) (m2 : mg "is_width" = some (.ref g2)) (G2 : FnOk P w K mg base CX0 1 g2 d2 ["value"] (spIs K "int" widthsV))
    (F3 : Fun K "read_rows" "read_rows" s_read_rows g3 d3) (b3 : Binds K d3 psLW []) (m3 : mg "read_rows" = some (.ref g3)) (G3 : FnOk P w K mg base CX0 1 g3 d3 psLW (spRows0 K))
    (F4 : Fun K "least_break" "least_break" s_least_break g4 d4) (b4 : Binds K d4 psLB []) (m4 : mg "least_break" = some (.ref g4)) (G4 : FnOk P w K mg base CX0 3 g4 d4 psLB spLeast0) :
    ∃ fd, Fun K "__init__" "Code.__init__" s_Code_init m0 fd ∧ Binds K fd psCD [] ∧ FnOk P w K mg base CX0 4 m0 fd psCD (spCode0 K C CF) := by
  obtain ⟨fd, F, b⟩ := T.f0
  refine ⟨fd, F, b, F.ok c_Code_init (fun vs H Q E h => ?_) (fun cdv A outer s H vs Q E hr h => ?_)⟩
  · obtain ⟨p, dx, wd, rfl, _⟩ := h
    rfl
  obtain ⟨p, dx, wd, rfl, hp, hwd, q⟩ := h
  refine ⟨_, pss_cons (ps_if (pt_not (pt_val (pe_call G1 (hr.mono (by decide)) rfl m1 F1.kp b1 .nil pass0 (pa_cons (pv 1) pa_nil)))) (pss_one ps_never) pss_nil)
    (pss_cons (ps_if (pt_not (pt_val (pe_call G2 (hr.mono (by decide)) rfl m2 F2.kp b2 .nil pass0 (pa_cons (pv 2) pa_nil)))) (pss_one ps_never) pss_nil)
    (pss_cons (ps_set (i := 4) c_Code_init.nd rfl (Or.inl rfl) (pe_ifExp (pt_truth (pv 3) (by intro _; rfl)) (pe_split (pv 3) pe_str) (pe_lst pa_nil)))
    (pss_cons (ps_if (pt_cmpR op_gt (pe_callB call_len_seq (by rfl) len PySem.boot_len (pa_cons (pv 4) pa_nil)) (pe_glob (v := .int 60) rfl m60 r60) (nomark _)) (pss_one ps_never) pss_nil)
    (pss_cons (ps_set (i := 5) c_Code_init.nd rfl (Or.inl rfl) (pe_call G3 (hr.mono (by decide)) rfl m3 F3.kp b3 .nil pass0 (pa_cons (pv 4) (pa_cons (pv 2) pa_nil))))
    (pss_cons (ps_set (i := 6) c_Code_init.nd rfl (Or.inl rfl) (pe_call G4 hr rfl m4 F4.kp b4 .nil pass0 (pa_cons (pv 1) (pa_cons (pv 5) pa_nil))))
    (pss_cons (ps_if (pt_cmp (pc_notN (pv 6))) (pss_one ps_never) pss_nil)
    (pss_cons (ps_fld (pv 0) (pv 1) rfl) (pss_cons (ps_fld (pv 0) (pv 2) rfl) (pss_cons (ps_fld (pv 0) (pv 3) rfl) (pss_cons (ps_fld (pv 0) (pe_make TF.mak GF (hr.mono (by decide)) rfl TF.g bF .nil pass0 (pa_cons (pv 5) pa_nil)) rfl) (pss_cons (ps_fld (pv 0) pe_dnewK rfl) (pss_one (ps_fld (pv 0) (pe_callTy call_tuple_of (by rfl) tup (by decide +kernel) (pa_cons (pv 4) pa_nil)) rfl))))))))))))), ?_⟩
  refine ⟨_, rfl, .str "tree", .type "str", true, rfl, .base (.str "tree"), kit_ty (by decide +kernel), fun _ => rfl, _, rfl, iteBF (by decide +kernel) ?_⟩
  refine ⟨_, rfl, .int (wd : Int), .type "int", true, rfl, .base (.int _), kit_ty (by decide +kernel), fun _ => rfl, _, rfl, iteBF (by rw [wd_in hwd]; rfl) ?_⟩
  refine ⟨_, rfl, false, ⟨by decide +kernel, by decide +kernel⟩, iteF ?_⟩
  refine ⟨Nat.zero_le _, fun l nl => ?_⟩
  have sG := new_same (o := .lst []) nl
  have hl : (upd H l (.lst [])) l = some (.lst []) := upd_same
  generalize upd H l (.lst []) = G at sG hl ⊢
  refine ⟨_, rfl, l, _, rfl, .inl (SqL.of hl), _, _, rfl, rfl, _, rfl, iteBF (by decide) ?_⟩
  refine ⟨_, rfl, _, rfl, l, .int (wd : Int), rfl, hl, fun H2 r s2 er => ?_⟩
  refine ⟨_, rfl, _, rfl, r, .str "tree", rfl, er, fun H3 s3 => ?_⟩
  refine ⟨_, rfl, _, rfl, iteBF (by decide) ?_⟩
  have sH := (sG.trans s2).trans s3
  have hp3 := sH _ _ hp
  refine ⟨_, rfl, _, rfl, p, C, dx, _, rfl, hp3, T.cl, T.nk, (by show 0 < 1000; decide), ?_⟩
  refine ⟨_, rfl, _, rfl, p, C, dx, _, rfl, upd_same, T.cl, T.nw, (by show 1 < 1000; decide), ?_⟩
  refine ⟨_, rfl, _, rfl, p, C, dx, _, rfl, upd_same, T.cl, T.nt, (by show 2 < 1000; decide), ?_⟩
  rw [upd_upd, upd_upd]
  have hl3 := s2.trans s3 _ _ hl
  have er3 := s3 _ _ er
  have npl : l ≠ p := ne_of hl3 hp3 (by intro z; cases z)
  have npr : r ≠ p := ne_of er3 hp3 (by intro z; cases z)
  obtain ⟨fs3, hfs3⟩ : ∃ fs3 : List (Str × V), fs3 = [(("kind" : Str), V.str ("tree" : Str)), (("width" : Str), V.int (wd : Int)), (("text" : Str), V.str ("" : Str))] := ⟨_, rfl⟩
  have e3 : putF "text" (.str ("" : Str)) (putF "width" (.int (wd : Int)) (putF "kind" (.str ("tree" : Str)) [])) = fs3 := hfs3.symm
  rw [e3]
  have b3 : But p H (upd H3 p (.ins C dx fs3)) := (Same.but sH).trans But.upd
  have p3 : (upd H3 p (.ins C dx fs3)) p = some (.ins C dx fs3) := upd_same
  have l3 : (upd H3 p (.ins C dx fs3)) l = some (.lst []) := by rw [upd_ne npl]; exact hl3
  have r3 : (upd H3 p (.ins C dx fs3)) r = some (.lst []) := by rw [upd_ne npr]; exact er3
  generalize upd H3 p (.ins C dx fs3) = G3' at b3 p3 l3 r3 ⊢
  refine ⟨_, rfl, fun xf dxf nx ndx nex => ?_⟩
  have sAB := made_row (C := CF) (o := .ins CF dxf []) (Same.refl G3') nx ndx nex
  refine ⟨xf, r, dxf, rfl, upd_same, sAB _ _ r3, fun H5 b5 hfl => ⟨rfl, ?_⟩⟩
  have sA5 : Same G3' H5 := fun c o z => b5 _ _ (ne_of_none z nx) (sAB _ _ z)
  have p5 := sA5 _ _ p3
  subst hfs3
  refine ⟨_, rfl, p, C, dx, _, rfl, p5, T.cl, T.nf, (by show 3 < 1000; decide), ?_⟩
  refine fun me nme => ⟨_, rfl, p, C, dx, _, rfl, (new_same nme) _ _ upd_same, T.cl, T.nm, (by show 4 < 1000; decide), ?_⟩
  obtain ⟨nme5, nmep⟩ := free_upd nme
  have b5F : But p H5 (upd (upd (upd H5 p (.ins C dx (putF "flow" (.ref xf) [("kind", .str "tree"), ("width", .int (wd : Int)), ("text", .str "")]))) me (.dK [])) p (.ins C dx (putF "memory" (.ref me) (putF "flow" (.ref xf) [("kind", .str "tree"), ("width", .int (wd : Int)), ("text", .str "")])))) :=
    ((But.upd).trans (Same.but (new_same nme))).trans But.upd
  have pF : (upd (upd (upd H5 p (.ins C dx (putF "flow" (.ref xf) [("kind", .str "tree"), ("width", .int (wd : Int)), ("text", .str "")]))) me (.dK [])) p (.ins C dx (putF "memory" (.ref me) (putF "flow" (.ref xf) [("kind", .str "tree"), ("width", .int (wd : Int)), ("text", .str "")])))) p = some (.ins C dx [("kind", .str "tree"), ("width", .int (wd : Int)), ("text", .str ""), ("flow", .ref xf), ("memory", .ref me)]) := upd_same
  generalize upd (upd (upd H5 p (.ins C dx (putF "flow" (.ref xf) [("kind", .str "tree"), ("width", .int (wd : Int)), ("text", .str "")]))) me (.dK [])) p (.ins C dx (putF "memory" (.ref me) (putF "flow" (.ref xf) [("kind", .str "tree"), ("width", .int (wd : Int)), ("text", .str "")]))) = HF at b5F pF ⊢
  have lF : HF l = some (.lst []) := b5F _ _ npl (sA5 _ _ l3)
  refine ⟨_, rfl, l, _, rfl, .inl ⟨SqL.of lF, fun lt nlt => ?_⟩⟩
  have pF2 := (new_same nlt (o := .tup [])) _ _ pF
  refine ⟨_, rfl, p, C, dx, _, rfl, pF2, T.cl, T.nl, (by show 5 < 1000; decide), ?_⟩
  have bZ : But p H5 (upd (upd HF lt (.tup [])) p (.ins C dx (putF "_lines" (.ref lt) [("kind", .str "tree"), ("width", .int (wd : Int)), ("text", .str ""), ("flow", .ref xf), ("memory", .ref me)]))) := (b5F.trans (Same.but (new_same nlt))).trans But.upd
  have nxp : xf ≠ p := (ne_of_none p3 nx).symm
  refine q _ (b3.trans ((Same.but sA5).trans bZ)) ⟨xf, ⟨dx, _, upd_same, rfl, rfl, rfl⟩, ?_⟩
  obtain ⟨dxf', fs, f1, f2⟩ := hfl
  exact ⟨dxf', fs, bZ _ _ nxp f1, f2⟩
end
end H2
namespace H2
open PySem PySem.Spec PyProof.Rows L2 Hx Nd Dun
section
variable {P : Program} {w : World} {K : PySem.W.Frag} {mg : Str → Option Value} {base : Heap} {D : Addr}
theorem tyof_keep {H H' : Hp} {x : V} {t : Value} (h : TyOf K H x t) (e : Same H H') : TyOf K H' x t := by
  cases h with
  | non => exact .non
  | bl b => exact .bl b
  | int i => exact .int i
  | str y => exact .str y
  | flt y => exact .flt y
  | lst z => exact .lst (e _ _ z)
  | frz z => exact .frz (e _ _ z)
  | tup z => exact .tup (e _ _ z)
  | dK z => exact .dK (e _ _ z)
  | dT z => exact .dT (e _ _ z)
  | ins z c1 c2 c3 c4 c5 => exact .ins (e _ _ z) c1 c2 c3 c4 c5
theorem tyx_keep {H H' : Hp} {x : V} {t : Value} (h : TyX K H x t) (e : Same H H') : TyX K H' x t := by
  cases h with
  | base z => exact .base (tyof_keep z e)
  | byt b => exact .byt b
  | set z => exact .set (e _ _ z)
  | kList a b => exact .kList a b
  | kTuple a b => exact .kTuple a b
  | kDict a b => exact .kDict a b
  | fTuple z => exact .fTuple (e _ _ z)
  | fDict z => exact .fDict (e _ _ z)
end
end H2
namespace H2
open PySem PySem.Spec PyProof.Rows L2 Hx Nd Dun
section
variable {P : Program} {w : World} {K : PySem.W.Frag} {mg : Str → Option Value} {base : Heap} {D : Addr}
/-! ### a value that is no item, or whose mark stands already -/
structure ErrC (K : PySem.W.Frag) (mg : Str → Option Value) (D : Addr) (C I : Nat → Addr) : Prop where
  base : BaseT K mg D
  t5 : ClT K mg "BadItem" "BadItem.__init__" iBadItem ["self", "index"] ["index"] (C 5) (I 5)
/-- no item, or an item with a mark of one of these -/
def BadV (K : PySem.W.Frag) (H : Hp) (its : List (Int × Int)) (v : V) : Prop := ItemV K H v false ∨ ∃ (a : Addr) (k : Int) (j : Nat), v = .ref a ∧ H a = some (.tup [.int k, .int (mkA its j)]) ∧ j < its.length
theorem IntV.keep {H H' : Hp} {v : V} {b : Bool} (h : IntV K H v b) (e : Same H H') : IntV K H' v b := by
  obtain ⟨t, b1, b2, ty, r⟩ := h
  exact ⟨t, b1, b2, tyx_keep ty e, r⟩
theorem ItemV.keep {H H' : Hp} {v : V} {b : Bool} (h : ItemV K H v b) (e : Same H H') : ItemV K H' v b := by
  obtain ⟨t, b1, ty, k1, h0, h1⟩ := h
  refine ⟨t, b1, tyx_keep ty e, k1, h0, fun z => ?_⟩
  obtain ⟨a, xs, e1, e2, e3, e4⟩ := h1 z
  refine ⟨a, xs, e1, sqt_same e e2, e3, fun x y z => ?_⟩
  obtain ⟨c, d, h3, h4, h5⟩ := e4 x y z
  exact ⟨c, d, h3.keep e, h4.keep e, h5⟩
theorem BadV.keep {H H' : Hp} {its : List (Int × Int)} {v : V} (h : BadV K H its v) (e : Same H H') : BadV K H' its v := by
  rcases h with h | ⟨a, k, j, h1, h2, h3⟩
  · exact .inl (h.keep e)
  · exact .inr ⟨a, k, j, h1, e _ _ h2, h3⟩
def spFBX (K : PySem.W.Frag) : Sp := fun vs H Q _ => ∃ (l : Addr) (as : List Addr) (its : List (Int × Int)) (v : V) (rest : List V), vs = [.ref l] ∧ SqL K H l (itV as ++ v :: rest) ∧ ItA H as its ∧ MkNd its ∧ its.length ≤ 900 ∧ BadV K H its v ∧ ∀ H', Same H H' → Q (.int (its.length : Nat)) H'
theorem ok_fbx {f g : Addr} (T0 : FT K mg "first_bad_item" s_first_bad_item ["values"] f) (enu : mg "enumerate" = none) {gd : FuncData} (FI : Fun K "is_item" "is_item" s_is_item g gd) (bI : Binds K gd ["value"] []) (mI : mg "is_item" = some (.ref g)) (GI : FnOk P w K mg base CX0 2 g gd ["value"] (spItem K)) :
    ∃ fd, Fun K "first_bad_item" "first_bad_item" s_first_bad_item f fd ∧ Binds K fd ["values"] [] ∧ FnOk P w K mg base CX0 3 f fd ["values"] (spFBX K) := by
  obtain ⟨fd, F, b⟩ := T0.fn
  refine ⟨fd, F, b, F.ok c_first_bad_item (fun vs H Q E h => ?_) (fun cdv A outer s H vs Q E hr h => ?_)⟩
  · obtain ⟨l, as, its, v, rest, rfl, _⟩ := h
    rfl
  obtain ⟨l, as, its, bv, rest, rfl, hl, ha, hm, hn, hb, q⟩ := h
  refine ⟨_, pss_cons (ps_set (i := 1) c_first_bad_item.nd rfl (Or.inl rfl) pe_dnewK) <|
    pss_cons (ps_for PassesOwn.never rfl (pi_enum (by rfl) enu (pa_cons (pv 0) pa_nil)) (pg_tup rfl (pgs_cons (pg_name (i := 2) c_first_bad_item.nd rfl (Or.inl rfl)) (pgs_cons (pg_name (i := 3) c_first_bad_item.nd rfl (Or.inl rfl)) pgs_nil)))
      (pss_cons (ps_if (PW.pt (pw_or (pt_not (pt_val (pe_call GI hr rfl mI FI.kp bI .nil pass0 (pa_cons (pv 3) pa_nil)))) (pw_or1 (pt_cmp (pc_din (hu_of hr) (pe_ix ix_tup (pv 3) pe_int (fun _ _ => rfl)) (pv 1)))))) (pss_one (ps_ret (pv 2))) pss_nil) <|
      pss_one (ps_dput (hu_of hr) (pv 1) (pe_ix ix_tup (pv 3) pe_int (fun _ _ => rfl)) pe_bl rfl))) <|
    pss_one (ps_ret pe_non), ?_⟩
  have hal : (itV as).length = its.length := itV_len ha
  intro d nd
  refine ⟨_, rfl, l, _, rfl, sqt_list_same hl (new_same nd), for_it (walk_enum (xs := itV as ++ bv :: rest)) (fun i σ G => i ≤ its.length ∧ Same H G ∧ (∃ kvs, G d = some (.dK kvs) ∧ kvs.length ≤ i ∧ (∀ m : Int, valV kvs (Sum.inl m) ≠ none → ∃ j, j < i ∧ mkA its j = m) ∧ ∀ j, j < i → valV kvs (Sum.inl (mkA its j)) ≠ none) ∧ ∃ v2 v3, σ = [some (.ref l), some (.ref d), v2, v3])
    ⟨Nat.zero_le _, new_same nd, ⟨[], upd_same, Nat.le_refl _, fun m h => absurd rfl h, fun j h => by omega⟩, none, none, rfl⟩ ?_ ?_ ?_⟩
  · rintro i σ G _ ⟨_, sG, _⟩
    exact sqt_list_same hl sG
  · rintro i x σ G G' hi ⟨hil, sG, ⟨kvs, ed, hk, hv, hw⟩, v2, v3, rfl⟩ ⟨Tn, k, v, rfl, nT, rfl, hk1, hk2⟩
    cases hk1
    have hk2 : (itV as ++ bv :: rest)[i]? = some v := hk2
    by_cases e : i < its.length
    · rw [List.getElem?_append_left (by rw [hal]; exact e)] at hk2
      obtain ⟨a, e1, rfl⟩ := itV_at hk2
      obtain ⟨_, e2⟩ := ha.get e1
      have sT := same_new (o := .tup [.int (i : Nat), .ref a]) sG nT
      have e3 := sT _ _ e2
      have ed' : (upd G Tn (.tup [.int (i : Nat), .ref a])) d = some (.dK kvs) := (new_same nT) _ _ ed
      refine ⟨Tn, _, rfl, SqT.of upd_same, rfl, _, _, rfl, _, _, rfl, rfl, ?_⟩
      refine ⟨_, rfl, .ref a, true, rfl, itemV_tup e3, _, rfl, iteF ?_⟩
      have hnone : valV kvs (Sum.inl (mkA its i)) = none := by
        cases hz : valV kvs (Sum.inl (mkA its i)) with
        | none => rfl
        | some z =>
          obtain ⟨j, hj, e'⟩ := hv _ (by rw [hz]; exact Option.some_ne_none _)
          have := hm j i (by omega) e e'
          omega
      refine ⟨_, rfl, a, _, _, _, rfl, rfl, SqT.of e3, rfl, _, rfl, d, _, rfl, DGet.k (k := Sum.inl (mkA its i)) ed', _, rfl, ?_⟩
      rw [hnone]
      refine iteF ?_
      refine ⟨_, rfl, _, rfl, a, _, _, _, rfl, rfl, SqT.of e3, rfl, d, _, rfl, DPut.k (k := Sum.inl (mkA its i)) ed' (big (by omega)), ?_⟩
      refine ⟨e, fun c o z => ?_, ⟨_, upd_same, Nat.le_trans put_len (by omega), fun m h => ?_, fun j hj => ?_⟩, _, _, rfl⟩
      · rw [upd_ne (ne_of_none z nd)]
        exact sT _ _ z
      · rw [valV_put] at h
        by_cases e' : (Sum.inl m : Key) = Sum.inl (mkA its i)
        · injection e' with e'
          exact ⟨i, by omega, e'.symm⟩
        · rw [if_neg e'] at h
          obtain ⟨j, hj, e''⟩ := hv m h
          exact ⟨j, by omega, e''⟩
      · rw [valV_put]
        by_cases e' : (Sum.inl (mkA its j) : Key) = Sum.inl (mkA its i)
        · rw [if_pos e']
          exact Option.some_ne_none _
        · rw [if_neg e']
          refine hw j ?_
          rcases Nat.lt_or_ge j i with z | z
          · exact z
          · have : j = i := by omega
            rw [this] at e'
            exact absurd rfl e'
    · have ei : i = its.length := by omega
      rw [List.getElem?_append_right (by rw [hal]; omega), hal, ei, Nat.sub_self] at hk2
      have ev : bv = v := Option.some.inj hk2
      subst ev
      have sT := same_new (o := .tup [.int (i : Nat), bv]) sG nT
      have ed' : (upd G Tn (.tup [.int (i : Nat), bv])) d = some (.dK kvs) := (new_same nT) _ _ ed
      refine ⟨Tn, _, rfl, SqT.of upd_same, rfl, _, _, rfl, _, _, rfl, rfl, ?_⟩
      have fin := q _ sT
      rw [← ei] at fin
      rcases hb.keep sT with h1 | ⟨a, k, j, rfl, h2, h3⟩
      · exact ⟨_, rfl, bv, false, rfl, h1, _, rfl, iteT ⟨_, rfl, fin⟩⟩
      · refine ⟨_, rfl, .ref a, true, rfl, itemV_tup h2, _, rfl, iteF ?_⟩
        refine ⟨_, rfl, a, _, _, _, rfl, rfl, SqT.of h2, rfl, _, rfl, d, _, rfl, DGet.k (k := Sum.inl (mkA its j)) ed', _, rfl, ?_⟩
        have : (valV kvs (Sum.inl (mkA its j))).isSome = true := by
          cases hz : valV kvs (Sum.inl (mkA its j)) with
          | none => exact absurd hz (hw j (by omega))
          | some z => rfl
        first
          | (rw [this]; exact iteT ⟨_, rfl, fin⟩)
          | (cases hz : valV kvs (Sum.inl (mkA its j)) with
             | none => exact absurd hz (hw j (by omega))
             | some z => exact iteT ⟨_, rfl, fin⟩)
  · rintro σ G ⟨hle, _⟩
    rw [List.length_append, hal, List.length_cons] at hle
    omega
abbrev psCI : List Str := ["items"]
def spCIX (K : PySem.W.Frag) (CB : Addr) : Sp := fun vs H _ E => ∃ (l : Addr) (as : List Addr) (its : List (Int × Int)) (v : V) (rest : List V), vs = [.ref l] ∧ SqL K H l (itV as ++ v :: rest) ∧ ItA H as its ∧ MkNd its ∧ its.length ≤ 900 ∧ BadV K H its v ∧ ∀ H', Same H H' → err1 CB "index" (.int (its.length : Nat)) H' E
theorem ok_cix {f g1 DB : Addr} {EC EI : Nat → Addr} (T0 : FT K mg "check_items" s_check_items psCI f) (ET : ErrC K mg DB EC EI) {d1 : FuncData}
    (F1 : Fun K "first_bad_item" "first_bad_item" s_first_bad_item g1 d1) (b1 : Binds K d1 ["values"] []) (m1 : mg "first_bad_item" = some (.ref g1)) (G1 : FnOk P w K mg base CX0 3 g1 d1 ["values"] (spFBX K)) :
    ∃ fd, Fun K "check_items" "check_items" s_check_items f fd ∧ Binds K fd psCI [] ∧ FnOk P w K mg base (L2.CX P w) 4 f fd psCI (spCIX K (EC 5)) := by
  obtain ⟨fd, F, b⟩ := T0.fn
  refine ⟨fd, F, b, F.okX c_check_items (fun vs H Q E h => ?_) (fun cdv A outer s H vs Q E hr h => ?_)⟩
  · obtain ⟨l, as, its, v, rest, rfl, _⟩ := h
    rfl
  obtain ⟨l, as, its, v, rest, rfl, hl, ha, hm, hn, hb, q⟩ := h
  have tk : Takes (cxOf (L2.CX P w) P w K mg base n_check_items "check_items" (defScope s_check_items) f cdv A outer s H E) (fun cls d _ G => E cls d G) := takes_of rfl rfl rfl rfl
  refine ⟨_, pss_cons (ps_set (i := 1) c_check_items.nd rfl (Or.inl rfl) (pe_call G1 (hr.mono (by decide)) rfl m1 F1.kp b1 .nil pass0 (pa_cons (pv 0) pa_nil))) <|
    pss_one (ps_if (pt_cmp (pc_notN (pv 1))) (pss_one (ps_rz rfl tk ET.t5 (fun fd F => okBadItem F ET.base) (hr.mono (by decide)) (pa_cons (pv 1) pa_nil))) pss_nil), ?_⟩
  refine ⟨_, rfl, l, as, its, v, rest, rfl, hl, ha, hm, hn, hb, fun H1 s1 => ?_⟩
  refine ⟨_, rfl, _, rfl, iteBT (by simp) ?_⟩
  exact ⟨_, rfl, mk1 (Q := fun cls d H' => E cls d H') (H1 := H1) ET.t5.ex.oex (ET.t5.nf _ List.mem_cons_self) (q _ s1)⟩
def spCI (K : PySem.W.Frag) : Sp := fun vs H Q _ => ∃ (l : Addr) (as : List Addr) (its : List (Int × Int)), vs = [.ref l] ∧ SqL K H l (itV as) ∧ ItA H as its ∧ MkNd its ∧ its.length ≤ 900 ∧ ∀ H', Same H H' → Q .non H'
theorem ok_ci {f g1 DB : Addr} {EC EI : Nat → Addr} (T0 : FT K mg "check_items" s_check_items psCI f) (ET : ErrC K mg DB EC EI) {d1 : FuncData}
    (F1 : Fun K "first_bad_item" "first_bad_item" s_first_bad_item g1 d1) (b1 : Binds K d1 ["values"] []) (m1 : mg "first_bad_item" = some (.ref g1)) (G1 : FnOk P w K mg base CX0 3 g1 d1 ["values"] (spFB K)) :
    ∃ fd, Fun K "check_items" "check_items" s_check_items f fd ∧ Binds K fd psCI [] ∧ FnOk P w K mg base (L2.CX P w) 4 f fd psCI (spCI K) := by
  obtain ⟨fd, F, b⟩ := T0.fn
  refine ⟨fd, F, b, F.okX c_check_items (fun vs H Q E h => ?_) (fun cdv A outer s H vs Q E hr h => ?_)⟩
  · obtain ⟨l, as, its, rfl, _⟩ := h
    rfl
  obtain ⟨l, as, its, rfl, hl, ha, hm, hn, q⟩ := h
  have tk : Takes (cxOf (L2.CX P w) P w K mg base n_check_items "check_items" (defScope s_check_items) f cdv A outer s H E) (fun cls d _ G => E cls d G) := takes_of rfl rfl rfl rfl
  refine ⟨_, pss_cons (ps_set (i := 1) c_check_items.nd rfl (Or.inl rfl) (pe_call G1 (hr.mono (by decide)) rfl m1 F1.kp b1 .nil pass0 (pa_cons (pv 0) pa_nil))) <|
    pss_one (ps_if (pt_cmp (pc_notN (pv 1))) (pss_one ps_never) pss_nil), ?_⟩
  refine ⟨_, rfl, l, as, its, rfl, hl, ha, hm, hn, fun H1 s1 => ?_⟩
  exact ⟨_, rfl, _, rfl, iteBF (by decide) (q _ s1)⟩
/-! ### check_case, play: the list is refused -/
abbrev psCC : List Str := ["code", "items", "start", "given"]
def spCCX (K : PySem.W.Frag) (CB : Addr) : Sp := fun vs H _ E => ∃ (c sv gv : V) (l : Addr) (as : List Addr) (its : List (Int × Int)) (v : V) (rest : List V), vs = [c, .ref l, sv, gv] ∧ SqL K H l (itV as ++ v :: rest) ∧ ItA H as its ∧ MkNd its ∧ its.length ≤ 900 ∧ BadV K H its v ∧ ∀ H', Same H H' → err1 CB "index" (.int (its.length : Nat)) H' E
theorem ok_ccx {f g1 : Addr} {EC : Nat → Addr} (T0 : FT K mg "check_case" s_check_case psCC f) {d1 : FuncData}
    (F1 : Fun K "check_items" "check_items" s_check_items g1 d1) (b1 : Binds K d1 psCI []) (m1 : mg "check_items" = some (.ref g1)) (G1 : FnOk P w K mg base (L2.CX P w) 4 g1 d1 psCI (spCIX K (EC 5))) :
    ∃ fd, Fun K "check_case" "check_case" s_check_case f fd ∧ Binds K fd psCC [] ∧ FnOk P w K mg base (L2.CX P w) 5 f fd psCC (spCCX K (EC 5)) := by
  obtain ⟨fd, F, b⟩ := T0.fn
  refine ⟨fd, F, b, F.okX c_check_case (fun vs H Q E h => ?_) (fun cdv A outer s H vs Q E hr h => ?_)⟩
  · obtain ⟨c, sv, gv, l, as, its, v, rest, rfl, _⟩ := h
    rfl
  obtain ⟨c, sv, gv, l, as, its, v, rest, rfl, hl, ha, hm, hn, hb, q⟩ := h
  have tk : Takes (cxOf (L2.CX P w) P w K mg base n_check_case "check_case" (defScope s_check_case) f cdv A outer s H E) (fun cls d _ G => E cls d G) := takes_of rfl rfl rfl rfl
  refine ⟨_, pss_cons (ps_expr (pe_callS G1 hr rfl m1 F1.kp b1 (fun σ => passAt tk σ) (pa_cons (pv 1) pa_nil))) pss_never, ?_⟩
  exact ⟨_, rfl, l, as, its, v, rest, rfl, hl, ha, hm, hn, hb, q⟩
abbrev psPy : List Str := ["code", "items", "start", "given"]
theorem ok_playx {f g1 : Addr} {EC : Nat → Addr} {fd : FuncData} (F : FunD K "play" "play" (defArgs s_play) (defBody s_play) (defScope s_play) [.non, .non] [] f fd) {d1 : FuncData}
    (F1 : Fun K "check_case" "check_case" s_check_case g1 d1) (b1 : Binds K d1 psCC []) (m1 : mg "check_case" = some (.ref g1)) (G1 : FnOk P w K mg base (L2.CX P w) 5 g1 d1 psCC (spCCX K (EC 5))) :
    FnOk P w K mg base (L2.CX P w) 6 f fd psPy (spCCX K (EC 5)) := by
  refine F.ok (CX := L2.CX P w) c_play (fun vs H Q E h => ?_) (fun cdv A outer s H vs Q E hr h => ?_)
  · obtain ⟨c, sv, gv, l, as, its, v, rest, rfl, _⟩ := h
    rfl
  obtain ⟨c, sv, gv, l, as, its, v, rest, rfl, hl, ha, hm, hn, hb, q⟩ := h
  have tk : Takes (cxOf (L2.CX P w) P w K mg base n_play "play" (defScope s_play) f cdv A outer s H E) (fun cls d _ G => E cls d G) := takes_of rfl rfl rfl rfl
  refine ⟨_, pss_cons (ps_expr (pe_callS G1 hr rfl m1 F1.kp b1 (fun σ => passAt tk σ) (pa_cons (pv 0) (pa_cons (pv 1) (pa_cons (pv 2) (pa_cons (pv 3) pa_nil)))))) pss_never, ?_⟩
  exact ⟨_, rfl, _, rfl, _, rfl, _, rfl, c, sv, gv, l, as, its, v, rest, rfl, hl, ha, hm, hn, hb, q⟩
end
end H2
namespace H2
open PySem PySem.Spec PyProof.Rows L2 Hx Nd Dun
section
variable {P : Program} {w : World} {K : PySem.W.Frag} {mg : Str → Option Value} {base : Heap} {D : Addr}
/-! ### building -/
structure CodA (K : PySem.W.Frag) (C : Addr) : Prop where
  cl : Cls K C
  nk : NoAttr K C "kind"
  nw : NoAttr K C "width"
  nf : NoAttr K C "flow"
structure PlT (K : PySem.W.Frag) (mg : Str → Option Value) (C : Addr) (m : Nat → Addr) : Prop where
  g : mg "Player" = some (.ref C)
  mak : Mk K C (m 0)
  cl : Cls K C
  n : ∀ x ∈ (["flow", "width", "row", "start", "given", "noted", "place", "hand", "mate", "told", "compares", "ended", "at", "loop", "met", "used", "sides_seen", "stations_met"] : List Str), NoAttr K C x
  f0 : ∃ fd, Fun K "__init__" "Player.__init__" s_Player_init (m 0) fd ∧ Binds K fd ["self", "code", "items", "start", "given"] []
  f1 : MT K C "item" "Player.item" s_Player_item ["self", "place"] (m 1)
  f4 : MT K C "run" "Player.run" s_Player_run ["self"] (m 4)
  f5 : MT K C "step" "Player.step" s_Player_step ["self", "row"] (m 5)
def plF (fl : Addr) (w : Nat) (row : Addr) (st gv : V) (en : Addr) (told ended : V) (at' : Int) (met used sd sm : Addr) : List (Str × V) :=
  [("flow", .ref fl), ("width", .int (w : Nat)), ("row", .ref row), ("start", st), ("given", gv), ("noted", .ref en), ("place", st), ("hand", .non), ("mate", .non), ("told", told), ("compares", .int 0), ("ended", ended), ("at", .int at'), ("loop", .int (-1)), ("met", .ref met), ("used", .ref used), ("sides_seen", .ref sd), ("stations_met", .ref sm)]
def pf7 (fl : Addr) (w : Nat) (row : Addr) (st gv : V) (en : Addr) : List (Str × V) := [("flow", .ref fl), ("width", .int (w : Nat)), ("row", .ref row), ("start", st), ("given", gv), ("noted", .ref en), ("place", st)]
def pf14 (fl : Addr) (w : Nat) (row : Addr) (st gv : V) (en : Addr) (r : List (Str × V)) : List (Str × V) := ("flow", .ref fl) :: ("width", .int (w : Nat)) :: ("row", .ref row) :: ("start", st) :: ("given", gv) :: ("noted", .ref en) :: ("place", st) :: ("hand", .non) :: ("mate", .non) :: ("told", .non) :: ("compares", .int 0) :: ("ended", .non) :: ("at", .int 0) :: ("loop", .int (-1)) :: r
abbrev psPlr : List Str := ["self", "code", "items", "start", "given"]
def spPl (K : PySem.W.Frag) (C CC : Addr) : Sp := fun vs H Q _ => ∃ (p dx c l fl : Addr) (as : List Addr) (kd : Str) (w : Nat) (st gv : V), vs = [.ref p, .ref c, .ref l, st, gv] ∧ H p = some (.ins C dx []) ∧ CodH CC H c kd w fl ∧ H l = some (.tup (itV as)) ∧ c ≠ p ∧
  ∀ H' row en met used sd sm, But p H H' → H' p = some (.ins C dx (plF fl w row st gv en .non .non 0 met used sd sm)) → H' row = some (.lst (itV as)) → H' en = some (.dK []) → H' used = some (.dK []) → H' sd = some (.dK []) → H' sm = some (.lst []) → H row = none → H used = none → used ≠ sd → en ≠ used → Q .non H'
theorem fr_but {p a : Addr} {H H' : Hp} (b : But p H H') (n : a ≠ p) (h : H' a = none) : H a = none := by
  cases z : H a with
  | none => rfl
  | some o =>
    have := b a o n z
    rw [h] at this
    cases this
theorem ok_pl {C CC : Addr} {m : Nat → Addr} (T : PlT K mg C m) (CA : CodA K CC) (lst : mg "list" = none) : ∃ fd, Fun K "__init__" "Player.__init__" s_Player_init (m 0) fd ∧ Binds K fd psPlr [] ∧ FnOk P w K mg base CX0 1 (m 0) fd psPlr (spPl K C CC) := by
  obtain ⟨fd, F, b⟩ := T.f0
  refine ⟨fd, F, b, F.ok c_Player_init (fun vs H Q E h => ?_) (fun cdv A outer s H vs Q E hr h => ?_)⟩
  · obtain ⟨p, dx, c, l, fl, as, kd, w, st, gv, rfl, _⟩ := h
    rfl
  obtain ⟨p, dx, c, l, fl, as, kd, wn, st, gv, rfl, hp, hc, hl, ncp, q⟩ := h
  refine ⟨_, pss_cons (ps_fld (pv 0) (pe_fld (pv 1) rfl) rfl) <| pss_cons (ps_fld (pv 0) (pe_fld (pv 1) rfl) rfl) <| pss_cons (ps_fld (pv 0) (pe_callTy call_list_of (by rfl) lst (by decide +kernel) (pa_cons (pv 2) pa_nil)) rfl) <|
    pss_cons (ps_fld (pv 0) (pv 3) rfl) <| pss_cons (ps_fld (pv 0) (pv 4) rfl) <| pss_cons (ps_fld (pv 0) pe_dnewK rfl) <| pss_cons (ps_fld (pv 0) (pv 3) rfl) <| pss_cons (ps_fld (pv 0) pe_non rfl) <| pss_cons (ps_fld (pv 0) pe_non rfl) <| pss_cons (ps_fld (pv 0) pe_non rfl) <| pss_cons (ps_fld (pv 0) pe_int rfl) <| pss_cons (ps_fld (pv 0) pe_non rfl) <|
    pss_cons (ps_fld (pv 0) pe_int rfl) <| pss_cons (ps_fld (pv 0) (pe_un un_neg pe_int) rfl) <| pss_cons (ps_fld (pv 0) (pe_lst pa_nil) rfl) <| pss_cons (ps_fld (pv 0) pe_dnewK rfl) <| pss_cons (ps_fld (pv 0) pe_dnewK rfl) <| pss_one (ps_fld (pv 0) (pe_lst pa_nil) rfl), ?_⟩
  obtain ⟨dxc, fsc, o1, l1, l2, l3⟩ := id hc
  refine ⟨_, rfl, c, CC, dxc, fsc, _, rfl, o1, CA.cl, CA.nf, l3, _, rfl, p, C, dx, _, rfl, hp, T.cl, T.n _ (by simp), (by show 0 < 1000; decide), ?_⟩
  have o2 : (upd H p (.ins C dx (putF "flow" (.ref fl) []))) c = some (.ins CC dxc fsc) := by rw [upd_ne ncp]; exact o1
  refine ⟨_, rfl, c, CC, dxc, fsc, _, rfl, o2, CA.cl, CA.nw, l2, _, rfl, p, C, dx, _, rfl, upd_same, T.cl, T.n _ (by simp), (by show 1 < 1000; decide), ?_⟩
  rw [upd_upd]
  have b2 : But p H (upd H p (.ins C dx (putF "width" (.int (wn : Nat)) (putF "flow" (.ref fl) [])))) := But.upd
  have p2 : (upd H p (.ins C dx (putF "width" (.int (wn : Nat)) (putF "flow" (.ref fl) [])))) p = some (.ins C dx [("flow", .ref fl), ("width", .int (wn : Nat))]) := upd_same
  have hl2 : (upd H p (.ins C dx (putF "width" (.int (wn : Nat)) (putF "flow" (.ref fl) [])))) l = some (.tup (itV as)) := by rw [upd_ne (ne_of hl hp (by intro z; cases z))]; exact hl
  generalize upd H p (.ins C dx (putF "width" (.int (wn : Nat)) (putF "flow" (.ref fl) []))) = H2 at b2 p2 hl2 ⊢
  refine ⟨_, rfl, l, _, rfl, .inr (SqT.of hl2), fun row nrow => ?_⟩
  have nrp : row ≠ p := (ne_of_none p2 nrow).symm
  refine ⟨_, rfl, p, C, dx, _, rfl, (new_same nrow) _ _ p2, T.cl, T.n _ (by simp), (by show 2 < 1000; decide), ?_⟩
  have b3 : But p H (upd (upd H2 row (.lst (itV as))) p (.ins C dx (putF "row" (.ref row) [("flow", .ref fl), ("width", .int (wn : Nat))]))) := (b2.trans (Same.but (new_same nrow))).trans But.upd
  have p3 : (upd (upd H2 row (.lst (itV as))) p (.ins C dx (putF "row" (.ref row) [("flow", .ref fl), ("width", .int (wn : Nat))]))) p = some (.ins C dx [("flow", .ref fl), ("width", .int (wn : Nat)), ("row", .ref row)]) := upd_same
  have r3 : (upd (upd H2 row (.lst (itV as))) p (.ins C dx (putF "row" (.ref row) [("flow", .ref fl), ("width", .int (wn : Nat))]))) row = some (.lst (itV as)) := by rw [upd_ne nrp, upd_same]
  have nrowH := fr_but b2 nrp nrow
  generalize upd (upd H2 row (.lst (itV as))) p (.ins C dx (putF "row" (.ref row) [("flow", .ref fl), ("width", .int (wn : Nat))])) = H3 at b3 p3 r3 ⊢
  refine ⟨_, rfl, _, rfl, p, C, dx, _, rfl, p3, T.cl, T.n _ (by simp), (by show 3 < 1000; decide), ?_⟩
  refine ⟨_, rfl, _, rfl, p, C, dx, _, rfl, upd_same, T.cl, T.n _ (by simp), (by show 4 < 1000; decide), ?_⟩
  rw [upd_upd]
  have b3' : But p H (upd H3 p (.ins C dx (putF "given" gv (putF "start" st [("flow", .ref fl), ("width", .int (wn : Nat)), ("row", .ref row)])))) := b3.trans But.upd
  have p3' : (upd H3 p (.ins C dx (putF "given" gv (putF "start" st [("flow", .ref fl), ("width", .int (wn : Nat)), ("row", .ref row)])))) p = some (.ins C dx [("flow", .ref fl), ("width", .int (wn : Nat)), ("row", .ref row), ("start", st), ("given", gv)]) := upd_same
  have r3' : (upd H3 p (.ins C dx (putF "given" gv (putF "start" st [("flow", .ref fl), ("width", .int (wn : Nat)), ("row", .ref row)])))) row = some (.lst (itV as)) := by rw [upd_ne nrp]; exact r3
  generalize upd H3 p (.ins C dx (putF "given" gv (putF "start" st [("flow", .ref fl), ("width", .int (wn : Nat)), ("row", .ref row)]))) = H3' at b3' p3' r3' ⊢
  refine fun en nen => ⟨_, rfl, p, C, dx, _, rfl, (new_same nen) _ _ p3', T.cl, T.n _ (by simp), (by show 5 < 1000; decide), ?_⟩
  have nep : en ≠ p := (ne_of_none p3' nen).symm
  refine ⟨_, rfl, _, rfl, p, C, dx, _, rfl, upd_same, T.cl, T.n _ (by simp), (by show 6 < 1000; decide), ?_⟩
  rw [upd_upd]
  have b4 : But p H (upd (upd H3' en (.dK [])) p (.ins C dx (putF "place" st (putF "noted" (.ref en) [("flow", .ref fl), ("width", .int (wn : Nat)), ("row", .ref row), ("start", st), ("given", gv)])))) := (b3'.trans (Same.but (new_same nen))).trans But.upd
  have p4 : (upd (upd H3' en (.dK [])) p (.ins C dx (putF "place" st (putF "noted" (.ref en) [("flow", .ref fl), ("width", .int (wn : Nat)), ("row", .ref row), ("start", st), ("given", gv)])))) p = some (.ins C dx (pf7 fl wn row st gv en)) := upd_same
  have r4 : (upd (upd H3' en (.dK [])) p (.ins C dx (putF "place" st (putF "noted" (.ref en) [("flow", .ref fl), ("width", .int (wn : Nat)), ("row", .ref row), ("start", st), ("given", gv)])))) row = some (.lst (itV as)) := by rw [upd_ne nrp]; exact (new_same nen) _ _ r3'
  have d4 : (upd (upd H3' en (.dK [])) p (.ins C dx (putF "place" st (putF "noted" (.ref en) [("flow", .ref fl), ("width", .int (wn : Nat)), ("row", .ref row), ("start", st), ("given", gv)])))) en = some (.dK []) := by rw [upd_ne nep, upd_same]
  generalize upd (upd H3' en (.dK [])) p (.ins C dx (putF "place" st (putF "noted" (.ref en) [("flow", .ref fl), ("width", .int (wn : Nat)), ("row", .ref row), ("start", st), ("given", gv)]))) = H4 at b4 p4 r4 d4 ⊢
  refine ⟨_, rfl, p, C, dx, _, rfl, p4, T.cl, T.n _ (by simp), (by show 7 < 1000; decide), ?_⟩
  refine ⟨_, rfl, p, C, dx, _, rfl, upd_same, T.cl, T.n _ (by simp), (by show 8 < 1000; decide), ?_⟩
  refine ⟨_, rfl, p, C, dx, _, rfl, upd_same, T.cl, T.n _ (by simp), (by show 9 < 1000; decide), ?_⟩
  refine ⟨_, rfl, p, C, dx, _, rfl, upd_same, T.cl, T.n _ (by simp), (by show 10 < 1000; decide), ?_⟩
  refine ⟨_, rfl, p, C, dx, _, rfl, upd_same, T.cl, T.n _ (by simp), (by show 11 < 1000; decide), ?_⟩
  refine ⟨_, rfl, p, C, dx, _, rfl, upd_same, T.cl, T.n _ (by simp), (by show 12 < 1000; decide), ?_⟩
  refine ⟨_, rfl, _, rfl, p, C, dx, _, rfl, upd_same, T.cl, T.n _ (by simp), (by show 13 < 1000; decide), ?_⟩
  rw [upd_upd, upd_upd, upd_upd, upd_upd, upd_upd, upd_upd]
  have e5 : (putF "loop" (.int (-1)) (putF "at" (.int 0) (putF "ended" .non (putF "compares" (.int 0) (putF "told" .non (putF "mate" .non (putF "hand" .non (pf7 fl wn row st gv en)))))))) = (pf14 fl wn row st gv en []) := rfl
  rw [e5]
  have b5 : But p H (upd H4 p (.ins C dx (pf14 fl wn row st gv en []))) := b4.trans But.upd
  have p5 : (upd H4 p (.ins C dx (pf14 fl wn row st gv en []))) p = some (.ins C dx (pf14 fl wn row st gv en [])) := upd_same
  have r5 : (upd H4 p (.ins C dx (pf14 fl wn row st gv en []))) row = some (.lst (itV as)) := by rw [upd_ne nrp]; exact r4
  have d5 : (upd H4 p (.ins C dx (pf14 fl wn row st gv en []))) en = some (.dK []) := by rw [upd_ne nep]; exact d4
  generalize upd H4 p (.ins C dx (pf14 fl wn row st gv en [])) = H5 at b5 p5 r5 d5 ⊢
  -- met
  refine ⟨Nat.zero_le _, fun met nmet => ⟨_, rfl, p, C, dx, _, rfl, (new_same nmet) _ _ p5, T.cl, T.n _ (by simp), (by show 14 < 1000; decide), ?_⟩⟩
  have e6 : putF "met" (.ref met) (pf14 fl wn row st gv en []) = pf14 fl wn row st gv en [("met", .ref met)] := rfl
  rw [e6]
  have b6 : But p H (upd (upd H5 met (.lst [])) p (.ins C dx (pf14 fl wn row st gv en [("met", .ref met)]))) := (b5.trans (Same.but (new_same nmet))).trans But.upd
  have p6 : (upd (upd H5 met (.lst [])) p (.ins C dx (pf14 fl wn row st gv en [("met", .ref met)]))) p = some (.ins C dx (pf14 fl wn row st gv en [("met", .ref met)])) := upd_same
  have r6 : (upd (upd H5 met (.lst [])) p (.ins C dx (pf14 fl wn row st gv en [("met", .ref met)]))) row = some (.lst (itV as)) := by rw [upd_ne nrp]; exact (new_same nmet) _ _ r5
  have d6 : (upd (upd H5 met (.lst [])) p (.ins C dx (pf14 fl wn row st gv en [("met", .ref met)]))) en = some (.dK []) := by rw [upd_ne nep]; exact (new_same nmet) _ _ d5
  generalize upd (upd H5 met (.lst [])) p (.ins C dx (pf14 fl wn row st gv en [("met", .ref met)])) = H6 at b6 p6 r6 d6 ⊢
  -- used
  refine fun us nus => ⟨_, rfl, p, C, dx, _, rfl, (new_same nus) _ _ p6, T.cl, T.n _ (by simp), (by show 15 < 1000; decide), ?_⟩
  have nup : us ≠ p := (ne_of_none p6 nus).symm
  have nusH := fr_but b6 nup nus
  have e7 : putF "used" (.ref us) (pf14 fl wn row st gv en [("met", .ref met)]) = pf14 fl wn row st gv en [("met", .ref met), ("used", .ref us)] := rfl
  rw [e7]
  have b7 : But p H (upd (upd H6 us (.dK [])) p (.ins C dx (pf14 fl wn row st gv en [("met", .ref met), ("used", .ref us)]))) := (b6.trans (Same.but (new_same nus))).trans But.upd
  have p7 : (upd (upd H6 us (.dK [])) p (.ins C dx (pf14 fl wn row st gv en [("met", .ref met), ("used", .ref us)]))) p = some (.ins C dx (pf14 fl wn row st gv en [("met", .ref met), ("used", .ref us)])) := upd_same
  have r7 : (upd (upd H6 us (.dK [])) p (.ins C dx (pf14 fl wn row st gv en [("met", .ref met), ("used", .ref us)]))) row = some (.lst (itV as)) := by rw [upd_ne nrp]; exact (new_same nus) _ _ r6
  have u7 : (upd (upd H6 us (.dK [])) p (.ins C dx (pf14 fl wn row st gv en [("met", .ref met), ("used", .ref us)]))) us = some (.dK []) := by rw [upd_ne nup, upd_same]
  have neus : en ≠ us := ne_of_none d6 nus
  have d7 : (upd (upd H6 us (.dK [])) p (.ins C dx (pf14 fl wn row st gv en [("met", .ref met), ("used", .ref us)]))) en = some (.dK []) := by rw [upd_ne nep]; exact (new_same nus) _ _ d6
  generalize upd (upd H6 us (.dK [])) p (.ins C dx (pf14 fl wn row st gv en [("met", .ref met), ("used", .ref us)])) = H7 at b7 p7 r7 u7 d7 ⊢
  -- sides_seen
  refine fun sd nsd => ⟨_, rfl, p, C, dx, _, rfl, (new_same nsd) _ _ p7, T.cl, T.n _ (by simp), (by show 16 < 1000; decide), ?_⟩
  have nsp : sd ≠ p := (ne_of_none p7 nsd).symm
  have e8 : putF "sides_seen" (.ref sd) (pf14 fl wn row st gv en [("met", .ref met), ("used", .ref us)]) = pf14 fl wn row st gv en [("met", .ref met), ("used", .ref us), ("sides_seen", .ref sd)] := rfl
  rw [e8]
  have b8 : But p H (upd (upd H7 sd (.dK [])) p (.ins C dx (pf14 fl wn row st gv en [("met", .ref met), ("used", .ref us), ("sides_seen", .ref sd)]))) := (b7.trans (Same.but (new_same nsd))).trans But.upd
  have p8 : (upd (upd H7 sd (.dK [])) p (.ins C dx (pf14 fl wn row st gv en [("met", .ref met), ("used", .ref us), ("sides_seen", .ref sd)]))) p = some (.ins C dx (pf14 fl wn row st gv en [("met", .ref met), ("used", .ref us), ("sides_seen", .ref sd)])) := upd_same
  have r8 : (upd (upd H7 sd (.dK [])) p (.ins C dx (pf14 fl wn row st gv en [("met", .ref met), ("used", .ref us), ("sides_seen", .ref sd)]))) row = some (.lst (itV as)) := by rw [upd_ne nrp]; exact (new_same nsd) _ _ r7
  have u8 : (upd (upd H7 sd (.dK [])) p (.ins C dx (pf14 fl wn row st gv en [("met", .ref met), ("used", .ref us), ("sides_seen", .ref sd)]))) us = some (.dK []) := by rw [upd_ne nup]; exact (new_same nsd) _ _ u7
  have v8 : (upd (upd H7 sd (.dK [])) p (.ins C dx (pf14 fl wn row st gv en [("met", .ref met), ("used", .ref us), ("sides_seen", .ref sd)]))) sd = some (.dK []) := by rw [upd_ne nsp, upd_same]
  have nus_sd : us ≠ sd := ne_of_none u7 nsd
  have d8 : (upd (upd H7 sd (.dK [])) p (.ins C dx (pf14 fl wn row st gv en [("met", .ref met), ("used", .ref us), ("sides_seen", .ref sd)]))) en = some (.dK []) := by rw [upd_ne nep]; exact (new_same nsd) _ _ d7
  generalize upd (upd H7 sd (.dK [])) p (.ins C dx (pf14 fl wn row st gv en [("met", .ref met), ("used", .ref us), ("sides_seen", .ref sd)])) = H8 at b8 p8 r8 u8 v8 d8 ⊢
  -- stations_met
  refine ⟨Nat.zero_le _, fun sm nsm => ⟨_, rfl, p, C, dx, _, rfl, (new_same nsm) _ _ p8, T.cl, T.n _ (by simp), (by show 17 < 1000; decide), ?_⟩⟩
  have nmp : sm ≠ p := (ne_of_none p8 nsm).symm
  exact q _ row en met us sd sm ((b8.trans (Same.but (new_same nsm))).trans But.upd) upd_same (by rw [upd_ne nrp]; exact (new_same nsm) _ _ r8) (by rw [upd_ne nep]; exact (new_same nsm) _ _ d8) (by rw [upd_ne nup]; exact (new_same nsm) _ _ u8) (by rw [upd_ne nsp]; exact (new_same nsm) _ _ v8) (by rw [upd_ne nmp, upd_same]) nrowH nusH nus_sd neus

def spRun0 (K : PySem.W.Frag) (C CF : Addr) : Sp := fun vs H Q _ => ∃ (p dx fl row en met us sd sm : Addr) (w : Nat) (st gv : V), vs = [.ref p] ∧ H p = some (.ins C dx (plF fl w row st gv en .non .non 0 met us sd sm)) ∧ FlowO K CF H fl ∧ fl ≠ p ∧
  Q .non (upd H p (.ins C dx (plF fl w row st gv en .non (.str "done") 0 met us sd sm)))
def muR (p : Addr) (G : Hp) : Nat := match G p with
  | some (.ins _ _ fs) => if fs.lookup ("ended" : Str) = some V.non then 1 else 0
  | _ => 0
theorem ok_run0 {C CF : Addr} {m mF : Nat → Addr} (T : PlT K mg C m) (TF : FlowT K mg CF mF) :
    ∃ fd, Fun K "run" "Player.run" s_Player_run (m 4) fd ∧ Binds K fd ["self"] [] ∧ FnOk P w K mg base CX0 1 (m 4) fd ["self"] (spRun0 K C CF) := by
  obtain ⟨fd, F, b⟩ := T.f4.fn
  refine ⟨fd, F, b, F.ok c_Player_run (fun vs H Q E h => ?_) (fun cdv A outer s H vs Q E hr h => ?_)⟩
  · obtain ⟨p, dx, fl, row, en, met, us, sd, sm, w, st, gv, rfl, _⟩ := h
    rfl
  obtain ⟨p, dx, fl, row, en, met, us, sd, sm, wn, st, gv, rfl, hp, hfl, nfp, q⟩ := h
  refine ⟨_, pss_one (ps_while PassesOwn.never (pt_cmp (pc_isN (pe_fld (pv 0) rfl)))
    (pss_one (ps_if (pt_cmpR op_eq (pe_fld (pv 0) rfl) (pe_fld (pe_fld (pv 0) rfl) rfl) (nomark _)) (pss_one (ps_fld (pv 0) pe_str rfl)) (pss_one ps_never)))), ?_⟩
  refine while_by (fun σ G => σ = [some (.ref p)] ∧ (G = H ∨ G = upd H p (.ins C dx (plF fl wn row st gv en .non (.str "done") 0 met us sd sm)))) (fun _ G => muR p G) ⟨rfl, .inl rfl⟩ ?_ ?_
  · rintro σ G ⟨rfl, hG⟩
    rcases hG with rfl | rfl
    · obtain ⟨dxf, fs, f1, f3⟩ := id hfl
      refine ⟨_, rfl, p, C, dx, _, _, rfl, hp, T.cl, T.n _ (by simp), rfl, _, rfl, iteBT (by decide) ?_⟩
      refine ⟨_, rfl, p, C, dx, _, _, rfl, hp, T.cl, T.n _ (by simp), rfl, _, rfl, p, C, dx, _, _, rfl, hp, T.cl, T.n _ (by simp), rfl, fl, CF, dxf, fs, _, rfl, f1, TF.cl, TF.nz, f3, rfl, _, rfl, iteBT (by decide) ?_⟩
      refine ⟨_, rfl, p, C, dx, _, rfl, hp, T.cl, T.n _ (by simp), (by show 18 < 1000; decide), ⟨rfl, .inr rfl⟩, ?_⟩
      have m1 : muR p G = 1 := by unfold muR; rw [hp]; rfl
      have m0 : ∀ o, o = HO.ins C dx (plF fl wn row st gv en .non (.str "done") 0 met us sd sm) → muR p (upd G p o) = 0 := fun o ho => by unfold muR; rw [upd_same, ho]; rfl
      rw [m1]
      exact Nat.lt_of_le_of_lt (Nat.le_of_eq (m0 _ rfl)) (by decide)
    · exact ⟨_, rfl, p, C, dx, _, _, rfl, upd_same, T.cl, T.n _ (by simp), rfl, _, rfl, iteBF (by decide) q⟩
  · rintro σ G Q1 Q2 h ⟨x1, e1, a1, C1, dx1, fs1, v1, e3, e4, c1, n1, lk, b, e5, hq⟩
    exact ⟨x1, e1, a1, C1, dx1, fs1, v1, e3, e4, c1, n1, lk, b, e5, h _ _ hq⟩
end
end H2
namespace H2
open PySem PySem.Spec PyProof.Rows L2 Hx Nd Dun
section
variable {P : Program} {w : World} {K : PySem.W.Frag} {mg : Str → Option Value} {base : Heap} {D : Addr}
abbrev psBd : List Str := ["code", "items"]
def spBdX (K : PySem.W.Frag) (C CF CB : Addr) : Sp := fun vs H _ E => ∃ (c : Addr) (w : Nat) (l : Addr) (as : List Addr) (its : List (Int × Int)) (v : V) (rest : List V), vs = [.ref c, .ref l] ∧ CodO K C CF H c w ∧ SqL K H l (itV as ++ v :: rest) ∧ ItA H as its ∧ MkNd its ∧ its.length ≤ 900 ∧ BadV K H its v ∧ ∀ H', Same H H' → err1 CB "index" (.int (its.length : Nat)) H' E
theorem ok_bdx {f g1 C CF : Addr} {EC : Nat → Addr} (T0 : FT K mg "build" s_build psBd f) (CA : CodA K C) {d1 : FuncData}
    (F1 : Fun K "check_items" "check_items" s_check_items g1 d1) (b1 : Binds K d1 psCI []) (m1 : mg "check_items" = some (.ref g1)) (G1 : FnOk P w K mg base (L2.CX P w) 4 g1 d1 psCI (spCIX K (EC 5))) :
    ∃ fd, Fun K "build" "build" s_build f fd ∧ Binds K fd psBd [] ∧ FnOk P w K mg base (L2.CX P w) 5 f fd psBd (spBdX K C CF (EC 5)) := by
  obtain ⟨fd, F, b⟩ := T0.fn
  refine ⟨fd, F, b, F.okX c_build (fun vs H Q E h => ?_) (fun cdv A outer s H vs Q E hr h => ?_)⟩
  · obtain ⟨c, w, l, as, its, v, rest, rfl, _⟩ := h
    rfl
  obtain ⟨c, wn, l, as, its, v, rest, rfl, hc, hl, ha, hm, hn, hb, q⟩ := h
  have tk : Takes (cxOf (L2.CX P w) P w K mg base n_build "build" (defScope s_build) f cdv A outer s H E) (fun cls d _ G => E cls d G) := takes_of rfl rfl rfl rfl
  refine ⟨_, pss_cons (ps_if (pt_cmpR op_ne (pe_fld (pv 0) rfl) pe_str (nomark _)) (pss_one ps_never) pss_nil) <| pss_cons (ps_expr (pe_callS G1 hr rfl m1 F1.kp b1 (fun σ => passAt tk σ) (pa_cons (pv 1) pa_nil))) pss_never, ?_⟩
  obtain ⟨fl, ⟨dx, fs, o1, l1, l2, l3⟩, hfl⟩ := id hc
  refine ⟨_, rfl, c, C, dx, fs, _, rfl, o1, CA.cl, CA.nk, l1, rfl, _, rfl, iteBF (by decide +kernel) ?_⟩
  exact ⟨_, rfl, l, as, its, v, rest, rfl, hl, ha, hm, hn, hb, q⟩
def spBd (K : PySem.W.Frag) (C CF : Addr) : Sp := fun vs H Q _ => ∃ (c : Addr) (w : Nat) (l : Addr) (as : List Addr) (its : List (Int × Int)), vs = [.ref c, .ref l] ∧ CodO K C CF H c w ∧ WdN w ∧ SqL K H l (itV as) ∧ ItA H as its ∧ MkNd its ∧ its.length ≤ 900 ∧ ∀ H' t, Same H H' → H' t = some (.tup (itV as)) → Q (.ref t) H'
theorem ok_bd {f g1 gp C CF PC : Addr} {mp mF : Nat → Addr} (T0 : FT K mg "build" s_build psBd f) (CA : CodA K C) (TP : PlT K mg PC mp) (TF : FlowT K mg CF mF) (rng : mg "range" = none) (len : mg "len" = none) (tup : mg "tuple" = none) {d1 dp pd rd : FuncData}
    (F1 : Fun K "check_items" "check_items" s_check_items g1 d1) (b1 : Binds K d1 psCI []) (m1 : mg "check_items" = some (.ref g1)) (G1 : FnOk P w K mg base (L2.CX P w) 4 g1 d1 psCI (spCI K))
    (FP : Fun K "parent" "parent" s_parent gp dp) (bP : Binds K dp psPW []) (mP : mg "parent" = some (.ref gp)) (GP : FnOk P w K mg base CX0 1 gp dp psPW spParent)
    (bI : Binds K pd psPlr []) (GI : FnOk P w K mg base CX0 1 (mp 0) pd psPlr (spPl K PC C))
    (bR : Binds K rd ["self"] []) (GR : FnOk P w K mg base CX0 1 (mp 4) rd ["self"] (spRun0 K PC CF)) :
    ∃ fd, Fun K "build" "build" s_build f fd ∧ Binds K fd psBd [] ∧ FnOk P w K mg base (L2.CX P w) 5 f fd psBd (spBd K C CF) := by
  obtain ⟨fd, F, b⟩ := T0.fn
  refine ⟨fd, F, b, F.okX c_build (fun vs H Q E h => ?_) (fun cdv A outer s H vs Q E hr h => ?_)⟩
  · obtain ⟨c, w, l, as, its, rfl, _⟩ := h
    rfl
  obtain ⟨c, wn, l, as, its, rfl, hc, hw, hl, ha, hm, hn, q⟩ := h
  have tk : Takes (cxOf (L2.CX P w) P w K mg base n_build "build" (defScope s_build) f cdv A outer s H E) (fun cls d _ G => E cls d G) := takes_of rfl rfl rfl rfl
  refine ⟨_, pss_cons (ps_if (pt_cmpR op_ne (pe_fld (pv 0) rfl) pe_str (nomark _)) (pss_one ps_never) pss_nil) <| pss_cons (ps_expr (pe_callS G1 hr rfl m1 F1.kp b1 (fun σ => passAt tk σ) (pa_cons (pv 1) pa_nil))) <|
    pss_cons (ps_set (i := 2) c_build.nd rfl (Or.inl rfl) (pe_callTy call_tuple_of (by rfl) tup (by decide +kernel) (pa_cons (pv 1) pa_nil))) <|
    Evl.pss_cut (ps_set (i := 3) c_build.nd rfl (Or.inl rfl) (pe_ifExp (pt_cmpR op_gt (pe_callB call_len_seq (by rfl) len PySem.boot_len (pa_cons (pv 2) pa_nil)) pe_int (nomark _)) (pe_call GP (hr.mono (by decide)) rfl mP FP.kp bP .nil pass0 (pa_cons (pe_op op_sub (pe_callB call_len_seq (by rfl) len PySem.boot_len (pa_cons (pv 2) pa_nil)) pe_int) (pa_cons (pe_fld (pv 0) rfl) pa_nil))) (pe_un un_neg pe_int))) <|
    pss_cons (ps_for (passes_of rfl) rfl (pi_range3 rfl rng (pa_cons (pv 3) (pa_cons (pe_un un_neg pe_int) (pa_cons (pe_un un_neg pe_int) pa_nil)))) (pg_name (i := 4) c_build.nd rfl (Or.inl rfl))
      (pss_cons (ps_set (i := 5) c_build.nd rfl (Or.inl rfl) (pe_make TP.mak GI (hr.mono (by decide)) rfl TP.g bI .nil pass0 (pa_cons (pv 0) (pa_cons (pv 2) (pa_cons (pv 4) (pa_cons pe_non pa_nil)))))) <|
       pss_cons (ps_expr (pe_meth0 (pv 5) TP.cl TP.f4.m GR (hr.mono (by decide)) bR .nil pass0)) <|
       pss_cons (ps_if (pt_cmpR op_ne (pe_fld (pv 5) rfl) pe_str (nomark _)) (pss_one ps_never) pss_nil) <|
       pss_one (ps_set (i := 2) c_build.nd rfl (Or.inl rfl) (pe_callTy call_tuple_of (by rfl) tup (by decide +kernel) (pa_cons (pe_fld (pv 5) rfl) pa_nil))))) <|
    pss_one (ps_ret (pv 2)), ?_⟩
  obtain ⟨fl, hcod, hfl⟩ := id hc
  obtain ⟨dx, fs, o1, l1, l2, l3⟩ := id hcod
  have hal : (itV as).length = its.length := itV_len ha
  refine ⟨_, rfl, c, C, dx, fs, _, rfl, o1, CA.cl, CA.nk, l1, rfl, _, rfl, iteBF (by decide +kernel) ?_⟩
  refine ⟨_, rfl, l, as, its, rfl, hl, ha, hm, hn, fun H1 s1 => ?_⟩
  refine ⟨_, rfl, l, _, rfl, .inl ⟨sqt_list_same hl s1, fun t nt => ?_⟩⟩
  have s2 := same_new (o := .tup (itV as)) s1 nt
  have et : (upd H1 t (.tup (itV as))) t = some (.tup (itV as)) := upd_same
  generalize upd H1 t (.tup (itV as)) = H2 at s2 et ⊢
  have l900 : its.length ≤ 900 := hn
  refine ⟨fun σ G => G = H2 ∧ ∃ n : Nat, n ≤ 900 ∧ σ = [some (.ref c), some (.ref l), some (.ref t), some (.int ((n : Int) - 1)), none, none], ?_, ?_⟩
  · refine ⟨_, rfl, t, _, rfl, .inr (SqT.of et), _, _, rfl, rfl, _, rfl, iteB (fun h => ?_) (fun h => ?_)⟩
    · have h1 : its.length > 1 := by
        have := of_decide_eq_true h
        rw [hal] at this
        omega
      refine ⟨_, rfl, t, _, rfl, .inr (SqT.of et), _, _, rfl, rfl, _, rfl, c, C, dx, fs, _, rfl, s2 _ _ o1, CA.cl, CA.nw, l2, its.length - 1, wn, by
        have e9 : ((its.length : Nat) : Int) - 1 = ((its.length - 1 : Nat) : Int) := by omega
        rw [hal, ← e9]
        rfl, hw, ?_⟩
      rw [if_neg (by omega)]
      have := paN_lt (w := wn) (i := its.length - 1) (by omega)
      refine ⟨rfl, paN wn (its.length - 1) + 1, by omega, ?_⟩
      have e : ((paN wn (its.length - 1) + 1 : Nat) : Int) - 1 = ((paN wn (its.length - 1) : Nat) : Int) := by omega
      rw [e]
      rfl
    · exact ⟨_, rfl, rfl, 0, by omega, rfl⟩
  rintro σ G ⟨rfl, n, hn9, rfl⟩
  refine ⟨_, rfl, _, rfl, _, rfl, (n : Int) - 1, -1, -1, n, rfl, ?_, ?_⟩
  · have := RgC.neg (i := (n : Int) - 1) (j := -1) (by omega) (by omega) (by decide) (by decide)
    have e : ((n : Int) - 1 - -1).toNat = n := by omega
    rw [e] at this
    exact this
  refine for_rangeC (fun i σ G' => Same H G' ∧ ∃ (r : Addr) (v4 v5 : Option V), G' r = some (.tup (itV as)) ∧ σ = [some (.ref c), some (.ref l), some (.ref r), some (.int ((n : Int) - 1)), v4, v5]) ⟨s2, t, none, none, et, rfl⟩ ?_ ?_
  · rintro i σ G' hi ⟨sG, r, v4, v5, er, rfl⟩
    refine ⟨_, rfl, _, rfl, _, rfl, fun p dxp np ndx ne => ?_⟩
    have sM := made_row (C := PC) (o := .ins PC dxp []) (Same.refl G') np ndx ne
    have o1G := sG _ _ o1
    have ncp : c ≠ p := ne_of_none o1G np
    have f1' : ∃ (dxf : Addr) (fsf : List (Str × V)), G' fl = some (.ins CF dxf fsf) := by
      obtain ⟨a1, a2, a3, a4⟩ := hfl
      exact ⟨a1, a2, sG _ _ a3⟩
    have nflp : fl ≠ p := by
      obtain ⟨a1, a2, a3⟩ := f1'
      exact ne_of_none a3 np
    refine ⟨p, dxp, c, r, fl, as, "tree", wn, .int ((n : Int) - 1 + (i : Nat) * -1), .non, rfl, upd_same, (hcod.keep sG).keep sM, sM _ _ er, ncp, fun H3 row no met us sd sm b3 hp3 hrow hno hus hsd hsm nrow nus nussd nonus => ⟨rfl, ?_⟩⟩
    have s23 : Same G' H3 := fun a o z => b3 _ _ (ne_of_none z np) (sM _ _ z)
    refine ⟨_, rfl, p, dxp, _, rfl, hp3, rfl, p, dxp, fl, row, no, met, us, sd, sm, wn, _, .non, rfl, hp3, (hfl.keep sG).keep s23, nflp, ?_⟩
    have nrp : row ≠ p := ne_of hrow hp3 (by intro z; cases z)
    have hrow4 : (upd H3 p (.ins PC dxp (plF fl wn row (.int ((n : Int) - 1 + (i : Nat) * -1)) .non no .non (.str "done") 0 met us sd sm))) row = some (.lst (itV as)) := by rw [upd_ne nrp]; exact hrow
    have hp4 : (upd H3 p (.ins PC dxp (plF fl wn row (.int ((n : Int) - 1 + (i : Nat) * -1)) .non no .non (.str "done") 0 met us sd sm))) p = some (.ins PC dxp (plF fl wn row (.int ((n : Int) - 1 + (i : Nat) * -1)) .non no .non (.str "done") 0 met us sd sm)) := upd_same
    have s4 : Same G' (upd H3 p (.ins PC dxp (plF fl wn row (.int ((n : Int) - 1 + (i : Nat) * -1)) .non no .non (.str "done") 0 met us sd sm))) := fun a o z => by
      rw [upd_ne (ne_of_none z np)]
      exact s23 _ _ z
    generalize upd H3 p (.ins PC dxp (plF fl wn row (.int ((n : Int) - 1 + (i : Nat) * -1)) .non no .non (.str "done") 0 met us sd sm)) = H4 at hrow4 hp4 s4 ⊢
    refine ⟨_, rfl, p, PC, dxp, _, _, rfl, hp4, TP.cl, TP.n _ (by simp), rfl, rfl, _, rfl, iteBF (by decide +kernel) ?_⟩
    refine ⟨_, rfl, p, PC, dxp, _, _, rfl, hp4, TP.cl, TP.n _ (by simp), rfl, row, _, rfl, .inl ⟨SqL.of hrow4, fun t2 nt2 => ?_⟩⟩
    exact ⟨same_new (fun a o z => s4 _ _ (sG _ _ z)) nt2, t2, _, _, upd_same, rfl⟩
  · rintro σ G' ⟨sG, r, v4, v5, er, rfl⟩
    exact ⟨_, rfl, q _ r sG er⟩
end
end H2
namespace H2
open PySem PySem.Spec PyProof.Rows L2 Hx Nd Dun
section
variable {P : Program} {w : World} {K : PySem.W.Frag} {mg : Str → Option Value} {base : Heap} {D : Addr}
/-! ### first_fault, is_heap, child: just so -/
/-- the value of the least fault -/
def FfV (its : List (Int × Int)) (w : Nat) (v : V) : Prop := (v = .non ∧ NoFt its w its.length) ∨ ∃ i : Nat, v = .int (i : Int) ∧ 0 < i ∧ i < its.length ∧ ftB its w i = true ∧ NoFt its w i
def spFFL (K : PySem.W.Frag) : Sp := fun vs H Q _ => ∃ (l : Addr) (as : List Addr) (its : List (Int × Int)) (w : Nat), vs = [.ref l, .int (w : Int)] ∧ SqL K H l (itV as) ∧ ItA H as its ∧ WdN w ∧ its.length ≤ 900 ∧ ∀ v, FfV its w v → Q v H
def spFFT (K : PySem.W.Frag) : Sp := fun vs H Q _ => ∃ (l : Addr) (as : List Addr) (its : List (Int × Int)) (w : Nat), vs = [.ref l, .int (w : Int)] ∧ SqT K H l (itV as) ∧ ItA H as its ∧ WdN w ∧ its.length ≤ 900 ∧ ∀ v, FfV its w v → Q v H
theorem ok_ffl {f g : Addr} (T0 : FT K mg "first_fault" s_first_fault psIW f) (rng : mg "range" = none) (len : mg "len" = none) {gd : FuncData} (FP : Fun K "parent" "parent" s_parent g gd) (bP : Binds K gd psPW []) (mP : mg "parent" = some (.ref g)) (GP : FnOk P w K mg base CX0 1 g gd psPW spParent) :
    ∃ fd, Fun K "first_fault" "first_fault" s_first_fault f fd ∧ Binds K fd psIW [] ∧ FnOk P w K mg base CX0 2 f fd psIW (spFFL K) := by
  obtain ⟨fd, F, b⟩ := T0.fn
  refine ⟨fd, F, b, F.ok c_first_fault (fun vs H Q E h => ?_) (fun cdv A outer s H vs Q E hr h => ?_)⟩
  · obtain ⟨l, as, its, w, rfl, _⟩ := h
    rfl
  obtain ⟨l, as, its, w, rfl, hl, ha, hw, hn, q⟩ := h
  refine ⟨_, pss_cons (ps_for PassesOwn.never rfl (pi_range2 rfl rng (pa_cons pe_int (pa_cons (pe_callB call_len_seq (by rfl) len PySem.boot_len (pa_cons (pv 0) pa_nil)) pa_nil))) (pg_name (i := 2) c_first_fault.nd rfl (Or.inl rfl))
      (pss_one (ps_if (pt_cmpR op_lt (pe_ix ix_tup (pe_ix ix_list (pv 0) (pv 2) (fun _ _ => rfl)) pe_int (fun _ _ => rfl)) (pe_ix ix_tup (pe_ix ix_list (pv 0) (pe_call GP hr rfl mP FP.kp bP .nil pass0 (pa_cons (pv 2) (pa_cons (pv 1) pa_nil))) (fun _ _ => rfl)) pe_int (fun _ _ => rfl)) (nomark _)) (pss_one (ps_ret (pv 2))) pss_nil))) <|
    pss_one (ps_ret pe_non), ?_⟩
  refine ⟨_, rfl, l, _, rfl, .inl hl, 1, ((itV as).length : Nat), rfl, ⟨by decide, by decide, by rw [itV_len ha]; omega, by rw [itV_len ha]; omega⟩, ?_⟩
  rw [itV_len ha]
  refine for_range (lo := 1) (n := (((its.length : Nat) : Int) - 1).toNat) (fun i σ G => G = H ∧ NoFt its w (1 + i) ∧ ∃ v2, σ = [some (.ref l), some (.int (w : Int)), v2]) ⟨rfl, fun i h0 h1 => by omega, none, rfl⟩ ?_ ?_
  · rintro i σ G hi ⟨rfl, hf, v2, rfl⟩
    have h1 : (1 : Int) + (i : Int) = ((1 + i : Nat) : Int) := by omega
    rw [h1]
    obtain ⟨a, e1, _, e2⟩ := ha.at (i := 1 + i) (by omega)
    obtain ⟨c, e3, _, e4⟩ := ha.at (i := paN w (1 + i)) (Nat.lt_trans (paN_lt (by omega)) (by omega))
    refine ⟨_, rfl, _, rfl, l, _, _, _, rfl, rfl, hl, e1, a, _, _, _, rfl, rfl, SqT.of e2, rfl, ?_⟩
    refine ⟨_, rfl, _, rfl, _, rfl, 1 + i, w, rfl, hw, ?_⟩
    rw [if_neg (by omega)]
    refine ⟨l, _, _, _, rfl, rfl, hl, e3, c, _, _, _, rfl, rfl, SqT.of e4, rfl, ?_⟩
    refine ⟨_, _, rfl, rfl, _, rfl, iteB (fun h2 => ?_) (fun h2 => ?_)⟩
    · exact ⟨_, rfl, q _ (.inr ⟨1 + i, rfl, by omega, by omega, h2, hf⟩)⟩
    · refine ⟨rfl, fun j h0 hj => ?_, _, rfl⟩
      by_cases e : j = 1 + i
      · subst e
        exact h2
      · exact hf j h0 (by omega)
  · rintro σ G ⟨rfl, hf, v2, rfl⟩
    exact q _ (.inl ⟨rfl, fun i h0 hi => hf i h0 (by omega)⟩)
theorem ok_fft {f g : Addr} (T0 : FT K mg "first_fault" s_first_fault psIW f) (rng : mg "range" = none) (len : mg "len" = none) {gd : FuncData} (FP : Fun K "parent" "parent" s_parent g gd) (bP : Binds K gd psPW []) (mP : mg "parent" = some (.ref g)) (GP : FnOk P w K mg base CX0 1 g gd psPW spParent) :
    ∃ fd, Fun K "first_fault" "first_fault" s_first_fault f fd ∧ Binds K fd psIW [] ∧ FnOk P w K mg base CX0 2 f fd psIW (spFFT K) := by
  obtain ⟨fd, F, b⟩ := T0.fn
  refine ⟨fd, F, b, F.ok c_first_fault (fun vs H Q E h => ?_) (fun cdv A outer s H vs Q E hr h => ?_)⟩
  · obtain ⟨l, as, its, w, rfl, _⟩ := h
    rfl
  obtain ⟨l, as, its, w, rfl, hl, ha, hw, hn, q⟩ := h
  refine ⟨_, pss_cons (ps_for PassesOwn.never rfl (pi_range2 rfl rng (pa_cons pe_int (pa_cons (pe_callB call_len_seq (by rfl) len PySem.boot_len (pa_cons (pv 0) pa_nil)) pa_nil))) (pg_name (i := 2) c_first_fault.nd rfl (Or.inl rfl))
      (pss_one (ps_if (pt_cmpR op_lt (pe_ix ix_tup (pe_ix ix_tup (pv 0) (pv 2) (fun _ _ => rfl)) pe_int (fun _ _ => rfl)) (pe_ix ix_tup (pe_ix ix_tup (pv 0) (pe_call GP hr rfl mP FP.kp bP .nil pass0 (pa_cons (pv 2) (pa_cons (pv 1) pa_nil))) (fun _ _ => rfl)) pe_int (fun _ _ => rfl)) (nomark _)) (pss_one (ps_ret (pv 2))) pss_nil))) <|
    pss_one (ps_ret pe_non), ?_⟩
  refine ⟨_, rfl, l, _, rfl, (.inr hl), 1, ((itV as).length : Nat), rfl, ⟨by decide, by decide, by rw [itV_len ha]; omega, by rw [itV_len ha]; omega⟩, ?_⟩
  rw [itV_len ha]
  refine for_range (lo := 1) (n := (((its.length : Nat) : Int) - 1).toNat) (fun i σ G => G = H ∧ NoFt its w (1 + i) ∧ ∃ v2, σ = [some (.ref l), some (.int (w : Int)), v2]) ⟨rfl, fun i h0 h1 => by omega, none, rfl⟩ ?_ ?_
  · rintro i σ G hi ⟨rfl, hf, v2, rfl⟩
    have h1 : (1 : Int) + (i : Int) = ((1 + i : Nat) : Int) := by omega
    rw [h1]
    obtain ⟨a, e1, _, e2⟩ := ha.at (i := 1 + i) (by omega)
    obtain ⟨c, e3, _, e4⟩ := ha.at (i := paN w (1 + i)) (Nat.lt_trans (paN_lt (by omega)) (by omega))
    refine ⟨_, rfl, _, rfl, l, _, _, _, rfl, rfl, hl, e1, a, _, _, _, rfl, rfl, SqT.of e2, rfl, ?_⟩
    refine ⟨_, rfl, _, rfl, _, rfl, 1 + i, w, rfl, hw, ?_⟩
    rw [if_neg (by omega)]
    refine ⟨l, _, _, _, rfl, rfl, hl, e3, c, _, _, _, rfl, rfl, SqT.of e4, rfl, ?_⟩
    refine ⟨_, _, rfl, rfl, _, rfl, iteB (fun h2 => ?_) (fun h2 => ?_)⟩
    · exact ⟨_, rfl, q _ (.inr ⟨1 + i, rfl, by omega, by omega, h2, hf⟩)⟩
    · refine ⟨rfl, fun j h0 hj => ?_, _, rfl⟩
      by_cases e : j = 1 + i
      · subst e
        exact h2
      · exact hf j h0 (by omega)
  · rintro σ G ⟨rfl, hf, v2, rfl⟩
    exact q _ (.inl ⟨rfl, fun i h0 hi => hf i h0 (by omega)⟩)
def spHeapE (K : PySem.W.Frag) : Sp := fun vs H Q _ => ∃ (l : Addr) (as : List Addr) (its : List (Int × Int)) (w : Nat), vs = [.ref l, .int (w : Int)] ∧ SqL K H l (itV as) ∧ ItA H as its ∧ WdN w ∧ its.length ≤ 900 ∧ Q (.bl (heapB its w)) H
theorem ok_heape {f g : Addr} (T0 : FT K mg "is_heap" s_is_heap psIW f) {gd : FuncData} (FP : Fun K "first_fault" "first_fault" s_first_fault g gd) (bP : Binds K gd psIW []) (mP : mg "first_fault" = some (.ref g)) (GP : FnOk P w K mg base CX0 2 g gd psIW (spFFL K)) :
    ∃ fd, Fun K "is_heap" "is_heap" s_is_heap f fd ∧ Binds K fd psIW [] ∧ FnOk P w K mg base CX0 3 f fd psIW (spHeapE K) := by
  obtain ⟨fd, F, b⟩ := T0.fn
  refine ⟨fd, F, b, F.ok c_is_heap (fun vs H Q E h => ?_) (fun cdv A outer s H vs Q E hr h => ?_)⟩
  · obtain ⟨l, as, its, w, rfl, _⟩ := h
    rfl
  obtain ⟨l, as, its, w, rfl, hl, ha, hw, hn, q⟩ := h
  refine ⟨_, pss_one (ps_ret (pe_cmp (pc_isN (pe_call GP hr rfl mP FP.kp bP .nil pass0 (pa_cons (pv 0) (pa_cons (pv 1) pa_nil)))) rfl)), ?_⟩
  refine ⟨_, rfl, _, rfl, l, as, its, w, rfl, hl, ha, hw, hn, fun v hv => ?_⟩
  rcases hv with ⟨rfl, h⟩ | ⟨i, rfl, h0, h1, h2, _⟩
  · rw [heapB_iff.mpr h] at q
    exact q
  · have : heapB its w = false := by
      cases e : heapB its w with
      | false => rfl
      | true =>
        have := heapB_iff.mp e i h0 h1
        rw [h2] at this
        cases this
    rw [this] at q
    exact q
def chN (w i k : Nat) : Nat := w * i + k
abbrev psChild : List Str := ["place", "number", "width"]
def spChild : Sp := fun vs H Q _ => ∃ (i k w : Nat), vs = [.int (i : Int), .int (k : Int), .int (w : Int)] ∧ WdN w ∧ Q (.int (chN w i k : Nat)) H
theorem ok_child {f : Addr} (T0 : FT K mg "child" s_child psChild f) : ∃ fd, Fun K "child" "child" s_child f fd ∧ Binds K fd psChild [] ∧ FnOk P w K mg base CX0 1 f fd psChild spChild := by
  obtain ⟨fd, F, b⟩ := T0.fn
  refine ⟨fd, F, b, F.ok c_child (fun vs H Q E h => ?_) (fun cdv A outer st H vs Q E hr h => ?_)⟩
  · obtain ⟨i, k, w, rfl, _⟩ := h
    rfl
  obtain ⟨i, k, wn, rfl, hw, q⟩ := h
  refine ⟨_, pss_one (ps_ret (pe_op op_add (pe_op op_mul (pv 2) (pv 0)) (pv 1))), ?_⟩
  have hw3 : wn = 2 ∨ wn = 3 ∨ wn = 4 := hw
  refine ⟨_, rfl, _, rfl, _, _, rfl, rfl, .inl ⟨by omega, by omega⟩, _, rfl, _, _, rfl, rfl, ?_⟩
  have e : ((wn : Int) * (i : Int)) + (k : Int) = ((chN wn i k : Nat) : Int) := by
    unfold chN
    push_cast
    rfl
  show Q (V.int ((wn : Int) * (i : Int) + (k : Int))) H
  rw [e]
  exact q
end
end H2
namespace H2
open PySem PySem.Spec PyProof.Rows L2 Hx Nd Dun
section
variable {P : Program} {w : World} {K : PySem.W.Frag} {mg : Str → Option Value} {base : Heap} {D : Addr}
/-! ### _law_refused: a lambda is called -/
open LamX
theorem look1 {f : Str} {a : V} : List.lookup f [(f, a)] = some a := by simp [List.lookup]
theorem passN {X : Cx} : Passes (L2.CX X.prog X.w) X E0 := by
  rintro pins σ H s e s' _ ⟨a, B, H', cls, d, _, _, _, _, _, _, _, z⟩
  exact z.elim
theorem takes_len {X : Cx} {W : WX} (t : Takes X W) : Takes X (fun c d σ H => σ.length = X.N.length → W c d σ H) := fun u s' ⟨a, B, sI, pins, σ, H, cls, d, e, I, nb, up, sky, na, os, ag, w⟩ => t u s' ⟨a, B, sI, pins, σ, H, cls, d, e, I, nb, up, sky, na, os, ag, w I.len⟩
/-- what _law_refused makes of the lambda's reading -/
def TTref (CB : Addr) : (XK → Hp → VK → Prop) → Hp → VK → Prop := fun tl H Q => tl (fun cls d H' => cls = .ref CB ∧ ∃ dd v, d = some dd ∧ H' dd = some (.xd [("index", v)]) ∧ Q v H') H (fun _ H' => Q .non H')
theorem refused_gives {X : Cx} {q : Str} {g DB : Addr} {cdg : Value} {EC EI : Nat → Addr} (ET : ErrC X.K X.mg DB EC EI) (ex5 : PySem.W.exmOne X.K (.ref (EC 5)) (.ref (EC 5)) = some true) :
    GivesTo X n_Lrefused "_law_refused" (defScope s_Lrefused) g cdg (defBody s_Lrefused) "_law_action" q (TTref (EC 5)) := by
  intro f c' s H Q tl act hc h
  refine ⟨_, pss_cons (ps_try_any (X := (cxOf C8.CX0 X.prog X.w X.K X.mg X.base n_Lrefused "_law_refused" (defScope s_Lrefused) g cdg X.A X.stack s H C8.E0).nox) (Wout := fun _ _ _ _ => False)
      (tb := fun W D σ H1 => ∃ Ech : XK, (∀ cls d σ' H', Ech cls d H' → σ'.length = 2 → W cls d σ' H') ∧ σ[0]? = some (some (.ref f)) ∧ H1 c' = some (CodeO c' q) ∧ tl Ech H1 (fun _ H' => D.nx σ H')) rfl rfl L2.takes0 (fun W pn xe tk _ => ?_)
      (.as (i := 1) c_Lrefused.nd rfl rfl ⟨rfl, by decide, .inl ET.t5.ex.gC⟩ (fun a oe cls d pn hz hf => pss_one (ps_ret (pe_xf ET.t5.xf (ET.t5.nf _ (by simp)) hz hf (pv 1)))) .nil)) <| pss_one (ps_ret pe_non), ?_⟩
  · refine ⟨fun pins s' σ H' D I h' => ?_⟩
    obtain ⟨Ech, hW, h1, h2, h3⟩ := h'
    exact (pss_one (ps_expr (act _ pn xe Ech _ _ (takes_len tk) hW))).run pins s' σ H' D I ⟨h1, h2, h3⟩
  · refine ⟨fun cls d H' => cls = .ref (EC 5) ∧ ∃ dd v, d = some dd ∧ H' dd = some (.xd [("index", v)]) ∧ Q v H', ?_, rfl, hc, h⟩
    rintro cls d σ' H' ⟨rfl, dd, v, rfl, hd, hq⟩ hlen
    obtain ⟨x1, x2, rfl⟩ : ∃ x1 x2, σ' = [x1, x2] := by
      match σ', hlen with
      | [x1, x2], _ => exact ⟨x1, x2, rfl⟩
    refine ⟨true, ex5, fun _ a na => ?_, fun z => Bool.noConfusion z⟩
    exact ⟨_, rfl, rfl, rfl, dd, _, _, rfl, hd, look1, hq⟩
end
end H2
namespace H2
open PySem PySem.Spec PyProof.Rows L2 Hx Nd Dun
section
variable {P : Program} {w : World} {K : PySem.W.Frag} {mg : Str → Option Value} {base : Heap} {D : Addr}
/-! ### the bag, its list told -/
def BagL (H : Hp) (p l : Addr) (n : Nat) : Prop := ∃ (ns : List Int) (i dg fd : Int), H p = some (.dK (bagK l i dg (n : Int) fd)) ∧ H l = some (.lst (ns.map V.int)) ∧ ns.length ≤ 63 ∧ 0 ≤ i ∧ 0 ≤ dg ∧ 0 ≤ fd ∧ fd < 2147483587
theorem Bag.l {H : Hp} {p : Addr} {n : Nat} (b : Bag H p n) : ∃ l, BagL H p l n := b
theorem BagL.b {H : Hp} {p l : Addr} {n : Nat} (b : BagL H p l n) : Bag H p n := ⟨l, b⟩
theorem BagL.keep {H H' : Hp} {p l : Addr} {n : Nat} (b : BagL H p l n) (e : Same H H') : BagL H' p l n := by
  obtain ⟨ns, i, dg, fd, h1, h2, q⟩ := b
  exact ⟨ns, i, dg, fd, e _ _ h1, e _ _ h2, q⟩
theorem BagL.out {H : Hp} {p l d : Addr} {n : Nat} {o : HO} (b : BagL H p l n) (h : ∃ ys, H d = some (.lst ys)) (hd : d ≠ l) : BagL (upd H d o) p l n := by
  obtain ⟨ns, i, dg, fd, h1, h2, q⟩ := b
  obtain ⟨ys, hy⟩ := h
  have hp : p ≠ d := ne_of h1 hy (by intro z; cases z)
  exact ⟨ns, i, dg, fd, by rw [upd_ne hp]; exact h1, by rw [upd_ne hd.symm]; exact h2, q⟩
def spDrawL : Sp := fun vs H Q _ => ∃ (p : Addr) (n : Nat) (m : Int) (l : Addr), vs = [.ref p, .int m] ∧ BagL H p l n ∧ n ≤ 1000000 ∧ 0 < m ∧ m.natAbs < 2 ^ 8000 ∧
  ∀ (r : Int) (H' : Hp), 0 ≤ r → r < m → BagL H' p l (n + 1) → But p H H' → Q (.int r) H'
theorem ok_drawL {f : Addr} {fd : FuncData} (F : Fun K "_law_draw" "_law_draw" sDraw f fd) (B : BltT mg) : FnOk P w K mg base CX0 1 f fd ["_law_bag_here", "_law_limit"] spDrawL := by
  refine F.ok scDraw (fun vs H Q E h => ?_) (fun cdv A outer s H vs Q E hr h => ?_)
  · obtain ⟨p, n, m, l, rfl, _⟩ := h
    rfl
  · obtain ⟨p, n, m, l, rfl, ⟨ns, i, dg, fo, hp, hl, hlen, i0, d0, f0, f1⟩, hn, m0, m1, q⟩ := h
    have hu := hu_of hr
    have npl : l ≠ p := ne_of hl hp (by intro z; cases z)
    refine ⟨_, pss_cons (ps_dput hu (pv 0) pe_str (pe_op op_add (pe_dget hu (pv 0) pe_str (fun _ _ => rfl)) pe_int) rfl)
      (Evl.pss_cut (ps_if (PW.pt (pw_and (pt_cmpR op_eq (pe_dget hu (pv 0) pe_str (fun _ _ => rfl)) pe_int (nomark _)) (pw_and1 (pt_cmpR op_lt (pe_dget hu (pv 0) pe_str (fun _ _ => rfl)) (pe_callB call_len_seq (by rfl) B.len PySem.boot_len (pa_cons (pe_dget hu (pv 0) pe_str (fun _ _ => rfl)) pa_nil)) (nomark _)))))
          (pss_cons (ps_set (i := 2) scDraw.nd rfl (Or.inl rfl) (pe_ix ix_list (pe_dget hu (pv 0) pe_str (fun _ _ => rfl)) (pe_dget hu (pv 0) pe_str (fun _ _ => rfl)) (fun _ _ => rfl)))
          (pss_cons (ps_dput hu (pv 0) pe_str (pe_op op_add (pe_dget hu (pv 0) pe_str (fun _ _ => rfl)) pe_int) rfl)
          (pss_one (ps_if (pt_cmpR op_ge (pv 2) (pe_op op_pow pe_int pe_int) (nomark _))
            (pss_one (ps_dput hu (pv 0) pe_str (pe_op op_sub (pv 2) (pe_op op_pow pe_int pe_int)) rfl))
            (pss_one (ps_dput hu (pv 0) pe_str (pe_op op_mod (pe_callTy call_int1 (by rfl) B.int (by decide +kernel) (pa_cons (pe_op op_add (pe_op op_mul (pe_dget hu (pv 0) pe_str (fun _ _ => rfl)) pe_int) (pv 2)) pa_nil)) pe_int) rfl))))))
          pss_nil)
      (pss_cons (ps_if (pt_cmpR op_gt (pe_dget hu (pv 0) pe_str (fun _ _ => rfl)) pe_int (nomark _))
          (pss_cons (ps_set (i := 3) scDraw.nd rfl (Or.inl rfl) (pe_op op_mod (pe_callTy call_int1 (by rfl) B.int (by decide +kernel) (pa_cons (pe_dget hu (pv 0) pe_str (fun _ _ => rfl)) pa_nil)) (pv 1)))
          (pss_cons (ps_dput hu (pv 0) pe_str (pe_op op_fdivW (pe_dget hu (pv 0) pe_str (fun _ _ => rfl)) (pv 1)) rfl)
          (pss_one (ps_ret (pv 3)))))
          pss_nil)
      (pss_cons (ps_set (i := 4) scDraw.nd rfl (Or.inl rfl) (pe_op op_add (pe_op op_add (pe_dget hu (pv 0) pe_str (fun _ _ => rfl)) (pe_op op_mul (pe_dget hu (pv 0) pe_str (fun _ _ => rfl)) pe_int)) pe_int))
      (pss_one (ps_ret (pe_op op_mod (pe_op op_fdiv (pe_callTy call_int1 (by rfl) B.int (by decide +kernel) (pa_cons (pe_op op_mod (pe_op op_pow (pv 4) pe_int) pe_int) pa_nil)) pe_int) (pv 1))))))), ?_⟩
    have five : ∀ {l i dg ct fo}, (bagK l i dg ct fo).length < sizeLine := fun {l i dg ct fo} => by show 5 < sizeLine; decide
    -- bag["count"] = bag["count"] + 1
    refine ⟨_, rfl, p, _, rfl, (show DGet _ _ (kV kN) _ from by rw [← gN l i dg n fo]; exact DGet.k hp), _, _, rfl, rfl, _, rfl, p, _, rfl, DPut.k (k := kN) hp five, ?_⟩
    rw [pN]
    -- Mid: a bag again, with one more
    refine ⟨fun σ G => ∃ v : Option V, σ = [some (.ref p), some (.int m), v, none, none] ∧ BagL G p l (n + 1) ∧ But p H G, ?_, ?_⟩
    · have hp1 : (upd H p (.dK (bagK l i dg ((n : Int) + 1) fo))) p = some (.dK (bagK l i dg ((n : Int) + 1) fo)) := upd_same
      have hl1 : ∀ o, (upd H p o) l = some (.lst (ns.map V.int)) := fun o => by rw [upd_ne npl]; exact hl
      have en : ((n : Int) + 1) = ((n + 1 : Nat) : Int) := by omega
      have mid : ∀ (i dg fo : Int), 0 ≤ i → 0 ≤ dg → 0 ≤ fo → fo < 2147483587 → BagL (upd H p (.dK (bagK l i dg ((n : Int) + 1) fo))) p l (n + 1) := fun i dg fo a b c d =>
        ⟨ns, i, dg, fo, (by rw [upd_same, en]), hl1 _, hlen, a, b, c, d⟩
      refine ⟨_, rfl, p, _, rfl, (show DGet _ _ (kV kD) _ from by rw [← gD l i dg ((n : Int) + 1) fo]; exact DGet.k hp1), rfl, _, rfl, ?_⟩
      refine ite2 (fun c => ?_) (fun c => ?_)
      · refine ⟨_, rfl, p, _, rfl, (show DGet _ _ (kV kA) _ from by rw [← gA l i dg ((n : Int) + 1) fo]; exact DGet.k hp1), _, rfl, p, _, rfl, (show DGet _ _ (kV kC) _ from by rw [← gC l i dg ((n : Int) + 1) fo]; exact DGet.k hp1), l, _, rfl, .inl (SqL.of (hl1 _)), _, _, rfl, rfl, _, rfl, ?_⟩
        refine ite2 (fun c2 => ?_) (fun c2 => ?_)
        · have c3 : i < (ns.length : Int) := by
            have z := of_decide_eq_true c2
            rw [List.length_map] at z
            exact z
          obtain ⟨v, hv⟩ : ∃ v, ns[i.toNat]? = some v := ⟨_, List.getElem?_eq_getElem (by omega)⟩
          have hat : atI (ns.map V.int) i = some (.int v) := at_of (j := i.toNat) (by omega) (by rw [List.getElem?_map, hv] <;> rfl)
          refine ⟨_, rfl, p, _, rfl, (show DGet _ _ (kV kC) _ from by rw [← gC l i dg ((n : Int) + 1) fo]; exact DGet.k hp1), _, rfl, p, _, rfl, (show DGet _ _ (kV kA) _ from by rw [← gA l i dg ((n : Int) + 1) fo]; exact DGet.k hp1), l, _, _, _, rfl, rfl, SqL.of (hl1 _), hat, ?_⟩
          refine ⟨_, rfl, p, _, rfl, (show DGet _ _ (kV kA) _ from by rw [← gA l i dg ((n : Int) + 1) fo]; exact DGet.k hp1), _, _, rfl, rfl, _, rfl, p, _, rfl, DPut.k (k := kA) hp1 five, ?_⟩
          rw [pA, upd_upd]
          have hp2 : (upd H p (.dK (bagK l (i + 1) dg ((n : Int) + 1) fo))) p = some (.dK (bagK l (i + 1) dg ((n : Int) + 1) fo)) := upd_same
          refine ⟨_, rfl, _, _, rfl, rfl, ⟨by decide, by decide, by decide⟩, _, _, rfl, rfl, _, rfl, ?_⟩
          refine ite2 (fun c4 => ?_) (fun c4 => ?_)
          · have c5 : v ≥ (10 : Int) ^ (18 : Int).toNat := of_decide_eq_true c4
            refine ⟨_, rfl, _, _, rfl, rfl, ⟨by decide, by decide, by decide⟩, _, _, rfl, rfl, _, rfl, p, _, rfl, DPut.k (k := kD) hp2 five, ?_⟩
            rw [pD, upd_upd]
            exact ⟨_, rfl, mid _ _ _ (by omega) (Int.sub_nonneg_of_le c5) f0 f1, But.upd⟩
          · refine ⟨_, rfl, p, _, rfl, (show DGet _ _ (kV kF) _ from by rw [← gF l (i + 1) dg ((n : Int) + 1) fo]; exact DGet.k hp2), _, _, rfl, rfl, .inl ⟨by omega, by omega⟩, _, rfl, _, _, rfl, rfl, .inl ⟨_, rfl, _, _, rfl, rfl, (by show (0 : Int) < 2147483587; decide), _, rfl, p, _, rfl, DPut.k (k := kF) hp2 five, ?_⟩⟩
            rw [pF, upd_upd]
            exact ⟨_, rfl, mid _ _ _ (by omega) d0 (Int.emod_nonneg _ (by decide)) (Int.emod_lt_of_pos _ (by decide)), But.upd⟩
        · exact ⟨_, rfl, mid _ _ _ i0 d0 f0 f1, But.upd⟩
      · exact ⟨_, rfl, mid _ _ _ i0 d0 f0 f1, But.upd⟩
    · rintro σ G ⟨v, rfl, ⟨ns, i, dg, fo, hp, hl, hlen, i0, d0, f0, f1⟩, hB⟩
      have npl : l ≠ p := ne_of hl hp (by intro z; cases z)
      have hc : ((n + 1 : Nat) : Int) = (n : Int) + 1 := by omega
      refine ⟨_, rfl, p, _, rfl, (show DGet _ _ (kV kD) _ from by rw [← gD l i dg ((n + 1 : Nat) : Int) fo]; exact DGet.k hp), _, _, rfl, rfl, _, rfl, ?_⟩
      refine ite2 (fun c => ?_) (fun c => ?_)
      · refine ⟨_, rfl, p, _, rfl, (show DGet _ _ (kV kD) _ from by rw [← gD l i dg ((n + 1 : Nat) : Int) fo]; exact DGet.k hp), .inl ⟨_, rfl, _, rfl, _, _, rfl, rfl, m0, ?_⟩⟩
        refine ⟨_, rfl, p, _, rfl, (show DGet _ _ (kV kD) _ from by rw [← gD l i dg ((n + 1 : Nat) : Int) fo]; exact DGet.k hp), _, rfl, _, _, rfl, rfl, wide_div m0 m1 (by decide) (by decide), _, rfl, p, _, rfl, DPut.k (k := kD) hp five, ?_⟩
        rw [pD]
        refine ⟨_, rfl, ?_⟩
        refine q _ _ (Int.emod_nonneg _ (by omega)) (Int.emod_lt_of_pos _ m0) ⟨ns, i, dg / m, fo, upd_same, by rw [upd_ne npl]; exact hl, hlen, i0, Int.ediv_nonneg d0 (by omega), f0, f1⟩ (hB.trans But.upd)
      · refine ⟨_, rfl, p, _, rfl, (show DGet _ _ (kV kF) _ from by rw [← gF l i dg ((n + 1 : Nat) : Int) fo]; exact DGet.k hp), _, rfl, p, _, rfl, (show DGet _ _ (kV kN) _ from by rw [← gN l i dg ((n + 1 : Nat) : Int) fo]; exact DGet.k hp), _, _, rfl, rfl, .inl ⟨by omega, by omega⟩, _, _, rfl, rfl, _, _, rfl, rfl, ?_⟩
        refine ⟨_, rfl, _, _, rfl, rfl, big17 (by omega) (by omega), _, _, rfl, rfl, (by show (0 : Int) < 2305843009213693951; decide), .inl ⟨_, rfl, _, _, rfl, rfl, ⟨by decide, by decide⟩, _, rfl, _, _, rfl, rfl, m0, ?_⟩⟩
        exact q _ _ (Int.emod_nonneg _ (by omega)) (Int.emod_lt_of_pos _ m0) ⟨ns, i, dg, fo, hp, hl, hlen, i0, d0, f0, f1⟩ hB
theorem bag_dk {H : Hp} {p : Addr} {n : Nat} (b : Bag H p n) : ∃ kvs, H p = some (.dK kvs) := by
  obtain ⟨l, ns, i, dg, fd, h1, _⟩ := b
  exact ⟨_, h1⟩
theorem lst_but {H H' : Hp} {p a : Addr} {xs : List V} (b : But p H H') (hp : ∃ kvs, H p = some (.dK kvs)) (h : H a = some (.lst xs)) : H' a = some (.lst xs) := by
  obtain ⟨kvs, hk⟩ := hp
  exact b a _ (fun e => by rw [e, hk] at h; cases h) h
theorem small16 {m : Int} (h0 : 0 ≤ m) (h : m ≤ 1000) : m.natAbs < 2 ^ 8000 := by
  have h1 : m.natAbs < 2 ^ 10 := by omega
  exact Nat.lt_of_lt_of_le h1 (Nat.pow_le_pow_right (by decide) (by decide))
end
end H2
namespace H2
open PySem PySem.Spec PyProof.Rows L2 Hx Nd Dun
section
variable {P : Program} {w : World} {K : PySem.W.Frag} {mg : Str → Option Value} {base : Heap} {D : Addr}
/-! ### a def whose code object is told -/
theorem fun_okC {x qual : Str} {st : Stmt} {f : Addr} {fd : FuncData} {N ps : List Str} {k : Nat} {sp : Sp} (F : Fun K x qual st f fd) (S : FnScope N ps (defScope st)) (len : ∀ vs H Q E, sp vs H Q E → vs.length = ps.length)
    (hbody : ∀ (cdv : Value) (A : Around) (outer : List Env) (s : Shared) (H : Hp) (vs : List V) (Q : VK) (E : XK), fd.code = cdv → Room k (A.deeper (envOfC qual (defScope st) s.heap.objs.size f cdv)) → sp vs H Q E →
      ∃ t, PSs (cxOf CX0 P w K mg base N qual (defScope st) f cdv A outer s H E).nox (defBody st) t ∧ t { nx := fun _ H' => Q .non H', rt := Q } (start N vs) H) : FnOk P w K mg base CX0 (k + 1) f fd ps sp := by
  obtain ⟨oc, od, kV, doc, pm, an, cdv, ct, osl, rfl, lk, hcd⟩ := F.ex
  refine fn_of lk hcd S len fun A outer s H vs Q E hr hsp => ?_
  obtain ⟨t, h, q⟩ := hbody cdv A outer s H vs Q E rfl hr hsp
  exact ⟨t, h.nox, q⟩
/-! ### _law_items -/
theorem BagL.dk {H : Hp} {p l : Addr} {n : Nat} (b : BagL H p l n) : ∃ kvs, H p = some (.dK kvs) := bag_dk b.b
theorem BagL.lst {H : Hp} {p l : Addr} {n : Nat} (b : BagL H p l n) : ∃ xs, H l = some (.lst xs) := by
  obtain ⟨ns, i, dg, fd, h1, h2, _⟩ := b
  exact ⟨_, h2⟩
theorem ItA.butD {H H' : Hp} {q : Addr} {as : List Addr} {its : List (Int × Int)} (h : ItA H as its) (e : But q H H') (hq : ∃ kvs, H q = some (.dK kvs)) : ItA H' as its := by
  obtain ⟨kvs, hk⟩ := hq
  exact h.but e fun xs z => by rw [hk] at z; cases z
theorem ItA.snoc {H : Hp} {as : List Addr} {its : List (Int × Int)} (h : ItA H as its) {t : Addr} {k m : Int} (ht : H t = some (.tup [.int k, .int m])) : ItA H (as ++ [t]) (its ++ [(k, m)]) := by
  refine ⟨by rw [List.length_append, List.length_append, h.1]; rfl, fun i a p h1 h2 => ?_⟩
  by_cases e : i < as.length
  · rw [List.getElem?_append_left e] at h1
    rw [List.getElem?_append_left (by rw [← h.1]; exact e)] at h2
    exact h.2 i a p h1 h2
  · rw [List.getElem?_append_right (by omega)] at h1
    rw [List.getElem?_append_right (by rw [← h.1]; omega)] at h2
    rw [h.1] at h1
    cases hz : i - its.length with
    | zero =>
      rw [hz] at h1 h2
      cases h1
      cases h2
      exact ht
    | succ n => rw [hz] at h1; cases h1
theorem ky_snoc {its : List (Int × Int)} {q : Int × Int} {j : Nat} (h : j < its.length) : kyA (its ++ [q]) j = kyA its j ∧ mkA (its ++ [q]) j = mkA its j := by
  unfold kyA mkA
  rw [List.getD_eq_getElem?_getD, List.getD_eq_getElem?_getD, List.getElem?_append_left h]
  exact ⟨rfl, rfl⟩
theorem ky_last {its : List (Int × Int)} {q : Int × Int} : kyA (its ++ [q]) its.length = q.1 ∧ mkA (its ++ [q]) its.length = q.2 := by
  unfold kyA mkA
  rw [List.getD_eq_getElem?_getD, List.getElem?_append_right (Nat.le_refl _), Nat.sub_self]
  exact ⟨rfl, rfl⟩
theorem len_it (as : List Addr) : (itV as).length = as.length := by unfold itV; rw [List.length_map]
abbrev psIT : List Str := ["_law_bag_here", "_law_many", "_law_keys", "_law_marks"]
def spItems (K : PySem.W.Frag) : Sp := fun vs H Q _ => ∃ (p l : Addr) (n0 n : Nat) (ky m0 : Int), vs = [.ref p, .int (n : Int), .int ky, .int m0] ∧ BagL H p l n0 ∧ n0 ≤ 900000 ∧ n ≤ 12 ∧ 0 < ky ∧ (2 * ky + 1).natAbs < 2 ^ 8000 ∧
  ∀ H' r as its n', But p H H' → H r = none → H' r = some (.lst (itV as)) → ItA H' as its → its.length = n → MkNd its → BagL H' p l n' → n' ≤ n0 + n → r ≠ l → Q (.ref r) H'
theorem ok_items {f g : Addr} (T0 : FT K mg "_law_items" s_Litems psIT f) (BT : BltT mg) (rng : mg "range" = none) {gd : FuncData} (FD : Fun K "_law_draw" "_law_draw" sDraw g gd) (bD : Binds K gd ["_law_bag_here", "_law_limit"] []) (mD : mg "_law_draw" = some (.ref g)) :
    ∃ fd, Fun K "_law_items" "_law_items" s_Litems f fd ∧ Binds K fd psIT [] ∧ FnOk P w K mg base CX0 2 f fd psIT (spItems K) := by
  obtain ⟨fd, F, b⟩ := T0.fn
  have GD : FnOk P w K mg base CX0 1 g gd ["_law_bag_here", "_law_limit"] spDrawL := ok_drawL FD BT
  refine ⟨fd, F, b, F.ok c_Litems (fun vs H Q E h => ?_) (fun cdv A outer s H vs Q E hr h => ?_)⟩
  · obtain ⟨p, l, n0, n, ky, m0, rfl, _⟩ := h
    rfl
  obtain ⟨p, l, n0, n, ky, m0, rfl, hb, hn0, hn, hk1, hk2, q⟩ := h
  refine ⟨_, pss_one (ps_ret (pe_lc (own := [("_law_k", 4)]) (g := gName 4) (tt := tYes) rfl c_Litems.nd (pi_range1 rfl rng (pa_cons (pv 1) pa_nil)) (blkOk_by (own := [("_law_k", 4)]) (N := n_Litems) (sc := defScope s_Litems) (by decide +kernel))
      (fun _ _ _ _ _ => pg_name (i := 4) c_Litems.nd rfl (Or.inl rfl)) (fun _ _ _ _ _ => pts_nil) (fun _ _ _ _ _ => pe_tup (pa_cons (pe_op op_sub (pe_call GD hr rfl mD FD.kp bD .nil pass0 (pa_cons (pv 0) (pa_cons (pe_op op_add (pe_op op_mul pe_int (pv 2)) pe_int) pa_nil))) (pv 2)) (pa_cons (pe_op op_add (pv 3) (pe_op op_mul pe_int (pv 4))) pa_nil))))), ?_⟩
  refine ⟨_, rfl, (n : Int), rfl, by omega, by omega, fun D nD => ?_⟩
  rw [Int.toNat_natCast]
  have nDl : D ≠ l := fun z => by
    obtain ⟨ys, hy⟩ := hb.lst
    rw [← z, nD] at hy
    cases hy
  have sD := new_same (o := .lst []) nD
  refine lc_range (lo := 0) (n := n) (fun j G => ∃ (as : List Addr) (its : List (Int × Int)) (m : Nat), BagL G p l m ∧ m ≤ n0 + j ∧ But p H G ∧ G D = some (.lst (itV as)) ∧ ItA G as its ∧ its.length = j ∧ ∀ k, k < j → mkA its k = m0 + 7 * (k : Int))
    ⟨[], [], n0, hb.keep sD, by omega, Same.but sD, upd_same, ⟨rfl, fun i a p h1 h2 => by cases h1⟩, rfl, fun k hk => by omega⟩ ?_ ?_
  · rintro j G hj ⟨as, its, m, bgj, hm, uG, eD, hia, hil, hmk⟩
    refine ⟨rfl, ?_⟩
    unfold tYes
    dsimp only
    rw [if_pos rfl]
    refine ⟨_, rfl, _, rfl, _, _, rfl, rfl, .inl ⟨by decide, by decide⟩, _, _, rfl, rfl, p, m, 2 * ky + 1, l, rfl, bgj, by omega, by omega, hk2, fun x Gx x1 x2 bgx ux => ?_⟩
    refine ⟨_, rfl, _, _, rfl, rfl, _, rfl, _, rfl, _, _, rfl, rfl, .inl ⟨by decide, by decide⟩, _, _, rfl, rfl, (by show 2 ≤ sizeLine; decide), fun t nt => ?_⟩
    rw [Int.zero_add]
    have eDx := lst_but ux bgj.dk eD
    have sT := new_same (o := .tup [.int (x - ky), .int (m0 + 7 * (j : Int))]) nt
    have eDt := sT _ _ eDx
    have ntD : t ≠ D := (ne_of_none eDx nt).symm
    have hix := hia.butD ux bgj.dk
    refine ⟨itV as, eDt, by rw [len_it, hix.1, hil]; exact big (by omega), as ++ [t], its ++ [(x - ky, m0 + 7 * (j : Int))], m + 1, (bgx.keep sT).out ⟨_, eDt⟩ nDl, by omega, ?_, by rw [upd_same]; unfold itV; rw [List.map_append]; rfl, ?_, by rw [List.length_append, hil]; rfl, fun k hk => ?_⟩
    · intro c o hc z
      have nc : c ≠ D := fun e => by rw [e, nD] at z; cases z
      rw [upd_ne nc]
      exact sT _ _ (ux _ _ hc (uG _ _ hc z))
    · refine ItA.snoc ⟨hix.1, fun i1 b1 q1 h1 h2 => ?_⟩ (by rw [upd_ne ntD, upd_same])
      have h3 := sT _ _ (hix.2 i1 b1 q1 h1 h2)
      rw [upd_ne (ne_of h3 eDt (by intro z; cases z))]
      exact h3
    · by_cases e : k < its.length
      · rw [(ky_snoc e).2]
        exact hmk k (by omega)
      · have e2 : k = its.length := by omega
        subst e2
        rw [ky_last.2, hil]
  · rintro G ⟨as, its, m, bg, hm, uG, eD, hia, hil, hmk⟩
    refine q G D as its m uG nD eD hia hil (fun i j h1 h2 h3 => ?_) bg hm nDl
    rw [hmk i (by omega), hmk j (by omega)] at h3
    omega
theorem ix_tupk {X : Cx} {K' : PySem.W.Frag} (hk : X.K = K') : IxR X (rIxT K') := hk ▸ ix_tup
theorem ix_listk {X : Cx} {K' : PySem.W.Frag} (hk : X.K = K') : IxR X (rIxL K') := hk ▸ ix_list
end
end H2
namespace H2
open PySem PySem.Spec PyProof.Rows L2 Hx Nd Dun
section
variable {P : Program} {w : World} {K : PySem.W.Frag} {mg : Str → Option Value} {base : Heap} {D : Addr}
/-! ### lists sorted, lists of faults -/
def unref : V → Addr
  | .ref a => a
  | _ => 0
def itOf (H : Hp) (a : Addr) : Int × Int := match H a with
  | some (.tup [.int k, .int m]) => (k, m)
  | _ => (0, 0)
theorem mk_pw {its : List (Int × Int)} : MkNd its ↔ (its.map (·.2)).Pairwise (· ≠ ·) := by
  have mk : ∀ i (h : i < its.length), mkA its i = its[i].2 := fun i h => by
    unfold mkA
    rw [List.getD_eq_getElem?_getD, List.getElem?_eq_getElem h]
    rfl
  rw [List.pairwise_iff_getElem]
  constructor
  · intro h i j hi hj hij e
    rw [List.length_map] at hi hj
    rw [List.getElem_map, List.getElem_map] at e
    have := h i j hi hj (by rw [mk i hi, mk j hj]; exact e)
    omega
  · intro h i j hi hj e
    rw [mk i hi, mk j hj] at e
    rcases Nat.lt_trichotomy i j with z | z | z
    · exact absurd (by rw [List.getElem_map, List.getElem_map]; exact e) (h i j (by rw [List.length_map]; exact hi) (by rw [List.length_map]; exact hj) z)
    · exact z
    · exact absurd (by rw [List.getElem_map, List.getElem_map]; exact e.symm) (h j i (by rw [List.length_map]; exact hj) (by rw [List.length_map]; exact hi) z)
theorem perm_items {H : Hp} {as : List Addr} {its : List (Int × Int)} {ys : List V} (h : ys.Perm (itV as)) (ha : ItA H as its) (hm : MkNd its) : ∃ as2 its2, ys = itV as2 ∧ ItA H as2 its2 ∧ its2.length = its.length ∧ MkNd its2 := by
  have e0 : (itV as).map unref = as := by
    unfold itV
    rw [List.map_map]
    exact (List.map_congr_left fun a _ => rfl).trans (List.map_id _)
  have hp : (ys.map unref).Perm as := by
    have := h.map unref
    rwa [e0] at this
  have ey : ys = itV (ys.map unref) := by
    unfold itV
    rw [List.map_map]
    refine ((List.map_congr_left fun y hy => ?_).trans (List.map_id _)).symm
    obtain ⟨b, _, e⟩ := List.mem_map.mp (h.mem_iff.mp hy)
    rw [← e]
    rfl
  generalize ys.map unref = as2 at hp ey
  have hof : ∀ i a q, as[i]? = some a → its[i]? = some q → itOf H a = q := fun i a q h1 h2 => by
    unfold itOf
    rw [ha.2 i a q h1 h2]
  have em : as.map (itOf H) = its := by
    refine List.ext_getElem? fun i => ?_
    rw [List.getElem?_map]
    by_cases e : i < its.length
    · have e2 : i < as.length := by rw [ha.1]; exact e
      rw [List.getElem?_eq_getElem e, List.getElem?_eq_getElem e2]
      exact congrArg some (hof i _ _ (List.getElem?_eq_getElem e2) (List.getElem?_eq_getElem e))
    · have e2 : as.length ≤ i := by rw [ha.1]; omega
      have e3 : its.length ≤ i := by omega
      rw [List.getElem?_eq_none e2, List.getElem?_eq_none e3]
      rfl
  have hp2 : (as2.map (itOf H)).Perm its := by
    have := hp.map (itOf H)
    rwa [em] at this
  refine ⟨as2, as2.map (itOf H), ey, ⟨(List.length_map _).symm, fun i a q h1 h2 => ?_⟩, hp2.length_eq, ?_⟩
  · rw [List.getElem?_map, h1] at h2
    have h2 := Option.some.inj h2
    have hm := hp.mem_iff.mp (List.mem_of_getElem? h1)
    obtain ⟨j, hj⟩ := List.getElem?_of_mem hm
    have hjl : j < its.length := by
      rw [← ha.1]
      exact (List.getElem?_eq_some_iff.mp hj).1
    have e3 := hof j a _ hj (List.getElem?_eq_getElem hjl)
    rw [← h2, e3]
    exact ha.2 j a _ hj (List.getElem?_eq_getElem hjl)
  · rw [mk_pw] at hm ⊢
    exact ((hp2.map (·.2)).pairwise_iff fun z => z.symm).mpr hm
/-- the places of the faults -/
def ftN (its : List (Int × Int)) (w : Nat) : List Int := (rangeI 1 (its.length - 1)).filter fun y => ftB its w y.toNat
theorem rangeI_split (lo : Int) (m k : Nat) : rangeI lo (m + k) = rangeI lo m ++ rangeI (lo + (m : Int)) k := by
  induction k with
  | zero => exact (List.append_nil _).symm
  | succ k ih =>
    rw [← Nat.add_assoc, rangeI_succ, ih, rangeI_succ, List.append_assoc]
    have : lo + ((m + k : Nat) : Int) = lo + (m : Int) + (k : Int) := by omega
    rw [this]
theorem ft_nil {its : List (Int × Int)} {w n : Nat} (h : NoFt its w (n + 1)) : (rangeI 1 n).filter (fun y => ftB its w y.toNat) = [] := by
  rw [List.filter_eq_nil_iff]
  intro y hy
  obtain ⟨h1, h2⟩ := mem_rangeI.mp hy
  rw [h y.toNat (by omega) (by omega)]
  exact Bool.false_ne_true
theorem ft_heap {its : List (Int × Int)} {w : Nat} : heapB its w = (ftN its w).isEmpty := by
  cases e : heapB its w with
  | true =>
    have := heapB_iff.mp e
    have h2 : ftN its w = [] := ft_nil fun i h0 hi => this i h0 (by omega)
    rw [h2]
    rfl
  | false =>
    cases e2 : ftN its w with
    | cons y r => rfl
    | nil =>
      have h3 : heapB its w = true := heapB_iff.mpr fun i h0 hi => by
        have h4 := List.filter_eq_nil_iff.mp e2 (i : Int) (mem_rangeI.mpr ⟨by omega, by omega⟩)
        rw [Int.toNat_natCast] at h4
        cases z : ftB its w i with
        | false => rfl
        | true => exact absurd z h4
      rw [e] at h3
      cases h3
theorem ft_head {its : List (Int × Int)} {w : Nat} {v : V} (h : FfV its w v) : ((ftN its w).map V.int ++ [V.non])[0]? = some v := by
  rcases h with ⟨rfl, h⟩ | ⟨i, rfl, h0, h1, h2, h3⟩
  · have : ftN its w = [] := ft_nil fun j g0 gj => h j g0 (by omega)
    rw [this]
    rfl
  · have e : ftN its w = (i : Int) :: (rangeI (1 + (i : Int)) (its.length - 1 - i)).filter fun y => ftB its w y.toNat := by
      unfold ftN
      have e1 : its.length - 1 = (i - 1) + ((its.length - 1 - i) + 1) := by omega
      have e2 : rangeI (1 + ((i - 1 : Nat) : Int)) ((its.length - 1 - i) + 1) = (i : Int) :: rangeI (1 + (i : Int)) (its.length - 1 - i) := by
        rw [Nat.add_comm, rangeI_split]
        have a1 : (1 : Int) + ((i - 1 : Nat) : Int) = (i : Int) := by omega
        rw [a1]
        have a2 : (i : Int) + ((1 : Nat) : Int) = 1 + (i : Int) := by omega
        rw [a2]
        have a3 : rangeI (i : Int) 1 = [(i : Int)] := by
          show [(i : Int) + ((0 : Nat) : Int)] = [(i : Int)]
          rw [show (i : Int) + ((0 : Nat) : Int) = (i : Int) by omega]
        rw [a3]
        rfl
      rw [e1, rangeI_split, e2, List.filter_append, ft_nil (n := i - 1) (fun j g0 gj => h3 j g0 (by omega)), List.nil_append, List.filter_cons, Int.toNat_natCast, if_pos h2, ← e1]
    rw [e]
    rfl
end
end H2
namespace H2
open PySem PySem.Spec PyProof.Rows L2 Hx Nd Dun
section
variable {P : Program} {w : World} {K : PySem.W.Frag} {mg : Str → Option Value} {base : Heap} {D : Addr}
/-! ### lists as data -/
theorem dp_ints {H : Hp} (ys : List Int) : DpAll K H (ys.map V.int) (ys.map PyData.int) := by
  induction ys with
  | nil => exact .nil
  | cons y r ih => exact .cons (.int y) ih
theorem shaped_ints (ys : List Int) : SeqAt.shaped (.list (ys.map PyData.int)) = true := by
  have h1 : PyData.canLayAll0 (ys.map PyData.int) = true := by
    induction ys with
    | nil => rfl
    | cons y r ih => rw [List.map_cons, PyData.canLayAll0, ih]; rfl
  have h2 : PyData.depthAll (ys.map PyData.int) = 0 := by
    induction ys with
    | nil => rfl
    | cons y r ih => rw [List.map_cons, PyData.depthAll, ih (by
        rw [List.map_cons, PyData.canLayAll0, Bool.and_eq_true] at h1
        exact h1.2)]; rfl
  unfold SeqAt.shaped
  rw [Bool.and_eq_true]
  refine ⟨by rw [PyData.canLay0]; exact h1, decide_eq_true ?_⟩
  rw [PyData.depth, h2]
  decide
end
end H2
namespace H2
open PySem PySem.Spec PyProof.Rows L2 Hx Nd Dun
section
variable {P : Program} {w : World} {K : PySem.W.Frag} {mg : Str → Option Value} {base : Heap} {D : Addr}
/-! ### small sums -/
theorem par_child {w i k : Nat} (h1 : 1 ≤ k) (h2 : k ≤ w) : paN w (chN w i k) = i := by
  unfold paN chN
  have : w * i + k - 1 = k - 1 + w * i := by omega
  rw [this, Nat.add_mul_div_left _ _ (by omega), Nat.div_eq_of_lt (by omega), Nat.zero_add]
theorem rng_const {lo : Int} {n : Nat} {q : Int} : (rangeI lo n).map (fun _ => V.int q) = (List.replicate n q).map V.int := by
  unfold rangeI
  rw [List.map_map, List.map_replicate]
  have : ∀ l : List Nat, l.map ((fun _ => V.int q) ∘ fun (i : Nat) => lo + (i : Int)) = List.replicate l.length (V.int q) := fun l => by
    induction l with
    | nil => rfl
    | cons x r ih => rw [List.map_cons, ih]; rfl
  rw [this, List.length_range]
theorem eqv_ints (ys : List Int) : PyData.eqv (.list (ys.map PyData.int)) (.list (ys.map PyData.int)) = true := by
  have h : PyData.eqvAll (ys.map PyData.int) (ys.map PyData.int) = true := by
    induction ys with
    | nil => rfl
    | cons y r ih =>
      show (PyData.eqv (.int y) (.int y) && PyData.eqvAll (r.map PyData.int) (r.map PyData.int)) = true
      rw [ih]
      simp [PyData.eqv]
  show PyData.eqvAll (ys.map PyData.int) (ys.map PyData.int) = true
  exact h
end
end H2
namespace H2
open PySem PySem.Spec PyProof.Rows L2 Hx Nd Dun
section
variable {P : Program} {w : World} {K : PySem.W.Frag} {mg : Str → Option Value} {base : Heap} {D : Addr}
/-! ### values that are no items -/
theorem intV_str {H : Hp} (x : Str) : IntV K H (.str x) false := ⟨.type "str", false, false, .base (.str x), kit_ty (by decide +kernel), kit_ty (by decide +kernel), rfl⟩
theorem intV_non {H : Hp} : IntV K H .non false := ⟨.type "NoneType", false, false, .base .non, kit_ty (by decide +kernel), kit_ty (by decide +kernel), rfl⟩
theorem intV_bl {H : Hp} (x : Bool) : IntV K H (.bl x) false := ⟨.type "bool", true, true, .base (.bl x), kit_ty (by decide +kernel), kit_ty (by decide +kernel), rfl⟩
theorem noI_int {H : Hp} (n : Int) : ItemV K H (.int n) false := ⟨.type "int", false, .base (.int n), kit_ty (by decide +kernel), fun _ => rfl, fun z => Bool.noConfusion z⟩
theorem noI_non {H : Hp} : ItemV K H .non false := ⟨.type "NoneType", false, .base .non, kit_ty (by decide +kernel), fun _ => rfl, fun z => Bool.noConfusion z⟩
theorem noI_lst {H : Hp} {a : Addr} {xs : List V} (h : H a = some (.lst xs)) : ItemV K H (.ref a) false := ⟨.type "list", false, .base (.lst h), kit_ty (by decide +kernel), fun _ => rfl, fun z => Bool.noConfusion z⟩
theorem noI_len {H : Hp} {a : Addr} {xs : List V} (h : H a = some (.tup xs)) (hl : xs.length ≠ 2) : ItemV K H (.ref a) false := ⟨.type "tuple", true, .base (.tup h), kit_ty (by decide +kernel), fun _ => rfl, fun _ => ⟨a, xs, rfl, SqT.of h, fun _ => rfl, fun x y e => by
  rw [e] at hl
  exact absurd rfl hl⟩⟩
theorem noI_two {H : Hp} {a : Addr} {x y : V} {c d : Bool} (h : H a = some (.tup [x, y])) (hx : IntV K H x c) (hy : IntV K H y d) (hcd : (c && d) = false) : ItemV K H (.ref a) false := ⟨.type "tuple", true, .base (.tup h), kit_ty (by decide +kernel), fun _ => rfl, fun _ => ⟨a, _, rfl, SqT.of h, fun _ => rfl, fun x' y' e => by
  cases e
  exact ⟨c, d, hx, hy, hcd.symm⟩⟩⟩
theorem ItA.take {H : Hp} {as : List Addr} {its : List (Int × Int)} (h : ItA H as its) (n : Nat) : ItA H (as.take n) (its.take n) := by
  refine ⟨by rw [List.length_take, List.length_take, h.1], fun i a p h1 h2 => ?_⟩
  rw [List.getElem?_take] at h1 h2
  split at h1
  · rename_i hi
    rw [if_pos hi] at h2
    exact h.2 i a p h1 h2
  · cases h1
theorem mk_take {its : List (Int × Int)} {n i : Nat} (h : i < n) : mkA (its.take n) i = mkA its i := by
  unfold mkA
  rw [List.getD_eq_getElem?_getD, List.getD_eq_getElem?_getD, List.getElem?_take, if_pos h]
theorem MkNd.take {its : List (Int × Int)} (h : MkNd its) (n : Nat) : MkNd (its.take n) := fun i j hi hj e => by
  rw [List.length_take] at hi hj
  rw [mk_take (by omega), mk_take (by omega)] at e
  exact h i j (by omega) (by omega) e
theorem cut_take (xs : List V) (i : Nat) : cutV xs none (some (i : Int)) = xs.take i := by
  unfold cutV
  rw [HT.sIx_nat, HT.sIx_none, List.drop_zero, Nat.sub_zero]
  rcases Nat.le_total i xs.length with h | h
  · rw [Nat.min_eq_left h]
  · rw [Nat.min_eq_right h, List.take_length, List.take_of_length_le h]
theorem cut_drop (xs : List V) (i : Nat) : cutV xs (some (i : Int)) none = xs.drop i := by
  unfold cutV
  rw [HT.sIx_nat, HT.sIx_none]
  rcases Nat.le_total i xs.length with h | h
  · rw [Nat.min_eq_left h, List.take_of_length_le (by rw [List.length_drop] <;> omega)]
  · rw [Nat.min_eq_right h, List.drop_length, List.drop_of_length_le h, List.take_nil]
end
end H2
namespace H2
open PySem PySem.Spec PyProof.Rows L2 Hx Nd Dun
section
variable {P : Program} {w : World} {K : PySem.W.Frag} {mg : Str → Option Value} {base : Heap} {D : Addr}
/-! ### all but the tables stays -/
open LamX
theorem tyof_ext {H H' : Hp} {x : V} {t : Value} (h : TyOf K H x t) (e : ExtN H H') : TyOf K H' x t := by
  cases h with
  | non => exact .non
  | bl b => exact .bl b
  | int i => exact .int i
  | str y => exact .str y
  | flt y => exact .flt y
  | lst z => exact .lst (e _ _ z (by intro ps q; cases q))
  | frz z => exact .frz (e _ _ z (by intro ps q; cases q))
  | tup z => exact .tup (e _ _ z (by intro ps q; cases q))
  | dK z => exact .dK (e _ _ z (by intro ps q; cases q))
  | dT z => exact .dT (e _ _ z (by intro ps q; cases q))
  | ins z c1 c2 c3 c4 c5 => exact .ins (e _ _ z (by intro ps q; cases q)) c1 c2 c3 c4 c5
theorem tyx_ext {H H' : Hp} {x : V} {t : Value} (h : TyX K H x t) (e : ExtN H H') : TyX K H' x t := by
  cases h with
  | base z => exact .base (tyof_ext z e)
  | byt b => exact .byt b
  | set z => exact .set (e _ _ z (by intro ps q; cases q))
  | kList a b => exact .kList a b
  | kTuple a b => exact .kTuple a b
  | kDict a b => exact .kDict a b
  | fTuple z => exact .fTuple (e _ _ z (by intro ps q; cases q))
  | fDict z => exact .fDict (e _ _ z (by intro ps q; cases q))
theorem sqt_ext {H H' : Hp} {a : Addr} {xs : List V} (h : SqT K H a xs) (e : ExtN H H') : SqT K H' a xs := by
  rcases h with (h | ⟨o, h⟩) | h
  · exact .inl (.inl (e _ _ h (by intro ps q; cases q)))
  · exact .inl (.inr ⟨o, e _ _ h (by intro ps q; cases q)⟩)
  · exact .inr h
theorem IntV.ext {H H' : Hp} {v : V} {b : Bool} (h : IntV K H v b) (e : ExtN H H') : IntV K H' v b := by
  obtain ⟨t, b1, b2, ty, r⟩ := h
  exact ⟨t, b1, b2, tyx_ext ty e, r⟩
theorem ItemV.ext {H H' : Hp} {v : V} {b : Bool} (h : ItemV K H v b) (e : ExtN H H') : ItemV K H' v b := by
  obtain ⟨t, b1, ty, k1, h0, h1⟩ := h
  refine ⟨t, b1, tyx_ext ty e, k1, h0, fun z => ?_⟩
  obtain ⟨a, xs, e1, e2, e3, e4⟩ := h1 z
  refine ⟨a, xs, e1, sqt_ext e2 e, e3, fun x y z => ?_⟩
  obtain ⟨c, d, h3, h4, h5⟩ := e4 x y z
  exact ⟨c, d, h3.ext e, h4.ext e, h5⟩
theorem BadV.ext {H H' : Hp} {its : List (Int × Int)} {v : V} (h : BadV K H its v) (e : ExtN H H') : BadV K H' its v := by
  rcases h with h | ⟨a, k, j, h1, h2, h3⟩
  · exact .inl (h.ext e)
  · exact .inr ⟨a, k, j, h1, e _ _ h2 (by intro ps q; cases q), h3⟩
theorem ItA.ext {H H' : Hp} {as : List Addr} {its : List (Int × Int)} (h : ItA H as its) (e : ExtN H H') : ItA H' as its := ⟨h.1, fun i a p h1 h2 => e _ _ (h.2 i a p h1 h2) (by intro ps q; cases q)⟩
theorem CodO.ext {C CF c : Addr} {H H' : Hp} {w : Nat} (h : CodO K C CF H c w) (e : ExtN H H') : CodO K C CF H' c w := by
  obtain ⟨fl, ⟨dx, fs, h1, h2⟩, ⟨dx', fs', h3, h4⟩⟩ := h
  exact ⟨fl, ⟨dx, fs, e _ _ h1 (by intro ps q; cases q), h2⟩, ⟨dx', fs', e _ _ h3 (by intro ps q; cases q), h4⟩⟩
/-- tuples of integers, as data -/
theorem eqv_all_refl : ∀ {ds : List PyData}, (∀ d ∈ ds, PyData.eqv d d = true) → PyData.eqvAll ds ds = true
  | [], _ => rfl
  | d :: r, h => by
    show (PyData.eqv d d && PyData.eqvAll r r) = true
    rw [h d List.mem_cons_self, eqv_all_refl fun x hx => h x (List.mem_cons_of_mem _ hx)]
    rfl
def dIt (p : Int × Int) : PyData := .tuple [.int p.1, .int p.2]
theorem dp_items {H : Hp} : ∀ {as : List Addr} {its : List (Int × Int)}, ItA H as its → DpAll K H (itV as) (its.map dIt) ∧ PyData.canLayAll0 (its.map dIt) = true ∧ PyData.depthAll (its.map dIt) ≤ 1
  | [], [], _ => ⟨.nil, rfl, Nat.zero_le _⟩
  | [], _ :: _, h => by cases h.1
  | _ :: _, [], h => by cases h.1
  | a :: as, q :: its, h => by
    obtain ⟨h1, h2, h3⟩ := dp_items (as := as) (its := its) ⟨Nat.succ.inj h.1, fun i b p x y => h.2 (i + 1) b p x y⟩
    have e := h.2 0 a q rfl rfl
    refine ⟨.cons (.tup (SqT.of e) (.cons (.int q.1) (.cons (.int q.2) .nil))) h1, ?_, ?_⟩
    · rw [List.map_cons, PyData.canLayAll0, h2, dIt, PyData.canLay0, PyData.canLayAll0, PyData.canLayAll0, PyData.canLayAll0, PyData.canLay0, PyData.canLay0]
      rfl
    · rw [List.map_cons, PyData.depthAll]
      have : PyData.depth (dIt q) = 1 := rfl
      rw [this]
      exact Nat.max_le.mpr ⟨Nat.le_refl _, h3⟩
theorem shaped_tup {ds : List PyData} (h1 : PyData.canLayAll0 ds = true) (h2 : PyData.depthAll ds ≤ 1) : SeqAt.shaped (.tuple ds) = true := by
  unfold SeqAt.shaped
  rw [Bool.and_eq_true]
  refine ⟨by rw [PyData.canLay0]; exact h1, decide_eq_true ?_⟩
  rw [PyData.depth]
  omega
theorem eqv_items (its : List (Int × Int)) : PyData.eqv (.tuple (its.map dIt)) (.tuple (its.map dIt)) = true := by
  show PyData.eqvAll (its.map dIt) (its.map dIt) = true
  refine eqv_all_refl fun d hd => ?_
  obtain ⟨q, _, rfl⟩ := List.mem_map.mp hd
  simp [dIt, PyData.eqv, PyData.eqvAll]
end
end H2
namespace H2
open PySem PySem.Spec PyProof.Rows L2 Hx Nd Dun
section
variable {P : Program} {w : World} {K : PySem.W.Frag} {mg : Str → Option Value} {base : Heap} {D : Addr}
/-! ### the lambdas of the law -/
open LamX
abbrev lawX (P : Program) (w : World) (K : PySem.W.Frag) (mg : Str → Option Value) (base : Heap) (f ct : Addr) (A : Around) (outer : List Env) (s : Shared) (H : Hp) (E : XK) : Cx := (cxOf CX0 P w K mg base n_law "law" (defScope s_law) f (.ref ct) A outer s H E).nox
def noArgs : Arguments := { posonlyargs := [], args := [], vararg := none, kwonlyargs := [], kw_defaults := [], kwarg := none, defaults := [] }
section
variable {f ct Pt gr DB : Addr} {A : Around} {outer : List Env} {s : Shared} {H : Hp} {E : XK} {EC EI : Nat → Addr} {k : Nat}
theorem pe_ref {lamQ : Str} {body : Expr} {scope : Scope} {t : XK → TE} {p lpos pos : Pos} {rd : FuncData} (hq : (lawX P w K mg base f ct A outer s H E).env.qual ++ ("<lambda>" : Str) = lamQ) (TB : TabB base mg ct Pt) (ET : ErrC K mg DB EC EI) (ex5 : PySem.W.exmOne K (.ref (EC 5)) (.ref (EC 5)) = some true)
    (FR : Fun K "_law_refused" "_law_refused" s_Lrefused gr rd) (bR : Binds K rd ["_law_action"] []) (mR : mg "_law_refused" = some (.ref gr)) (hr : Room (k + 2) (lawX P w K mg base f ct A outer s H E).A) (L : lamSB (defScope s_law) scope = true)
    (hbody : ∀ (A' : Around) (outer' : List Env) (s' : Shared) (H' : Hp) (E' : XK) (f' c' : Addr), Room k (A'.deeper (lamEnv (lawX P w K mg base f ct A outer s H E) scope s'.heap.objs.size f' c')) → PE (lamCx (lawX P w K mg base f ct A outer s H E) A' outer' s' H' E' scope f' c') body (t E')) :
    PE (lawX P w K mg base f ct A outer s H E) (.Call (.Name "_law_refused" p) [.Lambda noArgs body scope lpos] [] pos) (tLam [(Pt, lamQ)] (TTref (EC 5)) t) := by
  obtain ⟨ocR, odR, kVR, docR, pmR, anR, cdvR, ctR, oslR, rfl, lkR, hcR⟩ := FR.ex
  have hG : GivesTo (lawX P w K mg base f ct A outer s H E) n_Lrefused "_law_refused" (defScope s_Lrefused) gr cdvR (defBody s_Lrefused) "_law_action" ((lawX P w K mg base f ct A outer s H E).env.qual ++ "<lambda>") (TTref (EC 5)) := refused_gives (X := lawX P w K mg base f ct A outer s H E) ET ex5
  have h1 : Gl (lawX P w K mg base f ct A outer s H E) "_law_refused" := rfl
  have h2 : (lawX P w K mg base f ct A outer s H E).env.code = .ref ct := rfl
  have h3 : (Pt, (lawX P w K mg base f ct A outer s H E).env.qual ++ ("<lambda>" : Str)) ∈ [(Pt, lamQ)] := by rw [hq]; exact List.mem_cons_self
  have h4 : ∀ p ∈ [(Pt, lamQ)], p.1 = Pt → p.2 = (lawX P w K mg base f ct A outer s H E).env.qual ++ ("<lambda>" : Str) := fun p hp _ => by rw [List.mem_singleton.mp hp, hq]
  have h5 : defaultsOf noArgs (lawX P w K mg base f ct A outer s H E).env = ([], []) := rfl
  have h6 : ∀ (q : Str) (cl : List (Str × Addr)) (pm cv ctv : Value), bindArgs (PySem.W.kla_fn "<lambda>" q noArgs body scope cl pm cv ctv) ⟨[], []⟩ = pure [] := fun _ _ _ _ _ => rfl
  have h7 : Vis (defScope s_Lrefused) "_law_action" := .inl rfl
  have h8 : n_Lrefused[0]? = some ("_law_action" : Str) := rfl
  have h9 : LamS (lawX P w K mg base f ct A outer s H E).env.scope scope := lamS_by L
  exact pe_lamcall (k := k) (Ng := n_Lrefused) (a := "_law_action") h1 mR FR.kp lkR hcR bR c_Lrefused h8 h7 hG TB h2 h3 h4 hr h9 h5 h6 hbody
end
end
end H2
namespace H2
open PySem PySem.Spec PyProof.Rows L2 Hx Nd Dun
section
variable {P : Program} {w : World} {K : PySem.W.Frag} {mg : Str → Option Value} {base : Heap} {D : Addr}
/-! ### the law -/
open LamX
theorem tbl_but {p l Pt : Addr} {n : Nat} {G G' : Hp} (u : But p G G') (b : BagL G p l n) (h : G Pt = some (.tbl #[])) : G' Pt = some (.tbl #[]) := by
  obtain ⟨kvs, hk⟩ := b.dk
  exact u _ _ (ne_of h hk (by intro z; cases z)) h
def spLaw36 (K : PySem.W.Frag) (Pt : Addr) : Sp := fun vs H Q _ => ∃ (a : Addr) (xs : List Int), vs = [.ref a] ∧ SqL K H a (xs.map V.int) ∧ xs.length ≤ 63 ∧ H Pt = some (.tbl #[]) ∧ ∀ H', Q (.bl true) H'
theorem ok_law36 {f gb gd gi gh gf gpa gch gr gpl gbd C CF m0 ct Pt DB : Addr} {EC EI : Nat → Addr} {fd : FuncData} (F : Fun K "law" "law" s_law f fd) (hcd : fd.code = .ref ct) (TB : TabB base mg ct Pt) (BT : BltT mg) (rng : mg "range" = none) (lst : mg "list" = none) (tup : mg "tuple" = none) (srt : mg "sorted" = none) (len : mg "len" = none) (TC : CodeX K mg C m0) (ET : ErrC K mg DB EC EI) (ex5 : PySem.W.exmOne K (.ref (EC 5)) (.ref (EC 5)) = some true)
    {bd dd itd hd' fd1 pd chd rd pld bdd cd : FuncData}
    (FB : Fun K "_law_bag" "_law_bag" sBag gb bd) (bB : Binds K bd ["_law_script"] []) (mB : mg "_law_bag" = some (.ref gb))
    (FD : Fun K "_law_draw" "_law_draw" sDraw gd dd) (bD : Binds K dd ["_law_bag_here", "_law_limit"] []) (mD : mg "_law_draw" = some (.ref gd))
    (FI : Fun K "_law_items" "_law_items" s_Litems gi itd) (bI : Binds K itd psIT []) (mI : mg "_law_items" = some (.ref gi)) (GI : FnOk P w K mg base CX0 2 gi itd psIT (spItems K))
    (FH : Fun K "is_heap" "is_heap" s_is_heap gh hd') (bH : Binds K hd' psIW []) (mH : mg "is_heap" = some (.ref gh)) (GH : FnOk P w K mg base CX0 3 gh hd' psIW (spHeapE K))
    (FF : Fun K "first_fault" "first_fault" s_first_fault gf fd1) (bF : Binds K fd1 psIW []) (mF : mg "first_fault" = some (.ref gf)) (GF : FnOk P w K mg base CX0 2 gf fd1 psIW (spFFT K))
    (FP : Fun K "parent" "parent" s_parent gpa pd) (bP : Binds K pd psPW []) (mP : mg "parent" = some (.ref gpa)) (GP : FnOk P w K mg base CX0 1 gpa pd psPW spParent)
    (FC : Fun K "child" "child" s_child gch chd) (bC : Binds K chd psChild []) (mC : mg "child" = some (.ref gch)) (GC : FnOk P w K mg base CX0 1 gch chd psChild spChild)
    (FR : Fun K "_law_refused" "_law_refused" s_Lrefused gr rd) (bR : Binds K rd ["_law_action"] []) (mR : mg "_law_refused" = some (.ref gr))
    {dsP : List Value} (kpl : PySem.W.keepIn K (.ref gpl) = true) (bPl : Binds K pld psPy dsP) (vPl : Vals [.non] dsP) (mPl : mg "play" = some (.ref gpl)) (GPl : FnOk P w K mg base (L2.CX P w) 6 gpl pld psPy (spCCX K (EC 5)))
    (FBd : Fun K "build" "build" s_build gbd bdd) (bBd : Binds K bdd psBd []) (mBd : mg "build" = some (.ref gbd)) (GBx : FnOk P w K mg base (L2.CX P w) 5 gbd bdd psBd (spBdX K C CF (EC 5))) (GBd : FnOk P w K mg base (L2.CX P w) 5 gbd bdd psBd (spBd K C CF))
    (bCd : Binds K cd psCD []) (GCd : FnOk P w K mg base CX0 4 m0 cd psCD (spCode0 K C CF)) :
    FnOk P w K mg base CX0 9 f fd ["_law_script"] (spLaw36 K Pt) := by
  have GD : FnOk P w K mg base CX0 1 gd dd ["_law_bag_here", "_law_limit"] spDrawL := ok_drawL FD BT
  have GB : FnOk P w K mg base CX0 1 gb bd ["_law_script"] (spBag K) := ok_bag FB BT
  refine fun_okC F c_law (fun vs H Q E h => ?_) (fun cdv A outer s H vs Q E hcv hr h => ?_)
  · obtain ⟨a, xs, rfl, _⟩ := h
    rfl
  rw [hcd] at hcv
  subst hcv
  obtain ⟨a, xs, rfl, ha, hxs, hPt, q⟩ := h
  have hr1 : Room 1 _ := hr.mono (by decide)
  have hr2 : Room 2 _ := hr.mono (by decide)
  have hr3 : Room 3 _ := hr.mono (by decide)
  have hr4 : Room 4 _ := hr.mono (by decide)
  have hr5 : Room 5 _ := hr.mono (by decide)
  have hr8 : Room 8 _ := hr
  have hu := hr.units
  obtain ⟨lamQ, hlq⟩ : ∃ q, (lawX P w K mg base f ct A outer s H E).env.qual ++ ("<lambda>" : Str) = q := ⟨_, rfl⟩
  refine ⟨_, pss_cons (ps_set (i := 1) c_law.nd rfl (Or.inl rfl) (pe_call GB hr1 rfl mB FB.kp bB .nil pass0 (pa_cons (pv 0) pa_nil))) <|
    pss_cons (ps_set (i := 2) c_law.nd rfl (Or.inr rfl) (pe_op op_add pe_int (pe_call GD hr1 rfl mD FD.kp bD .nil pass0 (pa_cons (pv 1) (pa_cons pe_int pa_nil))))) <|
    pss_cons (ps_set (i := 3) c_law.nd rfl (Or.inl rfl) (pe_ix ix_list (pe_lst (pa_cons pe_int (pa_cons pe_int (pa_cons (pe_op op_pow pe_int pe_int) pa_nil)))) (pe_call GD hr1 rfl mD FD.kp bD .nil pass0 (pa_cons (pv 1) (pa_cons pe_int pa_nil))) (fun _ _ => rfl))) <|
    pss_cons (ps_set (i := 4) c_law.nd rfl (Or.inr rfl) (pe_call GI hr2 rfl mI FI.kp bI .nil pass0 (pa_cons (pv 1) (pa_cons (pe_call GD hr1 rfl mD FD.kp bD .nil pass0 (pa_cons (pv 1) (pa_cons pe_int pa_nil))) (pa_cons (pv 3) (pa_cons (pe_call GD hr1 rfl mD FD.kp bD .nil pass0 (pa_cons (pv 1) (pa_cons pe_int pa_nil))) pa_nil)))))) <|
    Evl.pss_cut (ps_if (pt_cmpR op_eq (pe_call GD hr1 rfl mD FD.kp bD .nil pass0 (pa_cons (pv 1) (pa_cons pe_int pa_nil))) pe_int (nomark _)) (pss_one (ps_set (i := 4) c_law.nd rfl (Or.inr rfl) (pe_callB cr_sortedP (by rfl) srt (by decide +kernel) (pa_cons (pv 4) pa_nil)))) pss_nil) <|
    pss_cons (ps_setLc (i := 5) (own := [("_law_k", 6)]) (g := gName 6) rfl c_law.nd rfl rfl (sw_true rfl rfl rfl (by decide +kernel)) (pi_range2 rfl rng (pa_cons pe_int (pa_cons (pe_callB call_len_seq (by rfl) len PySem.boot_len (pa_cons (pv 4) pa_nil)) pa_nil))) (blkOk_by (own := [("_law_k", 6)]) (N := n_law) (sc := defScope s_law) (by decide +kernel))
      (fun _ _ _ _ _ => pg_name (i := 6) c_law.nd rfl (Or.inl rfl)) (fun _ _ _ _ _ => pts_one (pt_cmpR op_lt (pe_ix (ix_tupk (K' := K) rfl) (pe_ix (ix_listk (K' := K) rfl) (pv 4) (pv 6) (fun _ _ => rfl)) pe_int (fun _ _ => rfl)) (pe_ix (ix_tupk (K' := K) rfl) (pe_ix (ix_listk (K' := K) rfl) (pv 4) (pe_op op_fdivN (pe_op op_sub (pv 6) pe_int) (pv 2)) (fun _ _ => rfl)) pe_int (fun _ _ => rfl)) (nomark _))) (fun _ _ _ _ _ => pv 6)) <|
    pss_cons (ps_if (PW.pt (pw_or (pt_cmpR op_ne (pe_call GH hr3 rfl mH FH.kp bH .nil pass0 (pa_cons (pv 4) (pa_cons (pv 2) pa_nil))) (pe_cmpR (op_eqD hu) (pv 5) (pe_lst pa_nil) (nomark _)) (nomark _))
        (pw_or1 (pt_cmpR op_ne (pe_call GF hr2 rfl mF FF.kp bF .nil pass0 (pa_cons (pe_callTy call_tuple_of (by rfl) tup (by decide +kernel) (pa_cons (pv 4) pa_nil)) (pa_cons (pv 2) pa_nil))) (pe_ix ix_list (pe_op op_cat (pv 5) (pe_lst (pa_cons pe_non pa_nil))) pe_int (fun _ _ => rfl)) (nomark _))))) (pss_one (ps_ret pe_bl)) pss_nil) <|
    pss_cons (ps_for PassesOwn.never rfl (pi_list (pe_lst (pa_cons pe_int (pa_cons pe_int (pa_cons (pv 2) (pa_cons (pe_call GD hr1 rfl mD FD.kp bD .nil pass0 (pa_cons (pv 1) (pa_cons pe_int pa_nil))) (pa_cons (pe_op op_add (pe_op op_pow pe_int pe_int) (pe_call GD hr1 rfl mD FD.kp bD .nil pass0 (pa_cons (pv 1) (pa_cons pe_int pa_nil)))) pa_nil))))))) (pg_name (i := 7) c_law.nd rfl (Or.inr rfl))
      (pss_cons (ps_if (pt_cmpR (op_neD hu)
          (pe_lc (own := [("_law_k", 6)]) (g := gName 6) (tt := tYes) rfl c_law.nd (pi_range2 rfl rng (pa_cons pe_int (pa_cons (pe_op op_add (pv 2) pe_int) pa_nil))) (blkOk_by (own := [("_law_k", 6)]) (N := n_law) (sc := defScope s_law) (by decide +kernel))
            (fun _ _ _ _ _ => pg_name (i := 6) c_law.nd rfl (Or.inl rfl)) (fun _ _ _ _ _ => pts_nil) (fun _ _ _ _ _ => pe_call GP hr1 rfl mP FP.kp bP .nil pass0 (pa_cons (pe_call GC hr1 rfl mC FC.kp bC .nil pass0 (pa_cons (pv 7) (pa_cons (pv 6) (pa_cons (pv 2) pa_nil)))) (pa_cons (pv 2) pa_nil))))
          (pe_lc (own := [("_law_k", 6)]) (g := gName 6) (tt := tYes) rfl c_law.nd (pi_range1 rfl rng (pa_cons (pv 2) pa_nil)) (blkOk_by (own := [("_law_k", 6)]) (N := n_law) (sc := defScope s_law) (by decide +kernel))
            (fun _ _ _ _ _ => pg_name (i := 6) c_law.nd rfl (Or.inl rfl)) (fun _ _ _ _ _ => pts_nil) (fun _ _ _ _ _ => pv 7)) (nomark _)) (pss_one (ps_ret pe_bl)) pss_nil) <|
       pss_one (ps_if (PW.pt (pw_or (pt_cmpR op_ne (pe_call GC hr1 rfl mC FC.kp bC .nil pass0 (pa_cons (pv 7) (pa_cons pe_int (pa_cons (pv 2) pa_nil)))) (pe_op op_add (pe_op op_mul (pv 7) (pv 2)) pe_int) (nomark _))
          (pw_or1 (pt_cmpR op_ne (pe_call GC hr1 rfl mC FC.kp bC .nil pass0 (pa_cons (pv 7) (pa_cons (pv 2) (pa_cons (pv 2) pa_nil)))) (pe_op op_mul (pe_op op_add (pv 7) pe_int) (pv 2)) (nomark _))))) (pss_one (ps_ret pe_bl)) pss_nil))) <|
    pss_cons (ps_if (PW.pt (pw_or (pt_cmp (pc_notN (pe_call GP hr1 rfl mP FP.kp bP .nil pass0 (pa_cons pe_int (pa_cons (pv 2) pa_nil))))) (pw_or1 (pt_cmpR op_ne (pe_call GP hr1 rfl mP FP.kp bP .nil pass0 (pa_cons pe_int (pa_cons (pv 2) pa_nil))) pe_int (nomark _))))) (pss_one (ps_ret pe_bl)) pss_nil) <|
    pss_cons (ps_set (i := 8) c_law.nd rfl (Or.inl rfl) (pe_call GD hr1 rfl mD FD.kp bD .nil pass0 (pa_cons (pv 1) (pa_cons (pe_op op_add (pe_callB call_len_seq (by rfl) len PySem.boot_len (pa_cons (pv 4) pa_nil)) pe_int) pa_nil)))) <|
    Evl.pss_cut (ps_set (i := 9) c_law.nd rfl (Or.inl rfl) (pe_ifExp (PW.pt (pw_and (pt_cmpR (op_neD hu) (pv 4) (pe_lst pa_nil) (nomark _)) (pw_and1 (pt_cmpR op_gt (pv 8) pe_int (nomark _))))) (pe_ix ix_list (pv 4) pe_int (fun _ _ => rfl)) (pe_tup (pa_cons pe_int (pa_cons pe_bl pa_nil))))) <|
    pss_cons (ps_set (i := 10) c_law.nd rfl (Or.inl rfl) (pe_ix ix_list (pe_lst (pa_cons pe_int (pa_cons pe_non (pa_cons (pe_tup (pa_cons pe_int pa_nil)) (pa_cons (pe_lst (pa_cons pe_int (pa_cons pe_int pa_nil))) (pa_cons (pe_tup (pa_cons pe_int (pa_cons pe_int (pa_cons pe_int pa_nil)))) (pa_cons (pe_tup (pa_cons pe_str (pa_cons pe_int pa_nil))) (pa_cons (pe_tup (pa_cons pe_int (pa_cons pe_non pa_nil))) (pa_cons (pe_tup (pa_cons pe_bl (pa_cons pe_int pa_nil))) (pa_cons (pv 9) pa_nil))))))))))
      (pe_call GD hr1 rfl mD FD.kp bD .nil pass0 (pa_cons (pv 1) (pa_cons pe_int pa_nil))) (fun _ _ => rfl))) <|
    pss_cons (ps_set (i := 11) c_law.nd rfl (Or.inr rfl) (pe_op op_cat (pe_op op_cat (pe_slice sl_list (pv 4) po_none (po_some (pv 8))) (pe_lst (pa_cons (pv 10) pa_nil))) (pe_slice sl_list (pv 4) (po_some (pv 8)) po_none))) <|
    pss_cons (ps_set (i := 12) c_law.nd rfl (Or.inr rfl) (pe_make TC.mak GCd hr5 rfl TC.g bCd .nil pass0 (pa_cons pe_str (pa_cons (pv 2) (pa_cons pe_str pa_nil))))) <|
    pss_cons (ps_if (pt_cmpR op_ne (pe_ref (k := 6) (lpos := ⟨791, 20, 791, 56⟩) (lamQ := lamQ) hlq TB ET ex5 FR bR mR hr8 (by decide +kernel)
        (fun A outer s H E f c' hr => pe_callSD GPl hr rfl mPl kpl bPl vPl (fun σ => passAt (L2.takes_of rfl rfl rfl rfl) σ) (pa_cons (pv 12) (pa_cons (pv 11) (pa_cons pe_int pa_nil))))) (pv 8) (nomark _)) (pss_one (ps_ret pe_bl)) pss_nil) <|
    pss_cons (ps_if (pt_cmpR op_ne (pe_ref (k := 5) (lpos := ⟨793, 20, 793, 54⟩) (lamQ := lamQ) hlq TB ET ex5 FR bR mR (hr8.mono (by decide)) (by decide +kernel)
        (fun A outer s H E f c' hr => pe_callS GBx hr rfl mBd FBd.kp bBd (fun σ => passAt (L2.takes_of rfl rfl rfl rfl) σ) (pa_cons (pv 12) (pa_cons (pv 11) pa_nil)))) (pv 8) (nomark _)) (pss_one (ps_ret pe_bl)) pss_nil) <|
    pss_one (ps_ret (pe_cmpR (op_eqD hu) (pe_call GBd hr5 rfl mBd FBd.kp bBd .nil passN (pa_cons (pv 12) (pa_cons (pv 4) pa_nil))) (pe_callTy call_tuple_of (by rfl) tup (by decide +kernel) (pa_cons (pv 4) pa_nil)) (nomark _))), ?_⟩
  refine ⟨_, rfl, a, xs, rfl, ha, hxs, fun p H0 _ s0 b0 => ?_⟩
  obtain ⟨l, b0⟩ : ∃ l, BagL H0 p l 0 := b0
  have t0 : H0 Pt = some (.tbl #[]) := s0 _ _ hPt
  clear hPt ha s0
  -- width
  refine ⟨_, rfl, p, 0, 3, l, rfl, b0, by decide, by decide, small16 (by decide) (by decide), fun r1 G1 a1 a2 b1 u1 => ?_⟩
  have t1 := tbl_but u1 b0 t0
  refine ⟨_, _, rfl, rfl, ?_⟩
  obtain ⟨wn, ew, hw⟩ : ∃ wn : Nat, (2 : Int) + r1 = (wn : Int) ∧ WdN wn := ⟨(2 + r1).toNat, by omega, by
    have : (2 + r1).toNat = 2 ∨ (2 + r1).toNat = 3 ∨ (2 + r1).toNat = 4 := by omega
    exact this⟩
  dsimp only
  rw [ew]
  clear ew a1 a2
  -- keys
  refine ⟨_, _, rfl, rfl, ⟨by decide, by decide, by decide⟩, (by show 3 ≤ sizeLine; decide), fun tb ntb => ?_⟩
  have sb := new_same ntb (o := .lst [.int 1, .int 4, .int ((10 : Int) ^ (30 : Int).toNat)])
  have b1' := b1.keep sb
  have t1' := sb _ _ t1
  refine ⟨_, rfl, p, 0 + 1, 3, l, rfl, b1', by omega, by decide, small16 (by decide) (by decide), fun r2 G2 c1 c2 b2 u2 => ?_⟩
  have t2 := tbl_but u2 b1' t1'
  obtain ⟨ky, hky, eky⟩ : ∃ ky : Int, (ky = 1 ∨ ky = 4 ∨ ky = (10 : Int) ^ (30 : Int).toNat) ∧ atI [V.int 1, V.int 4, V.int ((10 : Int) ^ (30 : Int).toNat)] r2 = some (.int ky) := by
    have h3 : r2 = 0 ∨ r2 = 1 ∨ r2 = 2 := by omega
    rcases h3 with rfl | rfl | rfl
    · exact ⟨1, .inl rfl, rfl⟩
    · exact ⟨4, .inr (.inl rfl), rfl⟩
    · exact ⟨_, .inr (.inr rfl), rfl⟩
  have htb : G2 tb = some (.lst [V.int 1, V.int 4, V.int ((10 : Int) ^ (30 : Int).toNat)]) := lst_but u2 b1'.dk upd_same
  refine ⟨tb, _, _, _, rfl, rfl, SqL.of htb, eky, ?_⟩
  have hk0 : 0 < ky := by rcases hky with rfl | rfl | rfl <;> decide +kernel
  have hk1 : (2 * ky + 1).natAbs < 2 ^ 8000 := by
    have : (2 * ky + 1).natAbs < 2 ^ 200 := by rcases hky with rfl | rfl | rfl <;> decide +kernel
    exact Nat.lt_of_lt_of_le this (Nat.pow_le_pow_right (by decide) (by decide))
  clear hky eky htb c1 c2
  -- items
  refine ⟨_, rfl, _, rfl, p, 0 + 1 + 1, 13, l, rfl, b2, by omega, by decide, small16 (by decide) (by decide), fun r3 G3 d1 d2 b3 u3 => ?_⟩
  have t3 := tbl_but u3 b2 t2
  refine ⟨_, rfl, _, rfl, p, 0 + 1 + 1 + 1, 50, l, rfl, b3, by omega, by decide, small16 (by decide) (by decide), fun r4 G4 f1 f2 b4 u4 => ?_⟩
  have t4 := tbl_but u4 b3 t3
  obtain ⟨n, rfl⟩ : ∃ n : Nat, r3 = (n : Int) := ⟨r3.toNat, by omega⟩
  refine ⟨p, l, 0 + 1 + 1 + 1 + 1, n, ky, r4, rfl, b4, by omega, by omega, hk0, hk1, fun G5 r as its m5 u5 nr er hia hil hmk b5 hm5 nrl => ?_⟩
  have t5 := tbl_but u5 b4 t4
  clear t0 t1 t1' t2 t3 t4 b0 b1 b1' b2 b3 b4 u1 u2 u3 u4 u5 sb
  have hn12 : its.length ≤ 12 := by omega
  -- sorted
  refine ⟨fun σ G => ∃ (r : Addr) (as : List Addr) (its : List (Int × Int)) (m : Nat), σ = [some (.ref a), some (.ref p), some (.int (wn : Int)), some (.int ky), some (.ref r), none, none, none, none, none, none, none, none] ∧ BagL G p l m ∧ m ≤ 50 ∧ G Pt = some (.tbl #[]) ∧ G r = some (.lst (itV as)) ∧ ItA G as its ∧ its.length ≤ 12 ∧ MkNd its ∧ r ≠ l, ?_, ?_⟩
  · refine ⟨_, rfl, p, m5, 2, l, rfl, b5, by omega, by decide, small16 (by decide) (by decide), fun r6 G6 g1 g2 b6 u6 => ?_⟩
    have t6 := tbl_but u6 b5 t5
    have er6 := lst_but u6 b5.dk er
    have hia6 := hia.butD u6 b5.dk
    refine ⟨rfl, _, rfl, iteB (fun _ => ?_) (fun _ => ⟨r, as, its, m5 + 1, rfl, b6, by omega, t6, er6, hia6, hn12, hmk, nrl⟩)⟩
    refine ⟨_, rfl, r, _, rfl, SqL.of er6, fun x hx => ?_, fun ys z hperm nz => ?_⟩
    · obtain ⟨i, hi⟩ := List.getElem?_of_mem hx
      obtain ⟨b, e1, rfl⟩ := itV_at hi
      obtain ⟨_, e2⟩ := hia6.get e1
      exact ⟨b, _, _, rfl, e2⟩
    obtain ⟨as2, its2, rfl, hia2, hl2, hmk2⟩ := perm_items hperm hia6 hmk
    have sz := new_same (o := .lst (itV as2)) nz
    refine ⟨z, as2, its2, m5 + 1, rfl, b6.keep sz, by omega, sz _ _ t6, upd_same, hia2.keep sz, by omega, hmk2, fun e => ?_⟩
    obtain ⟨ys, hy⟩ := b6.lst
    rw [← e, nz] at hy
    cases hy
  clear b5 er hia hil hmk hm5 nrl t5 hn12 nr hk0 hk1
  rintro σ G ⟨r, as, its, m, rfl, bg, hm, tG, er, hia, hn, hmk, nrl⟩
  have hal : (itV as).length = its.length := itV_len hia
  -- faults
  refine ⟨_, rfl, r, _, rfl, .inl (SqL.of er), 1, ((itV as).length : Nat), rfl, ⟨by decide, by decide, by rw [hal]; omega, by rw [hal]; omega⟩, fun D nD => ?_⟩
  rw [hal]
  have e1 : (((its.length : Nat) : Int) - 1).toNat = its.length - 1 := by omega
  rw [e1]
  clear e1
  refine lcr_filt (lo := 1) (n := its.length - 1) (fun y => ftB its wn y.toNat) nD (by omega) (fun _ => rfl) (fun x G' Z h0 h1 sG hz => ?_) (fun x G' Z hz => ⟨_, rfl, hz⟩) (fun G1 s1 eD => ?_)
  · obtain ⟨i, rfl⟩ : ∃ i : Nat, x = (i : Int) := ⟨x.toNat, by omega⟩
    have hi : i < its.length := by omega
    have hpl := paN_lt (w := wn) (i := i) (by omega)
    obtain ⟨c, a1, _, a2⟩ := hia.at hi
    obtain ⟨d, c1, _, c2⟩ := hia.at (i := paN wn i) (by omega)
    have hl2 : SqL K G' r (itV as) := SqL.of (sG _ _ er)
    refine ⟨_, rfl, _, rfl, r, _, _, _, rfl, rfl, hl2, a1, c, _, _, _, rfl, rfl, SqT.of (sG _ _ a2), rfl, ?_⟩
    refine ⟨_, rfl, _, rfl, _, _, rfl, rfl, _, rfl, _, _, rfl, rfl, ⟨by rcases hw with rfl | rfl | rfl <;> decide, by rcases hw with rfl | rfl | rfl <;> decide⟩, ?_⟩
    dsimp only
    rw [pa_fdiv (by omega)]
    refine ⟨r, _, _, _, rfl, rfl, hl2, c1, d, _, _, _, rfl, rfl, SqT.of (sG _ _ c2), rfl, ?_⟩
    refine ⟨_, _, rfl, rfl, _, rfl, ?_⟩
    have := hz G' (Same.refl G')
    rw [Int.toNat_natCast] at this
    exact this
  replace eD : G1 D = some (.lst ((ftN its wn).map V.int)) := eD
  have b1 := bg.keep s1
  have tG1 := s1 _ _ tG
  have er1 := s1 _ _ er
  have hia1 := hia.keep s1
  -- the heap's test
  refine ⟨_, rfl, _, rfl, r, as, its, wn, rfl, SqL.of er1, hia1, hw, by omega, ?_⟩
  refine ⟨_, rfl, Nat.zero_le _, fun z nz => ?_⟩
  have sz := new_same (o := .lst []) nz
  refine ⟨_, _, .lst (SqL.of (sz _ _ eD)) (dp_ints (ftN its wn)), .lst (SqL.of upd_same) .nil, shaped_ints _, by decide +kernel, ?_⟩
  rw [eqv_nil_i, ft_heap]
  refine ⟨rfl, _, rfl, iteBF (by simp) ?_⟩
  have b2 := b1.keep sz
  have t2 := sz _ _ tG1
  have er2 := sz _ _ er1
  have hia2 := hia1.keep sz
  have eD2 := sz _ _ eD
  generalize upd G1 z (.lst []) = G2 at b2 t2 er2 hia2 eD2 ⊢
  clear sz nz b1 tG1 er1 hia1 eD s1 nD
  -- the first fault
  refine ⟨_, rfl, r, _, rfl, .inl ⟨SqL.of er2, fun tp ntp => ?_⟩⟩
  have s3 := new_same (o := .tup (itV as)) ntp
  refine ⟨_, rfl, tp, as, its, wn, rfl, SqT.of upd_same, hia2.keep s3, hw, by omega, fun v hv => ?_⟩
  have eD3 := s3 _ _ eD2
  refine ⟨_, rfl, (by show 1 ≤ sizeLine; decide), fun z2 nz2 => ?_⟩
  have s4 := same_new (o := .lst [.non]) s3 nz2
  have eD4 := (new_same nz2 (o := .lst [.non])) _ _ eD3
  have lF : (ftN its wn).length ≤ 12 := by
    unfold ftN
    refine Nat.le_trans (List.length_filter_le _ _) ?_
    unfold rangeI
    rw [List.length_map, List.length_range]
    omega
  refine ⟨D, z2, _, _, rfl, rfl, eD4, upd_same, ?_, fun wl nwl => ?_⟩
  · rw [List.length_map]
    exact Nat.le_of_lt (big (by show _ + 1 ≤ _; omega))
  have s5 := same_new (o := .lst ((ftN its wn).map V.int ++ [.non])) s4 nwl
  refine ⟨wl, _, _, _, rfl, rfl, SqL.of upd_same, at_of (j := 0) rfl (ft_head hv), ?_⟩
  refine ⟨?_, _, rfl, iteBF (by simp) ?_⟩
  · rcases hv with ⟨rfl, _⟩ | ⟨i, rfl, _⟩ <;> rfl
  have b3 := b2.keep s5
  have t3 := s5 _ _ t2
  have er3 := s5 _ _ er2
  have hia3 := hia2.keep s5
  generalize upd (upd (upd G2 tp (.tup (itV as))) z2 (.lst [.non])) wl (.lst ((ftN its wn).map V.int ++ [.non])) = G3 at b3 t3 er3 hia3 ⊢
  clear s3 s4 s5 eD2 eD3 eD4 b2 t2 er2 hia2 ntp nz2 nwl hv
  -- places
  refine ⟨_, rfl, _, rfl, p, m, 1000, l, rfl, b3, by omega, by decide, small16 (by decide) (by decide), fun x1 G4 a1 a2 b4 u4 => ?_⟩
  have t4 := tbl_but u4 b3 t3
  have er4 := lst_but u4 b3.dk er3
  have hia4 := hia3.butD u4 b3.dk
  refine ⟨_, _, rfl, rfl, ⟨by decide, by decide, by decide⟩, _, rfl, p, m + 1, 100, l, rfl, b4, by omega, by decide, small16 (by decide) (by decide), fun x2 G5 a3 a4 b5 u5 => ?_⟩
  have t5 := tbl_but u5 b4 t4
  have er5 := lst_but u5 b4.dk er4
  have hia5 := hia4.butD u5 b4.dk
  refine ⟨_, _, rfl, rfl, (by show 5 ≤ sizeLine; decide), fun pl npl => ?_⟩
  obtain ⟨pls, hpls, hnat⟩ : ∃ pls : List V, pls = [V.int 0, V.int 1, V.int (wn : Int), V.int x1, V.int ((10 : Int) ^ (30 : Int).toNat + x2)] ∧ ∀ v ∈ pls, ∃ i : Nat, v = .int (i : Int) := by
    refine ⟨_, rfl, fun v hv => ?_⟩
    simp only [List.mem_cons, List.not_mem_nil, or_false] at hv
    rcases hv with rfl | rfl | rfl | rfl | rfl
    · exact ⟨0, rfl⟩
    · exact ⟨1, rfl⟩
    · exact ⟨wn, rfl⟩
    · exact ⟨x1.toNat, by rw [Int.toNat_of_nonneg a1]⟩
    · refine ⟨((10 : Int) ^ (30 : Int).toNat + x2).toNat, ?_⟩
      have h0 : (0 : Int) ≤ (10 : Int) ^ (30 : Int).toNat := by decide +kernel
      rw [Int.toNat_of_nonneg (by omega)]
  have spl := new_same (o := .lst [V.int 0, V.int 1, V.int (wn : Int), V.int x1, V.int ((10 : Int) ^ (30 : Int).toNat + x2)]) npl
  have epl : (upd G5 pl (.lst [V.int 0, V.int 1, V.int (wn : Int), V.int x1, V.int ((10 : Int) ^ (30 : Int).toNat + x2)])) pl = some (.lst pls) := by rw [upd_same, hpls]
  have b6 := b5.keep spl
  have t6 := spl _ _ t5
  have er6 := spl _ _ er5
  have hia6 := hia5.keep spl
  rw [← hpls]
  rw [← hpls] at epl b6 t6 er6 hia6
  generalize upd G5 pl (.lst pls) = G6 at epl b6 t6 er6 hia6 ⊢
  clear spl npl b3 b4 b5 u4 u5 t3 t4 t5 er3 er4 er5 hia3 hia4 hia5 hpls a1 a2 a3 a4
  refine ⟨pl, rfl, ⟨_, SqL.of epl⟩, for_list (K := K) (a := pl) (xs := pls) (fun j σ G => Same G6 G ∧ ∃ v6 v7 : Option V, σ = [some (.ref a), some (.ref p), some (.int (wn : Int)), some (.int ky), some (.ref r), some (.ref D), v6, v7, none, none, none, none, none]) ⟨Same.refl _, _, _, rfl⟩ ?_ ?_ ?_⟩
  · rintro j σ G _ ⟨sG, _⟩
    exact SqL.of (sG _ _ epl)
  · rintro j v σ G hj ⟨sG, v6, v7, rfl⟩
    obtain ⟨i, rfl⟩ := hnat v (List.mem_of_getElem? hj)
    refine ⟨_, rfl, _, _, rfl, rfl, 1, (wn : Int) + 1, rfl, ⟨by decide, by decide, by rcases hw with rfl | rfl | rfl <;> decide, by rcases hw with rfl | rfl | rfl <;> decide⟩, fun D1 nD1 => ?_⟩
    have e1 : ((wn : Int) + 1 - 1).toNat = wn := by omega
    rw [e1]
    have hw4 : wn ≤ 4 := by rcases hw with rfl | rfl | rfl <;> decide
    refine lcr_map (lo := 1) (n := wn) (fun _ => .int (i : Int)) nD1 (by omega) (fun _ => rfl) (fun x G' Z h0 h1 s' hz => ?_) (fun H1 s1 eD1 => ?_)
    · obtain ⟨k, rfl⟩ : ∃ k : Nat, x = (k : Int) := ⟨x.toNat, by omega⟩
      refine ⟨_, rfl, _, rfl, _, rfl, i, k, wn, rfl, hw, _, rfl, chN wn i k, wn, rfl, hw, ?_⟩
      rw [par_child (by omega) (by omega), if_neg (by unfold chN; omega)]
      exact hz
    refine ⟨_, rfl, (wn : Int), rfl, by omega, by omega, fun D2 nD2 => ?_⟩
    rw [Int.toNat_natCast]
    refine lcr_map (lo := 0) (n := wn) (fun _ => .int (i : Int)) nD2 (by omega) (fun _ => rfl) (fun x G' Z h0 h1 s' hz => ⟨_, rfl, hz⟩) (fun H2 s2 eD2 => ?_)
    rw [rng_const] at eD1 eD2
    refine ⟨_, _, .lst (SqL.of (s2 _ _ eD1)) (dp_ints _), .lst (SqL.of eD2) (dp_ints _), shaped_ints _, shaped_ints _, _, rfl, iteBF (by rw [eqv_ints]; rfl) ?_⟩
    have hc1 : ((chN wn i 1 : Nat) : Int) = (i : Int) * (wn : Int) + 1 := by
      unfold chN
      push_cast
      rw [Int.mul_comm]
    have hc2 : ((chN wn i wn : Nat) : Int) = ((i : Int) + 1) * (wn : Int) := by
      unfold chN
      push_cast
      rw [Int.add_mul, Int.mul_comm, Int.one_mul]
    refine ⟨_, rfl, _, rfl, i, 1, wn, rfl, hw, _, rfl, _, rfl, _, _, rfl, rfl, .inr ⟨by omega, by omega⟩, _, _, rfl, rfl, rfl, _, rfl, iteBF (by dsimp only; rw [hc1]; simp) ?_⟩
    refine ⟨_, rfl, _, rfl, _, rfl, i, wn, wn, rfl, hw, _, rfl, _, _, rfl, rfl, _, rfl, _, _, rfl, rfl, .inr ⟨by omega, by omega⟩, rfl, _, rfl, iteBF (by dsimp only; rw [hc2]; simp) ?_⟩
    exact ⟨fun c o z => s2 _ _ (s1 _ _ (sG _ _ z)), _, _, rfl⟩
  rintro σ G ⟨sG, v6, v7, rfl⟩
  have b7 := b6.keep sG
  have t7 := sG _ _ t6
  have er7 := sG _ _ er6
  have hia7 := hia6.keep sG
  clear b6 t6 er6 hia6 epl hnat
  -- the first parents
  refine ⟨_, rfl, 0, wn, rfl, hw, ?_⟩
  rw [if_pos rfl]
  refine ⟨_, rfl, iteBF (by simp) ?_⟩
  refine ⟨_, rfl, 1, wn, rfl, hw, ?_⟩
  rw [if_neg (by decide)]
  have hp1 : paN wn 1 = 0 := by unfold paN; exact Nat.zero_div _
  rw [hp1]
  refine ⟨rfl, _, rfl, iteBF (by simp) ?_⟩
  -- the bad value
  refine ⟨_, rfl, _, rfl, r, _, rfl, .inl (SqL.of er7), _, _, rfl, rfl, p, m + 1 + 1, ((itV as).length : Nat) + 1, l, rfl, b7, by omega, by omega, small16 (by omega) (by rw [hal]; omega), fun r8 G8 a1 a2 b8 u8 => ?_⟩
  rw [hal] at a2
  have t8 := tbl_but u8 b7 t7
  have er8 := lst_but u8 b7.dk er7
  have hia8 := hia7.butD u8 b7.dk
  clear b7 t7 er7 hia7
  obtain ⟨at', rfl⟩ : ∃ at' : Nat, r8 = (at' : Int) := ⟨r8.toNat, by omega⟩
  refine ⟨fun σ G => Same G8 G ∧ ∃ (t : Addr), σ = [some (.ref a), some (.ref p), some (.int (wn : Int)), some (.int ky), some (.ref r), some (.ref D), v6, v7, some (.int (at' : Int)), some (.ref t), none, none, none] ∧
    ((∃ k : Int, G t = some (.tup [.int k, .int (mkA its 0)]) ∧ 0 < at') ∨ G t = some (.tup [.int 1, .bl true])), ?_, ?_⟩
  · have hp8 : ∀ b ∈ as, ∃ k m : Int, G8 b = some (.tup [.int k, .int m]) := fun b hb => by
      obtain ⟨i, hi⟩ := List.getElem?_of_mem hb
      exact ⟨_, _, (hia8.get hi).2⟩
    refine ⟨_, rfl, Nat.zero_le _, fun z nz => ?_⟩
    have sz := new_same (o := .lst []) nz
    obtain ⟨ds, d1, d2, d3, d4⟩ := dp_refs (K := K) (H := upd G8 z (.lst [])) (bs := as) fun b hb => by
      obtain ⟨k, m, e⟩ := hp8 b hb
      exact ⟨k, m, sz _ _ e⟩
    refine ⟨.list ds, .list [], .lst (SqL.of (sz _ _ er8)) d1, .lst (SqL.of upd_same) .nil, shaped_refs d2 d3, by decide +kernel, _, rfl, ?_⟩
    rw [eqv_nil_d]
    by_cases he : its.length = 0
    · have h0 : ds = [] := List.eq_nil_of_length_eq_zero (by rw [d4, hia8.1, he])
      refine iteBF (by rw [h0]; rfl) (iteF ?_)
      refine ⟨(by show 2 ≤ sizeLine; decide), fun t nt => ⟨same_new sz nt, t, rfl, .inr upd_same⟩⟩
    · have h0 : ds.isEmpty = false := by
        cases ds with
        | nil => exact absurd (by rw [← hia8.1, ← d4]; rfl) he
        | cons _ _ => rfl
      refine iteBT (by rw [h0]; rfl) ?_
      refine ⟨_, rfl, _, _, rfl, rfl, _, rfl, iteB (fun h => ?_) (fun h => ?_)⟩
      · obtain ⟨c, c1, _, c2⟩ := hia8.at (i := 0) (by omega)
        have h1 := of_decide_eq_true h
        refine ⟨_, rfl, r, _, _, _, rfl, rfl, SqL.of (sz _ _ er8), c1, sz, c, rfl, .inl ⟨_, sz _ _ c2, by omega⟩⟩
      · refine ⟨(by show 2 ≤ sizeLine; decide), fun t nt => ⟨same_new sz nt, t, rfl, .inr upd_same⟩⟩
  rintro σ G ⟨sG9, tw, rfl, htw⟩
  have b9 := b8.keep sG9
  have t9 := sG9 _ _ t8
  have er9 := sG9 _ _ er8
  have hia9 := hia8.keep sG9
  clear b8 t8 er8 hia8
  refine ⟨(by show 1 ≤ sizeLine; decide), fun q1 nq1 => ⟨(by show 2 ≤ sizeLine; decide), fun q2 nq2 => ⟨(by show 3 ≤ sizeLine; decide), fun q3 nq3 => ⟨(by show 2 ≤ sizeLine; decide), fun q4 nq4 => ⟨(by show 2 ≤ sizeLine; decide), fun q5 nq5 => ⟨(by show 2 ≤ sizeLine; decide), fun q6 nq6 => ?_⟩⟩⟩⟩⟩⟩
  obtain ⟨n6, e65⟩ := free_upd nq6
  have k1 := new_same (o := .tup [.int 1]) nq1
  have k2 := new_same (o := .lst [.int 1, .int 2]) nq2
  have k3 := new_same (o := .tup [.int 1, .int 2, .int 3]) nq3
  have k4 := new_same (o := .tup [.str "a", .int 1]) nq4
  have k5 := new_same (o := .tup [.int 1, .non]) nq5
  have k6 := new_same (o := .tup [.bl true, .int 1]) nq6
  refine ⟨_, rfl, (by show 9 ≤ sizeLine; decide), fun ol nol => ?_⟩
  have k7 := new_same (o := .lst [.int 5, .non, .ref q1, .ref q2, .ref q3, .ref q4, .ref q5, .ref q6, .ref tw]) nol
  have o1 := k7 _ _ (k6 _ _ (k5 _ _ (k4 _ _ (k3 _ _ (k2 _ _ (upd_same (H := G) (a := q1) (o := .tup [.int 1])))))))
  have o2 := k7 _ _ (k6 _ _ (k5 _ _ (k4 _ _ (k3 _ _ (upd_same (H := upd G q1 (.tup [.int 1])) (a := q2) (o := .lst [.int 1, .int 2]))))))
  have o3 := k7 _ _ (k6 _ _ (k5 _ _ (k4 _ _ (upd_same (H := upd (upd G q1 (.tup [.int 1])) q2 (.lst [.int 1, .int 2])) (a := q3) (o := .tup [.int 1, .int 2, .int 3])))))
  have o4 := k7 _ _ (k6 _ _ (k5 _ _ (upd_same (H := upd (upd (upd G q1 (.tup [.int 1])) q2 (.lst [.int 1, .int 2])) q3 (.tup [.int 1, .int 2, .int 3])) (a := q4) (o := .tup [.str "a", .int 1]))))
  have o5 := k7 _ _ (k6 _ _ (upd_same (H := upd (upd (upd (upd G q1 (.tup [.int 1])) q2 (.lst [.int 1, .int 2])) q3 (.tup [.int 1, .int 2, .int 3])) q4 (.tup [.str "a", .int 1])) (a := q5) (o := .tup [.int 1, .non])))
  have o6 := k7 _ _ (upd_same (H := upd (upd (upd (upd (upd G q1 (.tup [.int 1])) q2 (.lst [.int 1, .int 2])) q3 (.tup [.int 1, .int 2, .int 3])) q4 (.tup [.str "a", .int 1])) q5 (.tup [.int 1, .non])) (a := q6) (o := .tup [.bl true, .int 1]))
  have o7 := upd_same (H := upd (upd (upd (upd (upd (upd G q1 (.tup [.int 1])) q2 (.lst [.int 1, .int 2])) q3 (.tup [.int 1, .int 2, .int 3])) q4 (.tup [.str "a", .int 1])) q5 (.tup [.int 1, .non])) q6 (.tup [.bl true, .int 1])) (a := ol) (o := .lst [.int 5, .non, .ref q1, .ref q2, .ref q3, .ref q4, .ref q5, .ref q6, .ref tw])
  have kA : Same G (upd (upd (upd (upd (upd (upd (upd G q1 (.tup [.int 1])) q2 (.lst [.int 1, .int 2])) q3 (.tup [.int 1, .int 2, .int 3])) q4 (.tup [.str "a", .int 1])) q5 (.tup [.int 1, .non])) q6 (.tup [.bl true, .int 1])) ol (.lst [.int 5, .non, .ref q1, .ref q2, .ref q3, .ref q4, .ref q5, .ref q6, .ref tw])) := fun c o z => k7 _ _ (k6 _ _ (k5 _ _ (k4 _ _ (k3 _ _ (k2 _ _ (k1 _ _ z))))))
  generalize upd (upd (upd (upd (upd (upd (upd G q1 (.tup [.int 1])) q2 (.lst [.int 1, .int 2])) q3 (.tup [.int 1, .int 2, .int 3])) q4 (.tup [.str "a", .int 1])) q5 (.tup [.int 1, .non])) q6 (.tup [.bl true, .int 1])) ol (.lst [.int 5, .non, .ref q1, .ref q2, .ref q3, .ref q4, .ref q5, .ref q6, .ref tw]) = Gx at o1 o2 o3 o4 o5 o6 o7 kA ⊢
  clear k1 k2 k3 k4 k5 k6 k7 nq1 nq2 nq3 nq4 nq5 nq6 n6 e65 nol
  refine ⟨_, rfl, p, m + 1 + 1 + 1, 9, l, rfl, b9.keep kA, by omega, by decide, small16 (by decide) (by decide), fun r9 G10 a3 a4 b10 u10 => ?_⟩
  have kB : ∀ {c : Addr} {o : HO}, Gx c = some o → (∀ kvs, o ≠ .dK kvs) → G10 c = some o := fun {c o} h n => by
    obtain ⟨kvs, hk⟩ := (b9.keep kA).dk
    exact u10 _ _ (ne_of h hk (fun e => n kvs e)) h
  have t10 : G10 Pt = some (.tbl #[]) := kB (kA _ _ t9) (by intro _ z; cases z)
  have er10 : G10 r = some (.lst (itV as)) := kB (kA _ _ er9) (by intro _ z; cases z)
  have hia10 : ItA G10 as its := (hia9.keep kA).butD u10 (b9.keep kA).dk
  have eol : G10 ol = some (.lst [.int 5, .non, .ref q1, .ref q2, .ref q3, .ref q4, .ref q5, .ref q6, .ref tw]) := kB o7 (by intro _ z; cases z)
  have hat : at' ≤ its.length := by omega
  have hbad : ∃ v, atI [V.int 5, .non, .ref q1, .ref q2, .ref q3, .ref q4, .ref q5, .ref q6, .ref tw] r9 = some v ∧ BadV K G10 (its.take at') v := by
    have h9 : r9 = 0 ∨ r9 = 1 ∨ r9 = 2 ∨ r9 = 3 ∨ r9 = 4 ∨ r9 = 5 ∨ r9 = 6 ∨ r9 = 7 ∨ r9 = 8 := by omega
    rcases h9 with rfl | rfl | rfl | rfl | rfl | rfl | rfl | rfl | rfl
    · exact ⟨_, rfl, .inl (noI_int 5)⟩
    · exact ⟨_, rfl, .inl noI_non⟩
    · exact ⟨_, rfl, .inl (noI_len (kB o1 (by intro _ z; cases z)) (by decide))⟩
    · exact ⟨_, rfl, .inl (noI_lst (kB o2 (by intro _ z; cases z)))⟩
    · exact ⟨_, rfl, .inl (noI_len (kB o3 (by intro _ z; cases z)) (by decide))⟩
    · exact ⟨_, rfl, .inl (noI_two (kB o4 (by intro _ z; cases z)) (intV_str _) (intV_int _) rfl)⟩
    · exact ⟨_, rfl, .inl (noI_two (kB o5 (by intro _ z; cases z)) (intV_int _) intV_non rfl)⟩
    · exact ⟨_, rfl, .inl (noI_two (kB o6 (by intro _ z; cases z)) (intV_bl _) (intV_int _) rfl)⟩
    · rcases htw with ⟨k, h1, h2⟩ | h1
      · refine ⟨_, rfl, .inr ⟨tw, k, 0, rfl, ?_, by rw [List.length_take]; omega⟩⟩
        rw [mk_take h2]
        exact kB (kA _ _ h1) (by intro _ z; cases z)
      · exact ⟨_, rfl, .inl (noI_two (kB (kA _ _ h1) (by intro _ z; cases z)) (intV_int _) (intV_bl _) rfl)⟩
  obtain ⟨v, ev, hv⟩ := hbad
  refine ⟨ol, _, _, _, rfl, rfl, SqL.of eol, ev, ?_⟩
  clear o1 o2 o3 o4 o5 o6 o7 kA kB b9 t9 er9 hia9 htw ev eol a3 a4 u10
  -- the list with the bad value
  have hal10 : (itV as).length = its.length := itV_len hia10
  refine ⟨_, rfl, _, rfl, _, rfl, r, _, rfl, SqL.of er10, fun c1 nc1 => ?_⟩
  rw [cut_take]
  have k1 := new_same (o := .lst ((itV as).take at')) nc1
  refine ⟨_, rfl, (by show 1 ≤ sizeLine; decide), fun c2 nc2 => ?_⟩
  have k2 := new_same (o := .lst [v]) nc2
  refine ⟨c1, c2, _, _, rfl, rfl, k2 _ _ upd_same, upd_same, ?_, fun c3 nc3 => ?_⟩
  · rw [List.length_take]
    exact Nat.le_of_lt (big (by show _ + 1 ≤ _; omega))
  have k3 := new_same (o := .lst ((itV as).take at' ++ [v])) nc3
  refine ⟨_, rfl, _, rfl, _, rfl, r, _, rfl, SqL.of (k3 _ _ (k2 _ _ (k1 _ _ er10))), fun c4 nc4 => ?_⟩
  rw [cut_drop]
  have k4 := new_same (o := .lst ((itV as).drop at')) nc4
  refine ⟨c3, c4, _, _, rfl, rfl, k4 _ _ upd_same, upd_same, ?_, fun bl nbl => ?_⟩
  · rw [List.length_append, List.length_take, List.length_drop]
    exact Nat.le_of_lt (big (by show _ + 1 + _ ≤ _; omega))
  have k5 := new_same (o := .lst ((itV as).take at' ++ [v] ++ (itV as).drop at')) nbl
  have ebl : (upd (upd (upd (upd (upd G10 c1 (.lst ((itV as).take at'))) c2 (.lst [v])) c3 (.lst ((itV as).take at' ++ [v]))) c4 (.lst ((itV as).drop at'))) bl (.lst ((itV as).take at' ++ [v] ++ (itV as).drop at'))) bl = some (.lst (itV (as.take at') ++ v :: (itV as).drop at')) := by
    rw [upd_same]
    unfold itV
    rw [List.map_take, List.append_assoc]
    rfl
  have kA : Same G10 (upd (upd (upd (upd (upd G10 c1 (.lst ((itV as).take at'))) c2 (.lst [v])) c3 (.lst ((itV as).take at' ++ [v]))) c4 (.lst ((itV as).drop at'))) bl (.lst ((itV as).take at' ++ [v] ++ (itV as).drop at'))) := fun c o z => k5 _ _ (k4 _ _ (k3 _ _ (k2 _ _ (k1 _ _ z))))
  generalize upd (upd (upd (upd (upd G10 c1 (.lst ((itV as).take at'))) c2 (.lst [v])) c3 (.lst ((itV as).take at' ++ [v]))) c4 (.lst ((itV as).drop at'))) bl (.lst ((itV as).take at' ++ [v] ++ (itV as).drop at')) = G11 at ebl kA ⊢
  clear k1 k2 k3 k4 k5 nc1 nc2 nc3 nc4 nbl
  -- the code
  refine ⟨_, rfl, fun cd' dx ncd ndx nex => ?_⟩
  have sM := made_row (C := C) (o := .ins C dx []) (Same.refl G11) ncd ndx nex
  refine ⟨cd', dx, wn, rfl, upd_same, hw, fun G12 b12 hcod => ⟨rfl, ?_⟩⟩
  have s12 : Same G11 G12 := fun c o z => b12 _ _ (ne_of_none z ncd) (sM _ _ z)
  have sB : Same G10 G12 := fun c o z => s12 _ _ (kA _ _ z)
  have t12 := sB _ _ t10
  have er12 := sB _ _ er10
  have hia12 := hia10.keep sB
  have ebl12 := s12 _ _ ebl
  have hv12 := hv.keep sB
  clear t10 er10 hia10 ebl hv sB s12 kA b12 sM
  have hlt : (its.take at').length = at' := by rw [List.length_take]; omega
  have tabs : Tabs [(Pt, lamQ)] G12 := fun p hp => by
    rw [List.mem_singleton.mp hp]
    exact TabS.nil t12
  -- play
  refine ⟨tabs, fun G13 e13 tabs13 => ?_⟩
  have er13 := e13 _ _ er12 (by intro ps q; cases q)
  have ebl13 := e13 _ _ ebl12 (by intro ps q; cases q)
  have hia13 := hia12.ext e13
  have hv13 := hv12.ext e13
  have hcod13 := hcod.ext e13
  refine ⟨_, rfl, _, rfl, .ref cd', .int 0, .non, bl, as.take at', its.take at', v, (itV as).drop at', rfl, SqL.of ebl13, hia13.take _, hmk.take _, by omega, hv13, fun G14 s14 d nd => ⟨rfl, d, _, rfl, upd_same, ?_⟩⟩
  have s15 := same_new (o := .xd [("index", .int ((its.take at').length : Nat))]) s14 nd
  have t15 : Tabs [(Pt, lamQ)] (upd G14 d (.xd [("index", .int ((its.take at').length : Nat))])) := tabs13.ext s15
  have er15 := s15 _ _ er13
  have ebl15 := s15 _ _ ebl13
  have hia15 := hia13.keep s15
  have hv15 := hv13.keep s15
  have hcod15 := hcod13.keep s15
  generalize upd G14 d (.xd [("index", .int ((its.take at').length : Nat))]) = G15 at t15 er15 ebl15 hia15 hv15 hcod15 ⊢
  clear s14 s15 nd er13 ebl13 hia13 hv13 hcod13 tabs13 e13 tabs t12 er12 ebl12 hia12 hv12 hcod
  refine ⟨_, rfl, rfl, _, rfl, iteBF (by rw [hlt]; simp) ?_⟩
  -- build
  refine ⟨t15, fun G16 e16 tabs16 => ?_⟩
  have er16 := e16 _ _ er15 (by intro ps q; cases q)
  have ebl16 := e16 _ _ ebl15 (by intro ps q; cases q)
  have hia16 := hia15.ext e16
  have hv16 := hv15.ext e16
  have hcod16 := hcod15.ext e16
  refine ⟨_, rfl, _, rfl, cd', wn, bl, as.take at', its.take at', v, (itV as).drop at', rfl, hcod16, SqL.of ebl16, hia16.take _, hmk.take _, by omega, hv16, fun G17 s17 d2 nd2 => ⟨rfl, d2, _, rfl, upd_same, ?_⟩⟩
  have s18 := same_new (o := .xd [("index", .int ((its.take at').length : Nat))]) s17 nd2
  have er18 := s18 _ _ er16
  have hia18 := hia16.keep s18
  have hcod18 := hcod16.keep s18
  refine ⟨_, rfl, rfl, _, rfl, iteBF (by rw [hlt]; simp) ?_⟩
  -- the list built
  refine ⟨_, rfl, _, rfl, cd', wn, r, as, its, rfl, hcod18, hw, SqL.of er18, hia18, hmk, by omega, fun G19 tr s19 etr => ?_⟩
  refine ⟨_, rfl, r, _, rfl, .inl ⟨SqL.of (s19 _ _ er18), fun tr2 ntr2 => ?_⟩⟩
  have s20 := same_new (o := .tup (itV as)) s19 ntr2
  have hia20 := hia18.keep s20
  obtain ⟨d1, d2', d3⟩ := dp_items (K := K) hia20
  refine ⟨.tuple (its.map dIt), .tuple (its.map dIt), .tup (SqT.of ((new_same ntr2) _ _ etr)) d1, .tup (SqT.of upd_same) d1, shaped_tup d2' d3, shaped_tup d2' d3, ?_⟩
  rw [eqv_items]
  exact q _
end
end H2
namespace H2
open PySem PySem.Spec PyProof.Rows L2 Hx Nd Dun
section
variable {P : Program} {w : World} {K : PySem.W.Frag} {mg : Str → Option Value} {base : Heap} {D : Addr}
def wayB (K : PySem.W.Frag) (a : Addr) : Bool := match K.lookup a with
  | some ⟨.type c, _, .seq its _, _⟩ => (match its.toList with
    | [.ref b, .int i _, .int j _, .ref d] => decide (c = "tuple") && (decide (its.size ≤ 1000) && (decide (i = 0) && (decide (j = 0) && (Hf.tupB K b [] && Hf.tupB K d []))))
    | _ => false)
  | _ => false
theorem way_of {K : PySem.W.Frag} {a : Addr} (b : wayB K a = true) : ∀ H, Wy K H (.ref a) := fun H => by
  unfold wayB at b
  split at b
  · rename_i c od its n sl e
    split at b
    · rename_i b1 i ti j tj d e2
      simp only [Bool.and_eq_true, decide_eq_true_eq] at b
      obtain ⟨rfl, h1, rfl, rfl, h2, h3⟩ := b
      refine wy_mk (b := b1) (c := d) (.inr ⟨_, its, n, e, rfl, rfl, Nat.le_trans h1 (by decide), ?_⟩) (Hf.tup_of h2 H) (Hf.tup_of h3 H)
      rw [e2]
      exact .cons rfl (.cons ⟨_, rfl⟩ (.cons ⟨_, rfl⟩ (.cons rfl .nil)))
    · cases b
  · cases b
/-! ### what the top has left -/
def dd0 : He.DefD := ⟨("BadItem", some "__init__"), "__init__", "BadItem.__init__", defArgs iBadItem, defBody iBadItem, defScope iBadItem, [], []⟩
def dd1 : He.DefD := ⟨("is_kind", none), "is_kind", "is_kind", defArgs s_is_kind, defBody s_is_kind, defScope s_is_kind, [], []⟩
def dd2 : He.DefD := ⟨("is_width", none), "is_width", "is_width", defArgs s_is_width, defBody s_is_width, defScope s_is_width, [], []⟩
def dd3 : He.DefD := ⟨("parent", none), "parent", "parent", defArgs s_parent, defBody s_parent, defScope s_parent, [], []⟩
def dd4 : He.DefD := ⟨("child", none), "child", "child", defArgs s_child, defBody s_child, defScope s_child, [], []⟩
def dd5 : He.DefD := ⟨("first_fault", none), "first_fault", "first_fault", defArgs s_first_fault, defBody s_first_fault, defScope s_first_fault, [], []⟩
def dd6 : He.DefD := ⟨("is_heap", none), "is_heap", "is_heap", defArgs s_is_heap, defBody s_is_heap, defScope s_is_heap, [], []⟩
def dd7 : He.DefD := ⟨("is_integer", none), "is_integer", "is_integer", defArgs s_is_integer, defBody s_is_integer, defScope s_is_integer, [], []⟩
def dd8 : He.DefD := ⟨("is_item", none), "is_item", "is_item", defArgs s_is_item, defBody s_is_item, defScope s_is_item, [], []⟩
def dd9 : He.DefD := ⟨("first_bad_item", none), "first_bad_item", "first_bad_item", defArgs s_first_bad_item, defBody s_first_bad_item, defScope s_first_bad_item, [], []⟩
def dd10 : He.DefD := ⟨("check_items", none), "check_items", "check_items", defArgs s_check_items, defBody s_check_items, defScope s_check_items, [], []⟩
def dd11 : He.DefD := ⟨("check_case", none), "check_case", "check_case", defArgs s_check_case, defBody s_check_case, defScope s_check_case, [], []⟩
def dd12 : He.DefD := ⟨("read_rows", none), "read_rows", "read_rows", defArgs s_read_rows, defBody s_read_rows, defScope s_read_rows, [], []⟩
def dd13 : He.DefD := ⟨("match_blocks", none), "match_blocks", "match_blocks", defArgs s_match_blocks, defBody s_match_blocks, defScope s_match_blocks, [], []⟩
def dd14 : He.DefD := ⟨("least_break", none), "least_break", "least_break", defArgs s_least_break, defBody s_least_break, defScope s_least_break, [], []⟩
def dd15 : He.DefD := ⟨("build", none), "build", "build", defArgs s_build, defBody s_build, defScope s_build, [], []⟩
def dd16 : He.DefD := ⟨("_law_bag", none), "_law_bag", "_law_bag", defArgs sBag, defBody sBag, defScope sBag, [], []⟩
def dd17 : He.DefD := ⟨("_law_draw", none), "_law_draw", "_law_draw", defArgs sDraw, defBody sDraw, defScope sDraw, [], []⟩
def dd18 : He.DefD := ⟨("_law_items", none), "_law_items", "_law_items", defArgs s_Litems, defBody s_Litems, defScope s_Litems, [], []⟩
def dd19 : He.DefD := ⟨("_law_refused", none), "_law_refused", "_law_refused", defArgs s_Lrefused, defBody s_Lrefused, defScope s_Lrefused, [], []⟩
def dd20 : He.DefD := ⟨("law", none), "law", "law", defArgs s_law, defBody s_law, defScope s_law, [], []⟩
def dd21 : He.DefD := ⟨("play", none), "play", "play", defArgs s_play, defBody s_play, defScope s_play, [.non, .non], []⟩
def dd22 : He.DefD := ⟨("Walk", some "__init__"), "__init__", "Walk.__init__", defArgs s_Walk_init, defBody s_Walk_init, defScope s_Walk_init, [], []⟩
def dd23 : He.DefD := ⟨("Walk", some "step"), "step", "Walk.step", defArgs s_Walk_step, defBody s_Walk_step, defScope s_Walk_step, [], []⟩
def dd24 : He.DefD := ⟨("Walk", some "fork"), "fork", "Walk.fork", defArgs s_Walk_fork, defBody s_Walk_fork, defScope s_Walk_fork, [], []⟩
def dd25 : He.DefD := ⟨("Walk", some "pass_line"), "pass_line", "Walk.pass_line", defArgs s_Walk_pass_line, defBody s_Walk_pass_line, defScope s_Walk_pass_line, [], []⟩
def dd26 : He.DefD := ⟨("Walk", some "end_ways"), "end_ways", "Walk.end_ways", defArgs s_Walk_end_ways, defBody s_Walk_end_ways, defScope s_Walk_end_ways, [], []⟩
def dd27 : He.DefD := ⟨("Flow", some "__init__"), "__init__", "Flow.__init__", defArgs s_Flow_init, defBody s_Flow_init, defScope s_Flow_init, [], []⟩
def dd28 : He.DefD := ⟨("Flow", some "landing"), "landing", "Flow.landing", defArgs s_Flow_landing, defBody s_Flow_landing, defScope s_Flow_landing, [], []⟩
def dd29 : He.DefD := ⟨("Flow", some "way_past"), "way_past", "Flow.way_past", defArgs s_Flow_way_past, defBody s_Flow_way_past, defScope s_Flow_way_past, [], []⟩
def dd30 : He.DefD := ⟨("Flow", some "find_loops"), "find_loops", "Flow.find_loops", defArgs s_Flow_find_loops, defBody s_Flow_find_loops, defScope s_Flow_find_loops, [], []⟩
def dd31 : He.DefD := ⟨("Player", some "__init__"), "__init__", "Player.__init__", defArgs s_Player_init, defBody s_Player_init, defScope s_Player_init, [], []⟩
def dd32 : He.DefD := ⟨("Player", some "item"), "item", "Player.item", defArgs s_Player_item, defBody s_Player_item, defScope s_Player_item, [], []⟩
def dd33 : He.DefD := ⟨("Player", some "run"), "run", "Player.run", defArgs s_Player_run, defBody s_Player_run, defScope s_Player_run, [], []⟩
def dd34 : He.DefD := ⟨("Player", some "step"), "step", "Player.step", defArgs s_Player_step, defBody s_Player_step, defScope s_Player_step, [], []⟩
def dd35 : He.DefD := ⟨("Code", some "__init__"), "__init__", "Code.__init__", defArgs s_Code_init, defBody s_Code_init, defScope s_Code_init, [], []⟩
def fa : List He.Fa :=
  .glo "HeapError" ::
  .glo "BadItem" ::
  .glo "is_kind" ::
  .glo "is_width" ::
  .glo "parent" ::
  .glo "child" ::
  .glo "first_fault" ::
  .glo "is_heap" ::
  .glo "is_integer" ::
  .glo "is_item" ::
  .glo "first_bad_item" ::
  .glo "check_items" ::
  .glo "check_case" ::
  .glo "read_rows" ::
  .glo "match_blocks" ::
  .glo "least_break" ::
  .glo "build" ::
  .glo "_law_bag" ::
  .glo "_law_draw" ::
  .glo "_law_items" ::
  .glo "_law_refused" ::
  .glo "law" ::
  .glo "play" ::
  .glo "Walk" ::
  .glo "Flow" ::
  .glo "Player" ::
  .glo "Code" ::
  .free "int" ::
  .free "list" ::
  .free "len" ::
  .free "isinstance" ::
  .free "range" ::
  .free "str" ::
  .free "tuple" ::
  .free "enumerate" ::
  .free "min" ::
  .free "bool" ::
  .free "sorted" ::
  .glo "KINDS" ::
  .glo "WIDTHS" ::
  .glo "FRESH" ::
  .int "MOST_LINES" 60 ::
  ([] : List He.Fa)
def fn0 : List He.DefD :=
  dd0 ::
  dd1 ::
  dd2 ::
  dd3 ::
  dd4 ::
  dd5 ::
  dd6 ::
  dd7 ::
  dd8 ::
  dd9 ::
  dd10 ::
  dd11 ::
  dd12 ::
  dd13 ::
  dd14 ::
  dd15 ::
  dd16 ::
  dd17 ::
  dd18 ::
  dd19 ::
  dd20 ::
  dd21 ::
  dd22 ::
  dd23 ::
  dd24 ::
  dd25 ::
  dd26 ::
  dd27 ::
  dd28 ::
  dd29 ::
  dd30 ::
  dd31 ::
  dd32 ::
  dd33 ::
  dd34 ::
  dd35 ::
  ([] : List He.DefD)
def ts : List He.Tab :=
  ([] : List He.Tab)
def ex0 : Hf.Tst := fun K => Hf.baseB K (He.ga K "HeapError")
def ex1 : Hf.Tst := fun K => (Hf.excB K (He.ga K "BadItem") (He.ga K "HeapError") && clsB K (He.ga K "BadItem") (He.ma K (He.ga K "BadItem") "__init__") ["index"])
def ex2 : Hf.Tst := fun K => Hf.clB K (He.ga K "Walk") (He.ma K (He.ga K "Walk") "__init__") ["kind", "broken", "ways", "forks", "turning"]
def ex3 : Hf.Tst := fun K => Hf.methB K (He.ga K "Walk") "__init__" (He.ma K (He.ga K "Walk") "__init__")
def ex4 : Hf.Tst := fun K => Hf.methB K (He.ga K "Walk") "step" (He.ma K (He.ga K "Walk") "step")
def ex5 : Hf.Tst := fun K => Hf.methB K (He.ga K "Walk") "fork" (He.ma K (He.ga K "Walk") "fork")
def ex6 : Hf.Tst := fun K => Hf.methB K (He.ga K "Walk") "pass_line" (He.ma K (He.ga K "Walk") "pass_line")
def ex7 : Hf.Tst := fun K => Hf.methB K (He.ga K "Walk") "end_ways" (He.ma K (He.ga K "Walk") "end_ways")
def ex8 : Hf.Tst := fun K => Hf.clB K (He.ga K "Flow") (He.ma K (He.ga K "Flow") "__init__") ["rows", "size", "heads", "ends", "after", "other", "loop_of"]
def ex9 : Hf.Tst := fun K => Hf.methB K (He.ga K "Flow") "__init__" (He.ma K (He.ga K "Flow") "__init__")
def ex10 : Hf.Tst := fun K => Hf.methB K (He.ga K "Flow") "landing" (He.ma K (He.ga K "Flow") "landing")
def ex11 : Hf.Tst := fun K => Hf.methB K (He.ga K "Flow") "way_past" (He.ma K (He.ga K "Flow") "way_past")
def ex12 : Hf.Tst := fun K => Hf.methB K (He.ga K "Flow") "find_loops" (He.ma K (He.ga K "Flow") "find_loops")
def ex13 : Hf.Tst := fun K => Hf.clB K (He.ga K "Player") (He.ma K (He.ga K "Player") "__init__") ["flow", "width", "row", "start", "given", "noted", "place", "hand", "mate", "told", "compares", "ended", "at", "loop", "met", "used", "sides_seen", "stations_met"]
def ex14 : Hf.Tst := fun K => Hf.methB K (He.ga K "Player") "__init__" (He.ma K (He.ga K "Player") "__init__")
def ex15 : Hf.Tst := fun K => Hf.methB K (He.ga K "Player") "item" (He.ma K (He.ga K "Player") "item")
def ex16 : Hf.Tst := fun K => Hf.methB K (He.ga K "Player") "run" (He.ma K (He.ga K "Player") "run")
def ex17 : Hf.Tst := fun K => Hf.methB K (He.ga K "Player") "step" (He.ma K (He.ga K "Player") "step")
def ex18 : Hf.Tst := fun K => Hf.clB K (He.ga K "Code") (He.ma K (He.ga K "Code") "__init__") ["kind", "width", "text", "flow", "memory", "_lines"]
def ex19 : Hf.Tst := fun K => Hf.methB K (He.ga K "Code") "__init__" (He.ma K (He.ga K "Code") "__init__")
def ex20 : Hf.Tst := fun K => decide (PySem.W.exmOne K (.ref (He.ga K "BadItem")) (.ref (He.ga K "BadItem")) = some true)
def ex21 : Hf.Tst := fun K => Hf.tupB K (He.ga K "KINDS") kindsV
def ex22 : Hf.Tst := fun K => Hf.tupB K (He.ga K "WIDTHS") widthsV
def ex23 : Hf.Tst := fun K => wayB K (He.ga K "FRESH")
def ex : List Hf.Tst :=
  ex0 ::
  ex1 ::
  ex2 ::
  ex3 ::
  ex4 ::
  ex5 ::
  ex6 ::
  ex7 ::
  ex8 ::
  ex9 ::
  ex10 ::
  ex11 ::
  ex12 ::
  ex13 ::
  ex14 ::
  ex15 ::
  ex16 ::
  ex17 ::
  ex18 ::
  ex19 ::
  ex20 ::
  ex21 ::
  ex22 ::
  ex23 ::
  ([] : List Hf.Tst)
structure SaysH (w : World) (K : PySem.W.Frag) : Prop where
  a : Hf.Says fa [] ts ex w K
  b0 : Hf.Says [] fn0 [] [] w K
def pa : Hf.Part := { fa := fa, ts := ts, ex := ex }
def pb0 : Hf.Part := { fn := fn0 }
def parts : List Hf.Part := pa :: pb0 :: []
theorem says_of {w : World} {K : PySem.W.Frag} (c : ∀ p ∈ parts, p.Says w K) : SaysH w K := ⟨c pa (by simp [parts]), c pb0 (by simp [parts])⟩
section
variable {h : Heap}
theorem g_HeapError (c : SaysH w K) (X : K.In h) (G : h.Ns mainGlobals mg) : mg "HeapError" = some (.ref (He.ga K "HeapError")) := c.a.glo X G 0
theorem baseT (c : SaysH w K) (X : K.In h) (G : h.Ns mainGlobals mg) : BaseT K mg (He.ga K "HeapError") := by
  have z := c.a.x 0 (f := fun K => Hf.baseB K (He.ga K "HeapError"))
  exact Hf.base_of (g_HeapError c X G) z
theorem e_BadItem (c : SaysH w K) (X : K.In h) (G : h.Ns mainGlobals mg) : ClT K mg "BadItem" "BadItem.__init__" iBadItem ["self", "index"] ["index"] (He.ga K "BadItem") (He.ma K (He.ga K "BadItem") "__init__") := by
  have z := c.a.x 1 (f := fun K => (Hf.excB K (He.ga K "BadItem") (He.ga K "HeapError") && clsB K (He.ga K "BadItem") (He.ma K (He.ga K "BadItem") "__init__") ["index"]))
  obtain ⟨z1, z2⟩ := Bool.and_eq_true_iff.mp z
  obtain ⟨fd, F⟩ := c.b0.fun 0 (st := iBadItem)
  exact Hf.clT_of X G (He.eqO_ok (c.a.t.d.fact 1 (f := .glo "BadItem"))) z1 F (fun _ _ _ _ _ _ us hl => match us, hl with | [_, _], _ => rfl) z2
theorem f_is_kind (c : SaysH w K) (X : K.In h) (G : h.Ns mainGlobals mg) : FT K mg "is_kind" s_is_kind ["value"] (He.ga K "is_kind") := by
  obtain ⟨fd, F⟩ := c.b0.fun 1 (st := s_is_kind)
  exact ⟨c.a.glo X G 2, fd, F, F.binds (ps := ["value"]) fun _ _ _ _ _ _ us hl => match us, hl with | [_], _ => rfl⟩
theorem f_is_width (c : SaysH w K) (X : K.In h) (G : h.Ns mainGlobals mg) : FT K mg "is_width" s_is_width ["value"] (He.ga K "is_width") := by
  obtain ⟨fd, F⟩ := c.b0.fun 2 (st := s_is_width)
  exact ⟨c.a.glo X G 3, fd, F, F.binds (ps := ["value"]) fun _ _ _ _ _ _ us hl => match us, hl with | [_], _ => rfl⟩
theorem f_parent (c : SaysH w K) (X : K.In h) (G : h.Ns mainGlobals mg) : FT K mg "parent" s_parent ["place", "width"] (He.ga K "parent") := by
  obtain ⟨fd, F⟩ := c.b0.fun 3 (st := s_parent)
  exact ⟨c.a.glo X G 4, fd, F, F.binds (ps := ["place", "width"]) fun _ _ _ _ _ _ us hl => match us, hl with | [_, _], _ => rfl⟩
theorem f_child (c : SaysH w K) (X : K.In h) (G : h.Ns mainGlobals mg) : FT K mg "child" s_child ["place", "number", "width"] (He.ga K "child") := by
  obtain ⟨fd, F⟩ := c.b0.fun 4 (st := s_child)
  exact ⟨c.a.glo X G 5, fd, F, F.binds (ps := ["place", "number", "width"]) fun _ _ _ _ _ _ us hl => match us, hl with | [_, _, _], _ => rfl⟩
theorem f_first_fault (c : SaysH w K) (X : K.In h) (G : h.Ns mainGlobals mg) : FT K mg "first_fault" s_first_fault ["items", "width"] (He.ga K "first_fault") := by
  obtain ⟨fd, F⟩ := c.b0.fun 5 (st := s_first_fault)
  exact ⟨c.a.glo X G 6, fd, F, F.binds (ps := ["items", "width"]) fun _ _ _ _ _ _ us hl => match us, hl with | [_, _], _ => rfl⟩
theorem f_is_heap (c : SaysH w K) (X : K.In h) (G : h.Ns mainGlobals mg) : FT K mg "is_heap" s_is_heap ["items", "width"] (He.ga K "is_heap") := by
  obtain ⟨fd, F⟩ := c.b0.fun 6 (st := s_is_heap)
  exact ⟨c.a.glo X G 7, fd, F, F.binds (ps := ["items", "width"]) fun _ _ _ _ _ _ us hl => match us, hl with | [_, _], _ => rfl⟩
theorem f_is_integer (c : SaysH w K) (X : K.In h) (G : h.Ns mainGlobals mg) : FT K mg "is_integer" s_is_integer ["value"] (He.ga K "is_integer") := by
  obtain ⟨fd, F⟩ := c.b0.fun 7 (st := s_is_integer)
  exact ⟨c.a.glo X G 8, fd, F, F.binds (ps := ["value"]) fun _ _ _ _ _ _ us hl => match us, hl with | [_], _ => rfl⟩
theorem f_is_item (c : SaysH w K) (X : K.In h) (G : h.Ns mainGlobals mg) : FT K mg "is_item" s_is_item ["value"] (He.ga K "is_item") := by
  obtain ⟨fd, F⟩ := c.b0.fun 8 (st := s_is_item)
  exact ⟨c.a.glo X G 9, fd, F, F.binds (ps := ["value"]) fun _ _ _ _ _ _ us hl => match us, hl with | [_], _ => rfl⟩
theorem f_first_bad_item (c : SaysH w K) (X : K.In h) (G : h.Ns mainGlobals mg) : FT K mg "first_bad_item" s_first_bad_item ["values"] (He.ga K "first_bad_item") := by
  obtain ⟨fd, F⟩ := c.b0.fun 9 (st := s_first_bad_item)
  exact ⟨c.a.glo X G 10, fd, F, F.binds (ps := ["values"]) fun _ _ _ _ _ _ us hl => match us, hl with | [_], _ => rfl⟩
theorem f_check_items (c : SaysH w K) (X : K.In h) (G : h.Ns mainGlobals mg) : FT K mg "check_items" s_check_items ["items"] (He.ga K "check_items") := by
  obtain ⟨fd, F⟩ := c.b0.fun 10 (st := s_check_items)
  exact ⟨c.a.glo X G 11, fd, F, F.binds (ps := ["items"]) fun _ _ _ _ _ _ us hl => match us, hl with | [_], _ => rfl⟩
theorem f_check_case (c : SaysH w K) (X : K.In h) (G : h.Ns mainGlobals mg) : FT K mg "check_case" s_check_case ["code", "items", "start", "given"] (He.ga K "check_case") := by
  obtain ⟨fd, F⟩ := c.b0.fun 11 (st := s_check_case)
  exact ⟨c.a.glo X G 12, fd, F, F.binds (ps := ["code", "items", "start", "given"]) fun _ _ _ _ _ _ us hl => match us, hl with | [_, _, _, _], _ => rfl⟩
theorem f_read_rows (c : SaysH w K) (X : K.In h) (G : h.Ns mainGlobals mg) : FT K mg "read_rows" s_read_rows ["lines", "width"] (He.ga K "read_rows") := by
  obtain ⟨fd, F⟩ := c.b0.fun 12 (st := s_read_rows)
  exact ⟨c.a.glo X G 13, fd, F, F.binds (ps := ["lines", "width"]) fun _ _ _ _ _ _ us hl => match us, hl with | [_, _], _ => rfl⟩
theorem f_match_blocks (c : SaysH w K) (X : K.In h) (G : h.Ns mainGlobals mg) : FT K mg "match_blocks" s_match_blocks ["rows"] (He.ga K "match_blocks") := by
  obtain ⟨fd, F⟩ := c.b0.fun 13 (st := s_match_blocks)
  exact ⟨c.a.glo X G 14, fd, F, F.binds (ps := ["rows"]) fun _ _ _ _ _ _ us hl => match us, hl with | [_], _ => rfl⟩
theorem f_least_break (c : SaysH w K) (X : K.In h) (G : h.Ns mainGlobals mg) : FT K mg "least_break" s_least_break ["kind", "rows"] (He.ga K "least_break") := by
  obtain ⟨fd, F⟩ := c.b0.fun 14 (st := s_least_break)
  exact ⟨c.a.glo X G 15, fd, F, F.binds (ps := ["kind", "rows"]) fun _ _ _ _ _ _ us hl => match us, hl with | [_, _], _ => rfl⟩
theorem f_build (c : SaysH w K) (X : K.In h) (G : h.Ns mainGlobals mg) : FT K mg "build" s_build ["code", "items"] (He.ga K "build") := by
  obtain ⟨fd, F⟩ := c.b0.fun 15 (st := s_build)
  exact ⟨c.a.glo X G 16, fd, F, F.binds (ps := ["code", "items"]) fun _ _ _ _ _ _ us hl => match us, hl with | [_, _], _ => rfl⟩
theorem f_Lbag (c : SaysH w K) (X : K.In h) (G : h.Ns mainGlobals mg) : FT K mg "_law_bag" sBag ["_law_script"] (He.ga K "_law_bag") := by
  obtain ⟨fd, F⟩ := c.b0.fun 16 (st := sBag)
  exact ⟨c.a.glo X G 17, fd, F, F.binds (ps := ["_law_script"]) fun _ _ _ _ _ _ us hl => match us, hl with | [_], _ => rfl⟩
theorem f_Ldraw (c : SaysH w K) (X : K.In h) (G : h.Ns mainGlobals mg) : FT K mg "_law_draw" sDraw ["_law_bag_here", "_law_limit"] (He.ga K "_law_draw") := by
  obtain ⟨fd, F⟩ := c.b0.fun 17 (st := sDraw)
  exact ⟨c.a.glo X G 18, fd, F, F.binds (ps := ["_law_bag_here", "_law_limit"]) fun _ _ _ _ _ _ us hl => match us, hl with | [_, _], _ => rfl⟩
theorem f_Litems (c : SaysH w K) (X : K.In h) (G : h.Ns mainGlobals mg) : FT K mg "_law_items" s_Litems ["_law_bag_here", "_law_many", "_law_keys", "_law_marks"] (He.ga K "_law_items") := by
  obtain ⟨fd, F⟩ := c.b0.fun 18 (st := s_Litems)
  exact ⟨c.a.glo X G 19, fd, F, F.binds (ps := ["_law_bag_here", "_law_many", "_law_keys", "_law_marks"]) fun _ _ _ _ _ _ us hl => match us, hl with | [_, _, _, _], _ => rfl⟩
theorem f_Lrefused (c : SaysH w K) (X : K.In h) (G : h.Ns mainGlobals mg) : FT K mg "_law_refused" s_Lrefused ["_law_action"] (He.ga K "_law_refused") := by
  obtain ⟨fd, F⟩ := c.b0.fun 19 (st := s_Lrefused)
  exact ⟨c.a.glo X G 20, fd, F, F.binds (ps := ["_law_action"]) fun _ _ _ _ _ _ us hl => match us, hl with | [_], _ => rfl⟩
theorem f_law (c : SaysH w K) (X : K.In h) (G : h.Ns mainGlobals mg) : FT K mg "law" s_law ["_law_script"] (He.ga K "law") := by
  obtain ⟨fd, F⟩ := c.b0.fun 20 (st := s_law)
  exact ⟨c.a.glo X G 21, fd, F, F.binds (ps := ["_law_script"]) fun _ _ _ _ _ _ us hl => match us, hl with | [_], _ => rfl⟩
theorem f_play (c : SaysH w K) (X : K.In h) (G : h.Ns mainGlobals mg) : mg "play" = some (.ref (He.ga K "play")) ∧ ∃ fd, FunD K "play" "play" (defArgs s_play) (defBody s_play) (defScope s_play) [.non, .non] [] (He.ga K "play") fd := by
  obtain ⟨fd, F⟩ := c.b0.t.d.def_ 21 (d := ⟨("play", none), "play", "play", defArgs s_play, defBody s_play, defScope s_play, [.non, .non], []⟩)
  exact ⟨c.a.glo X G 22, fd, F⟩
theorem g_Walk (c : SaysH w K) (X : K.In h) (G : h.Ns mainGlobals mg) : mg "Walk" = some (.ref (He.ga K "Walk")) := c.a.glo X G 23
theorem k_Walk (c : SaysH w K) (X : K.In h) (G : h.Ns mainGlobals mg) : Mk K (He.ga K "Walk") (He.ma K (He.ga K "Walk") "__init__") ∧ Cls K (He.ga K "Walk") ∧ ∀ x ∈ (["kind", "broken", "ways", "forks", "turning"] : List Str), NoAttr K (He.ga K "Walk") x := by
  have z := c.a.x 2 (f := fun K => Hf.clB K (He.ga K "Walk") (He.ma K (He.ga K "Walk") "__init__") ["kind", "broken", "ways", "forks", "turning"])
  exact Hf.cl_of z
theorem v_Walk_init (c : SaysH w K) : ∃ fd, Fun K "__init__" "Walk.__init__" s_Walk_init (He.ma K (He.ga K "Walk") "__init__") fd ∧ Binds K fd ["self", "kind"] [] := by
  obtain ⟨fd, F⟩ := c.b0.fun 22 (st := s_Walk_init)
  exact ⟨fd, F, F.binds (ps := ["self", "kind"]) fun _ _ _ _ _ _ us hl => match us, hl with | [_, _], _ => rfl⟩
theorem o_Walk_init (c : SaysH w K) (X : K.In h) (G : h.Ns mainGlobals mg) : Meth K (He.ga K "Walk") "__init__" (He.ma K (He.ga K "Walk") "__init__") ∧ Dun.Dn K (He.ga K "Walk") "__init__" (He.ma K (He.ga K "Walk") "__init__") := by
  have z := c.a.x 3 (f := fun K => Hf.methB K (He.ga K "Walk") "__init__" (He.ma K (He.ga K "Walk") "__init__"))
  exact Hf.meth_of z
theorem m_Walk_init (c : SaysH w K) (X : K.In h) (G : h.Ns mainGlobals mg) : MT K (He.ga K "Walk") "__init__" "Walk.__init__" s_Walk_init ["self", "kind"] (He.ma K (He.ga K "Walk") "__init__") := ⟨(o_Walk_init c X G).1, v_Walk_init c⟩
theorem v_Walk_step (c : SaysH w K) : ∃ fd, Fun K "step" "Walk.step" s_Walk_step (He.ma K (He.ga K "Walk") "step") fd ∧ Binds K fd ["self", "line", "row"] [] := by
  obtain ⟨fd, F⟩ := c.b0.fun 23 (st := s_Walk_step)
  exact ⟨fd, F, F.binds (ps := ["self", "line", "row"]) fun _ _ _ _ _ _ us hl => match us, hl with | [_, _, _], _ => rfl⟩
theorem o_Walk_step (c : SaysH w K) (X : K.In h) (G : h.Ns mainGlobals mg) : Meth K (He.ga K "Walk") "step" (He.ma K (He.ga K "Walk") "step") ∧ Dun.Dn K (He.ga K "Walk") "step" (He.ma K (He.ga K "Walk") "step") := by
  have z := c.a.x 4 (f := fun K => Hf.methB K (He.ga K "Walk") "step" (He.ma K (He.ga K "Walk") "step"))
  exact Hf.meth_of z
theorem m_Walk_step (c : SaysH w K) (X : K.In h) (G : h.Ns mainGlobals mg) : MT K (He.ga K "Walk") "step" "Walk.step" s_Walk_step ["self", "line", "row"] (He.ma K (He.ga K "Walk") "step") := ⟨(o_Walk_step c X G).1, v_Walk_step c⟩
theorem v_Walk_fork (c : SaysH w K) : ∃ fd, Fun K "fork" "Walk.fork" s_Walk_fork (He.ma K (He.ga K "Walk") "fork") fd ∧ Binds K fd ["self", "line", "row"] [] := by
  obtain ⟨fd, F⟩ := c.b0.fun 24 (st := s_Walk_fork)
  exact ⟨fd, F, F.binds (ps := ["self", "line", "row"]) fun _ _ _ _ _ _ us hl => match us, hl with | [_, _, _], _ => rfl⟩
theorem o_Walk_fork (c : SaysH w K) (X : K.In h) (G : h.Ns mainGlobals mg) : Meth K (He.ga K "Walk") "fork" (He.ma K (He.ga K "Walk") "fork") ∧ Dun.Dn K (He.ga K "Walk") "fork" (He.ma K (He.ga K "Walk") "fork") := by
  have z := c.a.x 5 (f := fun K => Hf.methB K (He.ga K "Walk") "fork" (He.ma K (He.ga K "Walk") "fork"))
  exact Hf.meth_of z
theorem m_Walk_fork (c : SaysH w K) (X : K.In h) (G : h.Ns mainGlobals mg) : MT K (He.ga K "Walk") "fork" "Walk.fork" s_Walk_fork ["self", "line", "row"] (He.ma K (He.ga K "Walk") "fork") := ⟨(o_Walk_fork c X G).1, v_Walk_fork c⟩
theorem v_Walk_pass_line (c : SaysH w K) : ∃ fd, Fun K "pass_line" "Walk.pass_line" s_Walk_pass_line (He.ma K (He.ga K "Walk") "pass_line") fd ∧ Binds K fd ["self", "line", "word"] [] := by
  obtain ⟨fd, F⟩ := c.b0.fun 25 (st := s_Walk_pass_line)
  exact ⟨fd, F, F.binds (ps := ["self", "line", "word"]) fun _ _ _ _ _ _ us hl => match us, hl with | [_, _, _], _ => rfl⟩
theorem o_Walk_pass_line (c : SaysH w K) (X : K.In h) (G : h.Ns mainGlobals mg) : Meth K (He.ga K "Walk") "pass_line" (He.ma K (He.ga K "Walk") "pass_line") ∧ Dun.Dn K (He.ga K "Walk") "pass_line" (He.ma K (He.ga K "Walk") "pass_line") := by
  have z := c.a.x 6 (f := fun K => Hf.methB K (He.ga K "Walk") "pass_line" (He.ma K (He.ga K "Walk") "pass_line"))
  exact Hf.meth_of z
theorem m_Walk_pass_line (c : SaysH w K) (X : K.In h) (G : h.Ns mainGlobals mg) : MT K (He.ga K "Walk") "pass_line" "Walk.pass_line" s_Walk_pass_line ["self", "line", "word"] (He.ma K (He.ga K "Walk") "pass_line") := ⟨(o_Walk_pass_line c X G).1, v_Walk_pass_line c⟩
theorem v_Walk_end_ways (c : SaysH w K) : ∃ fd, Fun K "end_ways" "Walk.end_ways" s_Walk_end_ways (He.ma K (He.ga K "Walk") "end_ways") fd ∧ Binds K fd ["self"] [] := by
  obtain ⟨fd, F⟩ := c.b0.fun 26 (st := s_Walk_end_ways)
  exact ⟨fd, F, F.binds (ps := ["self"]) fun _ _ _ _ _ _ us hl => match us, hl with | [_], _ => rfl⟩
theorem o_Walk_end_ways (c : SaysH w K) (X : K.In h) (G : h.Ns mainGlobals mg) : Meth K (He.ga K "Walk") "end_ways" (He.ma K (He.ga K "Walk") "end_ways") ∧ Dun.Dn K (He.ga K "Walk") "end_ways" (He.ma K (He.ga K "Walk") "end_ways") := by
  have z := c.a.x 7 (f := fun K => Hf.methB K (He.ga K "Walk") "end_ways" (He.ma K (He.ga K "Walk") "end_ways"))
  exact Hf.meth_of z
theorem m_Walk_end_ways (c : SaysH w K) (X : K.In h) (G : h.Ns mainGlobals mg) : MT K (He.ga K "Walk") "end_ways" "Walk.end_ways" s_Walk_end_ways ["self"] (He.ma K (He.ga K "Walk") "end_ways") := ⟨(o_Walk_end_ways c X G).1, v_Walk_end_ways c⟩
theorem g_Flow (c : SaysH w K) (X : K.In h) (G : h.Ns mainGlobals mg) : mg "Flow" = some (.ref (He.ga K "Flow")) := c.a.glo X G 24
theorem k_Flow (c : SaysH w K) (X : K.In h) (G : h.Ns mainGlobals mg) : Mk K (He.ga K "Flow") (He.ma K (He.ga K "Flow") "__init__") ∧ Cls K (He.ga K "Flow") ∧ ∀ x ∈ (["rows", "size", "heads", "ends", "after", "other", "loop_of"] : List Str), NoAttr K (He.ga K "Flow") x := by
  have z := c.a.x 8 (f := fun K => Hf.clB K (He.ga K "Flow") (He.ma K (He.ga K "Flow") "__init__") ["rows", "size", "heads", "ends", "after", "other", "loop_of"])
  exact Hf.cl_of z
theorem v_Flow_init (c : SaysH w K) : ∃ fd, Fun K "__init__" "Flow.__init__" s_Flow_init (He.ma K (He.ga K "Flow") "__init__") fd ∧ Binds K fd ["self", "rows"] [] := by
  obtain ⟨fd, F⟩ := c.b0.fun 27 (st := s_Flow_init)
  exact ⟨fd, F, F.binds (ps := ["self", "rows"]) fun _ _ _ _ _ _ us hl => match us, hl with | [_, _], _ => rfl⟩
theorem o_Flow_init (c : SaysH w K) (X : K.In h) (G : h.Ns mainGlobals mg) : Meth K (He.ga K "Flow") "__init__" (He.ma K (He.ga K "Flow") "__init__") ∧ Dun.Dn K (He.ga K "Flow") "__init__" (He.ma K (He.ga K "Flow") "__init__") := by
  have z := c.a.x 9 (f := fun K => Hf.methB K (He.ga K "Flow") "__init__" (He.ma K (He.ga K "Flow") "__init__"))
  exact Hf.meth_of z
theorem m_Flow_init (c : SaysH w K) (X : K.In h) (G : h.Ns mainGlobals mg) : MT K (He.ga K "Flow") "__init__" "Flow.__init__" s_Flow_init ["self", "rows"] (He.ma K (He.ga K "Flow") "__init__") := ⟨(o_Flow_init c X G).1, v_Flow_init c⟩
theorem v_Flow_landing (c : SaysH w K) : ∃ fd, Fun K "landing" "Flow.landing" s_Flow_landing (He.ma K (He.ga K "Flow") "landing") fd ∧ Binds K fd ["self", "at"] [] := by
  obtain ⟨fd, F⟩ := c.b0.fun 28 (st := s_Flow_landing)
  exact ⟨fd, F, F.binds (ps := ["self", "at"]) fun _ _ _ _ _ _ us hl => match us, hl with | [_, _], _ => rfl⟩
theorem o_Flow_landing (c : SaysH w K) (X : K.In h) (G : h.Ns mainGlobals mg) : Meth K (He.ga K "Flow") "landing" (He.ma K (He.ga K "Flow") "landing") ∧ Dun.Dn K (He.ga K "Flow") "landing" (He.ma K (He.ga K "Flow") "landing") := by
  have z := c.a.x 10 (f := fun K => Hf.methB K (He.ga K "Flow") "landing" (He.ma K (He.ga K "Flow") "landing"))
  exact Hf.meth_of z
theorem m_Flow_landing (c : SaysH w K) (X : K.In h) (G : h.Ns mainGlobals mg) : MT K (He.ga K "Flow") "landing" "Flow.landing" s_Flow_landing ["self", "at"] (He.ma K (He.ga K "Flow") "landing") := ⟨(o_Flow_landing c X G).1, v_Flow_landing c⟩
theorem v_Flow_way_past (c : SaysH w K) : ∃ fd, Fun K "way_past" "Flow.way_past" s_Flow_way_past (He.ma K (He.ga K "Flow") "way_past") fd ∧ Binds K fd ["self", "at"] [] := by
  obtain ⟨fd, F⟩ := c.b0.fun 29 (st := s_Flow_way_past)
  exact ⟨fd, F, F.binds (ps := ["self", "at"]) fun _ _ _ _ _ _ us hl => match us, hl with | [_, _], _ => rfl⟩
theorem o_Flow_way_past (c : SaysH w K) (X : K.In h) (G : h.Ns mainGlobals mg) : Meth K (He.ga K "Flow") "way_past" (He.ma K (He.ga K "Flow") "way_past") ∧ Dun.Dn K (He.ga K "Flow") "way_past" (He.ma K (He.ga K "Flow") "way_past") := by
  have z := c.a.x 11 (f := fun K => Hf.methB K (He.ga K "Flow") "way_past" (He.ma K (He.ga K "Flow") "way_past"))
  exact Hf.meth_of z
theorem m_Flow_way_past (c : SaysH w K) (X : K.In h) (G : h.Ns mainGlobals mg) : MT K (He.ga K "Flow") "way_past" "Flow.way_past" s_Flow_way_past ["self", "at"] (He.ma K (He.ga K "Flow") "way_past") := ⟨(o_Flow_way_past c X G).1, v_Flow_way_past c⟩
theorem v_Flow_find_loops (c : SaysH w K) : ∃ fd, Fun K "find_loops" "Flow.find_loops" s_Flow_find_loops (He.ma K (He.ga K "Flow") "find_loops") fd ∧ Binds K fd ["self"] [] := by
  obtain ⟨fd, F⟩ := c.b0.fun 30 (st := s_Flow_find_loops)
  exact ⟨fd, F, F.binds (ps := ["self"]) fun _ _ _ _ _ _ us hl => match us, hl with | [_], _ => rfl⟩
theorem o_Flow_find_loops (c : SaysH w K) (X : K.In h) (G : h.Ns mainGlobals mg) : Meth K (He.ga K "Flow") "find_loops" (He.ma K (He.ga K "Flow") "find_loops") ∧ Dun.Dn K (He.ga K "Flow") "find_loops" (He.ma K (He.ga K "Flow") "find_loops") := by
  have z := c.a.x 12 (f := fun K => Hf.methB K (He.ga K "Flow") "find_loops" (He.ma K (He.ga K "Flow") "find_loops"))
  exact Hf.meth_of z
theorem m_Flow_find_loops (c : SaysH w K) (X : K.In h) (G : h.Ns mainGlobals mg) : MT K (He.ga K "Flow") "find_loops" "Flow.find_loops" s_Flow_find_loops ["self"] (He.ma K (He.ga K "Flow") "find_loops") := ⟨(o_Flow_find_loops c X G).1, v_Flow_find_loops c⟩
theorem g_Player (c : SaysH w K) (X : K.In h) (G : h.Ns mainGlobals mg) : mg "Player" = some (.ref (He.ga K "Player")) := c.a.glo X G 25
theorem k_Player (c : SaysH w K) (X : K.In h) (G : h.Ns mainGlobals mg) : Mk K (He.ga K "Player") (He.ma K (He.ga K "Player") "__init__") ∧ Cls K (He.ga K "Player") ∧ ∀ x ∈ (["flow", "width", "row", "start", "given", "noted", "place", "hand", "mate", "told", "compares", "ended", "at", "loop", "met", "used", "sides_seen", "stations_met"] : List Str), NoAttr K (He.ga K "Player") x := by
  have z := c.a.x 13 (f := fun K => Hf.clB K (He.ga K "Player") (He.ma K (He.ga K "Player") "__init__") ["flow", "width", "row", "start", "given", "noted", "place", "hand", "mate", "told", "compares", "ended", "at", "loop", "met", "used", "sides_seen", "stations_met"])
  exact Hf.cl_of z
theorem v_Player_init (c : SaysH w K) : ∃ fd, Fun K "__init__" "Player.__init__" s_Player_init (He.ma K (He.ga K "Player") "__init__") fd ∧ Binds K fd ["self", "code", "items", "start", "given"] [] := by
  obtain ⟨fd, F⟩ := c.b0.fun 31 (st := s_Player_init)
  exact ⟨fd, F, F.binds (ps := ["self", "code", "items", "start", "given"]) fun _ _ _ _ _ _ us hl => match us, hl with | [_, _, _, _, _], _ => rfl⟩
theorem o_Player_init (c : SaysH w K) (X : K.In h) (G : h.Ns mainGlobals mg) : Meth K (He.ga K "Player") "__init__" (He.ma K (He.ga K "Player") "__init__") ∧ Dun.Dn K (He.ga K "Player") "__init__" (He.ma K (He.ga K "Player") "__init__") := by
  have z := c.a.x 14 (f := fun K => Hf.methB K (He.ga K "Player") "__init__" (He.ma K (He.ga K "Player") "__init__"))
  exact Hf.meth_of z
theorem m_Player_init (c : SaysH w K) (X : K.In h) (G : h.Ns mainGlobals mg) : MT K (He.ga K "Player") "__init__" "Player.__init__" s_Player_init ["self", "code", "items", "start", "given"] (He.ma K (He.ga K "Player") "__init__") := ⟨(o_Player_init c X G).1, v_Player_init c⟩
theorem v_Player_item (c : SaysH w K) : ∃ fd, Fun K "item" "Player.item" s_Player_item (He.ma K (He.ga K "Player") "item") fd ∧ Binds K fd ["self", "place"] [] := by
  obtain ⟨fd, F⟩ := c.b0.fun 32 (st := s_Player_item)
  exact ⟨fd, F, F.binds (ps := ["self", "place"]) fun _ _ _ _ _ _ us hl => match us, hl with | [_, _], _ => rfl⟩
theorem o_Player_item (c : SaysH w K) (X : K.In h) (G : h.Ns mainGlobals mg) : Meth K (He.ga K "Player") "item" (He.ma K (He.ga K "Player") "item") ∧ Dun.Dn K (He.ga K "Player") "item" (He.ma K (He.ga K "Player") "item") := by
  have z := c.a.x 15 (f := fun K => Hf.methB K (He.ga K "Player") "item" (He.ma K (He.ga K "Player") "item"))
  exact Hf.meth_of z
theorem m_Player_item (c : SaysH w K) (X : K.In h) (G : h.Ns mainGlobals mg) : MT K (He.ga K "Player") "item" "Player.item" s_Player_item ["self", "place"] (He.ma K (He.ga K "Player") "item") := ⟨(o_Player_item c X G).1, v_Player_item c⟩
theorem v_Player_run (c : SaysH w K) : ∃ fd, Fun K "run" "Player.run" s_Player_run (He.ma K (He.ga K "Player") "run") fd ∧ Binds K fd ["self"] [] := by
  obtain ⟨fd, F⟩ := c.b0.fun 33 (st := s_Player_run)
  exact ⟨fd, F, F.binds (ps := ["self"]) fun _ _ _ _ _ _ us hl => match us, hl with | [_], _ => rfl⟩
theorem o_Player_run (c : SaysH w K) (X : K.In h) (G : h.Ns mainGlobals mg) : Meth K (He.ga K "Player") "run" (He.ma K (He.ga K "Player") "run") ∧ Dun.Dn K (He.ga K "Player") "run" (He.ma K (He.ga K "Player") "run") := by
  have z := c.a.x 16 (f := fun K => Hf.methB K (He.ga K "Player") "run" (He.ma K (He.ga K "Player") "run"))
  exact Hf.meth_of z
theorem m_Player_run (c : SaysH w K) (X : K.In h) (G : h.Ns mainGlobals mg) : MT K (He.ga K "Player") "run" "Player.run" s_Player_run ["self"] (He.ma K (He.ga K "Player") "run") := ⟨(o_Player_run c X G).1, v_Player_run c⟩
theorem v_Player_step (c : SaysH w K) : ∃ fd, Fun K "step" "Player.step" s_Player_step (He.ma K (He.ga K "Player") "step") fd ∧ Binds K fd ["self", "row"] [] := by
  obtain ⟨fd, F⟩ := c.b0.fun 34 (st := s_Player_step)
  exact ⟨fd, F, F.binds (ps := ["self", "row"]) fun _ _ _ _ _ _ us hl => match us, hl with | [_, _], _ => rfl⟩
theorem o_Player_step (c : SaysH w K) (X : K.In h) (G : h.Ns mainGlobals mg) : Meth K (He.ga K "Player") "step" (He.ma K (He.ga K "Player") "step") ∧ Dun.Dn K (He.ga K "Player") "step" (He.ma K (He.ga K "Player") "step") := by
  have z := c.a.x 17 (f := fun K => Hf.methB K (He.ga K "Player") "step" (He.ma K (He.ga K "Player") "step"))
  exact Hf.meth_of z
theorem m_Player_step (c : SaysH w K) (X : K.In h) (G : h.Ns mainGlobals mg) : MT K (He.ga K "Player") "step" "Player.step" s_Player_step ["self", "row"] (He.ma K (He.ga K "Player") "step") := ⟨(o_Player_step c X G).1, v_Player_step c⟩
theorem g_Code (c : SaysH w K) (X : K.In h) (G : h.Ns mainGlobals mg) : mg "Code" = some (.ref (He.ga K "Code")) := c.a.glo X G 26
theorem k_Code (c : SaysH w K) (X : K.In h) (G : h.Ns mainGlobals mg) : Mk K (He.ga K "Code") (He.ma K (He.ga K "Code") "__init__") ∧ Cls K (He.ga K "Code") ∧ ∀ x ∈ (["kind", "width", "text", "flow", "memory", "_lines"] : List Str), NoAttr K (He.ga K "Code") x := by
  have z := c.a.x 18 (f := fun K => Hf.clB K (He.ga K "Code") (He.ma K (He.ga K "Code") "__init__") ["kind", "width", "text", "flow", "memory", "_lines"])
  exact Hf.cl_of z
theorem v_Code_init (c : SaysH w K) : ∃ fd, Fun K "__init__" "Code.__init__" s_Code_init (He.ma K (He.ga K "Code") "__init__") fd ∧ Binds K fd ["self", "kind", "width", "text"] [] := by
  obtain ⟨fd, F⟩ := c.b0.fun 35 (st := s_Code_init)
  exact ⟨fd, F, F.binds (ps := ["self", "kind", "width", "text"]) fun _ _ _ _ _ _ us hl => match us, hl with | [_, _, _, _], _ => rfl⟩
theorem o_Code_init (c : SaysH w K) (X : K.In h) (G : h.Ns mainGlobals mg) : Meth K (He.ga K "Code") "__init__" (He.ma K (He.ga K "Code") "__init__") ∧ Dun.Dn K (He.ga K "Code") "__init__" (He.ma K (He.ga K "Code") "__init__") := by
  have z := c.a.x 19 (f := fun K => Hf.methB K (He.ga K "Code") "__init__" (He.ma K (He.ga K "Code") "__init__"))
  exact Hf.meth_of z
theorem m_Code_init (c : SaysH w K) (X : K.In h) (G : h.Ns mainGlobals mg) : MT K (He.ga K "Code") "__init__" "Code.__init__" s_Code_init ["self", "kind", "width", "text"] (He.ma K (He.ga K "Code") "__init__") := ⟨(o_Code_init c X G).1, v_Code_init c⟩
theorem y_int (c : SaysH w K) (X : K.In h) (G : h.Ns mainGlobals mg) : mg "int" = none := c.a.free X G 27
theorem y_list (c : SaysH w K) (X : K.In h) (G : h.Ns mainGlobals mg) : mg "list" = none := c.a.free X G 28
theorem y_len (c : SaysH w K) (X : K.In h) (G : h.Ns mainGlobals mg) : mg "len" = none := c.a.free X G 29
theorem y_isinstance (c : SaysH w K) (X : K.In h) (G : h.Ns mainGlobals mg) : mg "isinstance" = none := c.a.free X G 30
theorem y_range (c : SaysH w K) (X : K.In h) (G : h.Ns mainGlobals mg) : mg "range" = none := c.a.free X G 31
theorem y_str (c : SaysH w K) (X : K.In h) (G : h.Ns mainGlobals mg) : mg "str" = none := c.a.free X G 32
theorem y_tuple (c : SaysH w K) (X : K.In h) (G : h.Ns mainGlobals mg) : mg "tuple" = none := c.a.free X G 33
theorem y_enumerate (c : SaysH w K) (X : K.In h) (G : h.Ns mainGlobals mg) : mg "enumerate" = none := c.a.free X G 34
theorem y_min (c : SaysH w K) (X : K.In h) (G : h.Ns mainGlobals mg) : mg "min" = none := c.a.free X G 35
theorem y_bool (c : SaysH w K) (X : K.In h) (G : h.Ns mainGlobals mg) : mg "bool" = none := c.a.free X G 36
theorem y_sorted (c : SaysH w K) (X : K.In h) (G : h.Ns mainGlobals mg) : mg "sorted" = none := c.a.free X G 37
theorem p5 (c : SaysH w K) (X : K.In h) (G : h.Ns mainGlobals mg) : PySem.W.exmOne K (.ref (He.ga K "BadItem")) (.ref (He.ga K "BadItem")) = some true := by
  have z := c.a.x 20 (f := fun K => decide (PySem.W.exmOne K (.ref (He.ga K "BadItem")) (.ref (He.ga K "BadItem")) = some true))
  exact of_decide_eq_true z
theorem t_KINDS (c : SaysH w K) (X : K.In h) (G : h.Ns mainGlobals mg) : TupT K mg "KINDS" (He.ga K "KINDS") kindsV := by
  have z := c.a.x 21 (f := fun K => Hf.tupB K (He.ga K "KINDS") kindsV)
  exact ⟨c.a.glo X G 38, Hf.tup_of z⟩
theorem t_WIDTHS (c : SaysH w K) (X : K.In h) (G : h.Ns mainGlobals mg) : TupT K mg "WIDTHS" (He.ga K "WIDTHS") widthsV := by
  have z := c.a.x 22 (f := fun K => Hf.tupB K (He.ga K "WIDTHS") widthsV)
  exact ⟨c.a.glo X G 39, Hf.tup_of z⟩
theorem g_FRESH (c : SaysH w K) (X : K.In h) (G : h.Ns mainGlobals mg) : mg "FRESH" = some (.ref (He.ga K "FRESH")) := c.a.glo X G 40
theorem w_FRESH (c : SaysH w K) (X : K.In h) (G : h.Ns mainGlobals mg) : ∀ H, Wy K H (.ref (He.ga K "FRESH")) := by
  have z := c.a.x 23 (f := fun K => wayB K (He.ga K "FRESH"))
  exact way_of z
theorem i_MOST_LINES (c : SaysH w K) (X : K.In h) (G : h.Ns mainGlobals mg) : ∃ t, mg "MOST_LINES" = some (.int 60 t) := c.a.int X G 41
end
def tf : List He.Defn := [("law", none)]
theorem fun_uniq {K : PySem.W.Frag} {x q : Str} {st : Stmt} {f : Addr} {fd fd' : FuncData} (a : Fun K x q st f fd) (b : Fun K x q st f fd') : fd = fd' := by
  obtain ⟨oc, od, kV, doc, pm, an, cdv, ct, osl, e, l, c⟩ := a.ex
  obtain ⟨oc', od', kV', doc', pm', an', cdv', ct', osl', e', l', c'⟩ := b.ex
  rw [l] at l'
  have := congrArg Obj.data (Option.some.inj l')
  injection this
end
end H2
namespace H2
open PySem PySem.Spec PyProof.Rows L2 Hx Nd Dun
theorem facts {P : Program} {w : World} {K : PySem.W.Frag} {h : Heap} {mg : Str → Option Value} {fa : Addr} (X : K.In h) (G : h.Ns mainGlobals mg) (hfa : mg "law" = some (.ref fa)) (c : SaysH w K) : ∃ fd : FuncData, (∀ (s : Shared) (v : Value), BindsTo s fd ⟨[v], []⟩ [("_law_script", v)]) ∧ ∀ base : Heap, K.In base → base.Ns mainGlobals mg → LamX.TabB base mg (He.cT K ("law", none)).1 (He.cT K ("law", none)).2 → FnOk P w K mg base CX0 9 fa fd ["_law_script"] (spLaw36 K (He.cT K ("law", none)).2) := by
  have e := hfa.symm.trans (f_law c X G).g
  cases e
  obtain ⟨fdl, F_law, b_law⟩ := (f_law c X G).fn
  obtain ⟨fd_Lbag, F_Lbag, b_Lbag⟩ := (f_Lbag c X G).fn
  obtain ⟨fd_Ldraw, F_Ldraw, b_Ldraw⟩ := (f_Ldraw c X G).fn
  obtain ⟨fd_Lrefused, F_Lrefused, b_Lrefused⟩ := (f_Lrefused c X G).fn
  have B : BltT mg := ⟨y_int c X G, y_list c X G, y_len c X G⟩
  have EC : ErrC K mg (He.ga K "HeapError") (fun _ => (He.ga K "BadItem")) (fun _ => (He.ma K (He.ga K "BadItem") "__init__")) := ⟨baseT c X G, e_BadItem c X G⟩
  obtain ⟨makWalk, clWalk, nfWalk⟩ := k_Walk c X G
  obtain ⟨makFlow, clFlow, nfFlow⟩ := k_Flow c X G
  obtain ⟨makPlayer, clPlayer, nfPlayer⟩ := k_Player c X G
  obtain ⟨makCode, clCode, nfCode⟩ := k_Code c X G
  have W : WalkT K mg (He.ga K "Walk") (fun i => [(He.ma K (He.ga K "Walk") "__init__"), (He.ma K (He.ga K "Walk") "step"), 0, 0, (He.ma K (He.ga K "Walk") "fork"), (He.ma K (He.ga K "Walk") "pass_line"), (He.ma K (He.ga K "Walk") "end_ways")].getD i 0) := ⟨g_Walk c X G, makWalk, clWalk, nfWalk _ (by simp), nfWalk _ (by simp), nfWalk _ (by simp), nfWalk _ (by simp), nfWalk _ (by simp), v_Walk_init c, m_Walk_step c X G, m_Walk_fork c X G, m_Walk_pass_line c X G, m_Walk_end_ways c X G⟩
  have FY : FlowT K mg (He.ga K "Flow") (fun i => [(He.ma K (He.ga K "Flow") "__init__"), (He.ma K (He.ga K "Flow") "landing"), (He.ma K (He.ga K "Flow") "way_past"), (He.ma K (He.ga K "Flow") "find_loops")].getD i 0) := ⟨g_Flow c X G, makFlow, clFlow, nfFlow _ (by simp), nfFlow _ (by simp), nfFlow _ (by simp), nfFlow _ (by simp), nfFlow _ (by simp), nfFlow _ (by simp), nfFlow _ (by simp), v_Flow_init c, m_Flow_landing c X G, m_Flow_way_past c X G, m_Flow_find_loops c X G⟩
  have CT : CodeX K mg (He.ga K "Code") (He.ma K (He.ga K "Code") "__init__") := ⟨g_Code c X G, makCode, clCode, nfCode _ (by simp), nfCode _ (by simp), nfCode _ (by simp), nfCode _ (by simp), nfCode _ (by simp), nfCode _ (by simp), v_Code_init c⟩
  have CA : CodA K (He.ga K "Code") := ⟨clCode, nfCode _ (by simp), nfCode _ (by simp), nfCode _ (by simp)⟩
  have TP : PlT K mg (He.ga K "Player") (fun i => [(He.ma K (He.ga K "Player") "__init__"), (He.ma K (He.ga K "Player") "item"), 0, 0, (He.ma K (He.ga K "Player") "run"), (He.ma K (He.ga K "Player") "step")].getD i 0) := ⟨g_Player c X G, makPlayer, clPlayer, nfPlayer, v_Player_init c, m_Player_item c X G, m_Player_run c X G, m_Player_step c X G⟩
  obtain ⟨m_play, fd_play, F_play⟩ := f_play c X G
  obtain ⟨dsp, vdsp, b_play⟩ := FunD.binds1 (ps := psPy) F_play 3 1 (by simp) rfl (fun T kV doc pm an cdv ct us its l1 l2 => by
    match us, its, l1, l2 with
    | [a, b, c], [e, f], _, _ => exact ⟨_, rfl, rfl⟩)
  have t_KINDS := t_KINDS c X G
  have t_WIDTHS := t_WIDTHS c X G
  have cF : FreshT K mg (He.ga K "FRESH") := ⟨g_FRESH c X G, w_FRESH c X G⟩
  have y_int := y_int c X G
  have y_list := y_list c X G
  have y_len := y_len c X G
  have y_isinstance := y_isinstance c X G
  have y_range := y_range c X G
  have y_str := y_str c X G
  have y_tuple := y_tuple c X G
  have y_enumerate := y_enumerate c X G
  have y_min := y_min c X G
  have y_bool := y_bool c X G
  have y_sorted := y_sorted c X G
  have T_is_kind := f_is_kind c X G
  have m_is_kind := T_is_kind.g
  have T_is_width := f_is_width c X G
  have m_is_width := T_is_width.g
  have T_parent := f_parent c X G
  have m_parent := T_parent.g
  have T_child := f_child c X G
  have m_child := T_child.g
  have T_first_fault := f_first_fault c X G
  have m_first_fault := T_first_fault.g
  have T_is_heap := f_is_heap c X G
  have m_is_heap := T_is_heap.g
  have T_is_integer := f_is_integer c X G
  have m_is_integer := T_is_integer.g
  have T_is_item := f_is_item c X G
  have m_is_item := T_is_item.g
  have T_first_bad_item := f_first_bad_item c X G
  have m_first_bad_item := T_first_bad_item.g
  have T_check_items := f_check_items c X G
  have m_check_items := T_check_items.g
  have T_check_case := f_check_case c X G
  have m_check_case := T_check_case.g
  have T_read_rows := f_read_rows c X G
  have m_read_rows := T_read_rows.g
  have T_match_blocks := f_match_blocks c X G
  have m_match_blocks := T_match_blocks.g
  have T_least_break := f_least_break c X G
  have m_least_break := T_least_break.g
  have T_build := f_build c X G
  have m_build := T_build.g
  have T_Lbag := f_Lbag c X G
  have m_Lbag := T_Lbag.g
  have T_Ldraw := f_Ldraw c X G
  have m_Ldraw := T_Ldraw.g
  have T_Litems := f_Litems c X G
  have m_Litems := T_Litems.g
  have T_Lrefused := f_Lrefused c X G
  have m_Lrefused := T_Lrefused.g
  have hbl : ∀ (s : Shared) (v : Value), BindsTo s fdl ⟨[v], []⟩ [("_law_script", v)] := by
    obtain ⟨⟨oc, od, kV, doc, pm, an, cdv, ct, osl, e, l, c2⟩, kp⟩ := F_law
    subst e
    exact fun s v => .of_eq rfl
  have hcode : fdl.code = .ref (He.cT K ("law", none)).1 := by
    obtain ⟨oc, od, kV, doc, pm, an, cdv, ct, osl, e, l, c2⟩ := F_law.ex
    obtain ⟨ca, hca⟩ := He.codeIn_ref c2
    have e2 : fdl.code = .ref ca := by rw [e, ← hca]
    have e3 : He.codeOf K ("law", none) = ca := He.codeOf_eq (p := ("law", none)) l e2
    rw [e2, ← e3]
    rfl
  refine ⟨fdl, hbl, fun base _ _ TB => ?_⟩
  obtain ⟨d1, F1, b1, G1⟩ := ok_is_kind (P := P) (w := w) (base := base) T_is_kind y_isinstance y_str t_KINDS
  obtain ⟨d2, F2, b2, G2⟩ := ok_is_width (P := P) (w := w) (base := base) T_is_width y_isinstance y_int t_WIDTHS
  obtain ⟨d3, F3, b3, G3⟩ := ok_rows0 (P := P) (w := w) (base := base) T_read_rows y_enumerate
  obtain ⟨d4, F4, b4, G4⟩ := ok_least0 (P := P) (w := w) (base := base) T_least_break W cF y_list y_enumerate y_min
  obtain ⟨dM, FM, bM, GM⟩ := ok_mb0 (P := P) (w := w) (base := base) T_match_blocks y_enumerate
  obtain ⟨dY, FYi, bYi, GYi⟩ := ok_Flow0 (P := P) (w := w) (base := base) FY y_range y_len y_tuple FM bM m_match_blocks GM
  obtain ⟨d5, F5, b5, G5⟩ := ok_Code0 (P := P) (w := w) (base := base) FY bYi CT y_len y_tuple GYi (i_MOST_LINES c X G).choose_spec ⟨_, rfl⟩ F1 b1 m_is_kind G1 F2 b2 m_is_width G2 F3 b3 m_read_rows G3 F4 b4 m_least_break G4
  obtain ⟨e1, H1, c1, J1⟩ := ok_parent (P := P) (w := w) (base := base) T_parent
  obtain ⟨e2, H2, c2, J2⟩ := ok_child (P := P) (w := w) (base := base) T_child
  obtain ⟨e3, H3, c3, J3⟩ := ok_ffl (P := P) (w := w) (base := base) T_first_fault y_range y_len H1 c1 m_parent J1
  obtain ⟨e4, H4, c4, J4⟩ := ok_fft (P := P) (w := w) (base := base) T_first_fault y_range y_len H1 c1 m_parent J1
  obtain ⟨e5, H5, c5, J5⟩ := ok_heape (P := P) (w := w) (base := base) T_is_heap H3 c3 m_first_fault J3
  obtain ⟨e6, H6, c6, J6⟩ := ok_int (P := P) (w := w) (base := base) T_is_integer y_isinstance y_int y_bool
  obtain ⟨e7, H7, c7, J7⟩ := ok_item (P := P) (w := w) (base := base) T_is_item y_isinstance y_tuple y_len H6 c6 m_is_integer J6
  obtain ⟨e8, H8, c8, J8⟩ := ok_fb (P := P) (w := w) (base := base) T_first_bad_item y_enumerate H7 c7 m_is_item J7
  obtain ⟨e9, H9, c9, J9⟩ := ok_fbx (P := P) (w := w) (base := base) T_first_bad_item y_enumerate H7 c7 m_is_item J7
  obtain ⟨e10, H10, c10, J10⟩ := ok_ci (P := P) (w := w) (base := base) T_check_items EC H8 c8 m_first_bad_item J8
  obtain ⟨e11, H11, c11, J11⟩ := ok_cix (P := P) (w := w) (base := base) T_check_items EC H9 c9 m_first_bad_item J9
  obtain ⟨e12, H12, c12, J12⟩ := ok_ccx (P := P) (w := w) (base := base) (EC := fun _ => (He.ga K "BadItem")) T_check_case H11 c11 m_check_items J11
  have J13 := ok_playx (P := P) (w := w) (base := base) (EC := fun _ => (He.ga K "BadItem")) F_play H12 c12 m_check_case J12
  obtain ⟨e14, H14, c14, J14⟩ := ok_bdx (P := P) (w := w) (base := base) (EC := fun _ => (He.ga K "BadItem")) (CF := (He.ga K "Flow")) T_build CA H11 c11 m_check_items J11
  obtain ⟨e15, H15, c15, J15⟩ := ok_pl (P := P) (w := w) (base := base) TP CA y_list
  obtain ⟨e16, H16, c16, J16⟩ := ok_run0 (P := P) (w := w) (base := base) TP FY
  obtain ⟨e17, H17, c17, J17⟩ := ok_bd (P := P) (w := w) (base := base) T_build CA TP FY y_range y_len y_tuple H10 c10 m_check_items J10 H1 c1 m_parent J1 c15 J15 c16 J16
  obtain rfl := fun_uniq H14 H17
  obtain ⟨e18, H18, c18, J18⟩ := ok_items (P := P) (w := w) (base := base) T_Litems B y_range F_Ldraw b_Ldraw m_Ldraw
  exact ok_law36 (P := P) (w := w) (base := base) F_law hcode TB B y_range y_list y_tuple y_sorted y_len CT EC (p5 c X G) F_Lbag b_Lbag m_Lbag F_Ldraw b_Ldraw m_Ldraw H18 c18 m_Litems J18 H5 c5 m_is_heap J5 H4 c4 m_first_fault J4 H1 c1 m_parent J1 H2 c2 m_child J2 F_Lrefused b_Lrefused m_Lrefused F_play.kp b_play vdsp m_play J13 H14 c14 m_build J14 J17 b5 G5
end H2
set_option maxHeartbeats 0
/-! ### the head -/
namespace HeadN
open PySem PySem.W PySem.Calls PyProof.Rows
abbrev R : OpenRow := OpenLaw.row PySem.Challenge.rw_heapcode_k36_places_items_and_heaps
abbrev qv : Program := view R.prog [121]
def names : List PySem.Str := (["_wall", "__name__", "parent", "child", "first_fault", "is_heap", "HeapError", "BadKind"] : List PySem.Str) ++ ((["BadWidth", "BadLine", "Refused", "BadItem", "BadCase", "TooMany", "NUMBERS", "SIGNS"] : List PySem.Str) ++ ((["GIVEN", "SIDES", "read_number", "read_side", "read_comparison", "read_has", "read_plain_part", "read_part"] : List PySem.Str) ++ ((["read_test", "names_given", "LOOPS", "TOP_WORDS", "LOOP_WORDS", "Row", "row_with_test", "row_of_pick"] : List PySem.Str) ++ ((["row_of_block_word", "read_row", "blocks_behind", "read_rows", "match_blocks", "Flow", "KINDS", "WIDTHS"] : List PySem.Str) ++ ((["WITH_START", "WITH_GIVEN", "WITH_TOLD", "OF_HEAPS", "ALLOWED", "is_kind", "is_width", "allows"] : List PySem.Str) ++ ((["ONCE", "AHEAD_OF_LOOPS", "FRESH", "keeps_order", "keeps_order_limits", "way_behind", "is_turn", "may_begin"] : List PySem.Str) ++ ((["Walk", "least_break", "MOST_LINES", "Code", "is_integer", "is_item", "first_bad_item", "start_fits"] : List PySem.Str) ++ ((["given_fits", "trees_are_heaps", "is_heap_but_for", "leans_right", "list_fits", "check_items", "check_start_and_given", "check_case"] : List PySem.Str) ++ ((["SHIFTS", "Player", "tell", "grab", "lay", "longer", "shorter", "trade"] : List PySem.Str) ++ ((["to_start", "note", "note_mate", "go", "pull", "swap", "pick", "ACTIONS"] : List PySem.Str) ++ ((["tree_of", "owed_items", "keeps_items", "keeps_order_promises", "keeps_told", "keeps_places", "broken_at_end", "broken_by"] : List PySem.Str) ++ ((["Table", "Play", "first_place", "play", "build", "_law_bag", "_law_draw", "_law_items"] : List PySem.Str) ++ ((["_law_is_heap", "_law_refused"] : List PySem.Str))))))))))))))
theorem run_a_false (w : World) : Hf.RunA R qv 12000 names (w.withFollow "special-get-raises" false) := by
  intro os
  kernel_rfl
theorem run_a_true (w : World) : Hf.RunA R qv 12000 names (w.withFollow "special-get-raises" true) := by
  intro os
  kernel_rfl
theorem run_a (w : World) : Hf.RunA R qv 12000 names w := byRow2 "special-get-raises" (P := fun w => Hf.RunA R qv 12000 names w) run_a_false run_a_true w
theorem run_pa_false (w : World) : Hf.RunBE R 12000 H2.pa (w.withFollow "special-get-raises" false) := by
  intro os
  kernel_rfl
theorem run_pa_true (w : World) : Hf.RunBE R 12000 H2.pa (w.withFollow "special-get-raises" true) := by
  intro os
  kernel_rfl
theorem run_pa (w : World) : Hf.RunBE R 12000 H2.pa w := byRow2 "special-get-raises" (P := fun w => Hf.RunBE R 12000 H2.pa w) run_pa_false run_pa_true w
theorem run_pb0_false (w : World) : Hf.RunBE R 12000 H2.pb0 (w.withFollow "special-get-raises" false) := by
  intro os
  kernel_rfl
theorem run_pb0_true (w : World) : Hf.RunBE R 12000 H2.pb0 (w.withFollow "special-get-raises" true) := by
  intro os
  kernel_rfl
theorem run_pb0 (w : World) : Hf.RunBE R 12000 H2.pb0 w := byRow2 "special-get-raises" (P := fun w => Hf.RunBE R 12000 H2.pb0 w) run_pb0_false run_pb0_true w
theorem run_t_false (w : World) : Hf.RunTE R 12000 H2.tf (w.withFollow "special-get-raises" false) := by
  intro os
  kernel_rfl
theorem run_t_true (w : World) : Hf.RunTE R 12000 H2.tf (w.withFollow "special-get-raises" true) := by
  intro os
  kernel_rfl
theorem run_t (w : World) : Hf.RunTE R 12000 H2.tf w := byRow2 "special-get-raises" (P := fun w => Hf.RunTE R 12000 H2.tf w) run_t_false run_t_true w
theorem run (w : World) : HandSHeadRun.RunEq R qv (Hf.hookE H2.parts H2.tf) (Hf.obLE H2.parts H2.tf) 12000 names w := Hf.run_allE (run_a w) (fun p hp => by
  simp only [H2.parts, List.mem_cons, List.not_mem_nil, or_false] at hp
  rcases hp with rfl | rfl
  · exact run_pa w
  · exact run_pb0 w) (run_t w)
end HeadN
open PySem PySem.W PySem.Calls PyProof.Rows
set_option maxRecDepth 100000 in
set_option maxHeartbeats 0 in
theorem PySem.Challenge.cw_heapcode_k36_places_items_and_heaps_holds : PySem.Challenge.rw_heapcode_k36_places_items_and_heaps.Holds := by
  w_on; o_law
  refine HandSHeadRun.head_any (r := OpenLaw.row PySem.Challenge.rw_heapcode_k36_places_items_and_heaps) (q := HeadN.qv) (H := Hf.hookE H2.parts H2.tf) (ob := Hf.obLE H2.parts H2.tf) (M := 12000) (loose := HeadN.names) (d := HandSHeadRun.topDef (OpenLaw.row PySem.Challenge.rw_heapcode_k36_places_items_and_heaps).prog 121) (kwd := []) (fun s => Hf.obLE_eq H2.parts H2.tf s)
    (by kernel_rfl) (fun s => by kernel_rfl) HeadN.run (by kernel_rfl) (by kernel_rfl) (by kernel_rfl) (by rfl) (by first | assumption | decide +kernel) (by decide +kernel) ⟨rfl, rfl, rfl, rfl, rfl, by decide +kernel⟩ ?hw ?hc
  case hw => w_witness2
  case hc =>
    refine LamX.walk_ofTsE (l := PySem.Challenge.rw_heapcode_k36_places_items_and_heaps) (n := 63) (k := 9) (x := "_law_script") (CX := fun _ => L2.CX0) rfl (by decide) (by kernel_rfl) ⟨rfl, by decide, by decide⟩ ?F (fun _ _ _ _ _ z => z)
    intro w mg fa h Y G hmg0
    obtain ⟨K, KX, c, tb⟩ := Y
    have hmg : mg ("law" : PySem.Str) = some (.ref fa) := by
      have e : (HandSHeadRun.topDef (OpenLaw.row PySem.Challenge.rw_heapcode_k36_places_items_and_heaps).prog 121).name = ("law" : PySem.Str) := by kernel_rfl
      rw [← e]
      exact hmg0
    obtain ⟨fd, hb, hF⟩ := H2.facts (P := (PySem.Challenge.rw_heapcode_k36_places_items_and_heaps).prog) (w := w) KX G hmg (H2.says_of c)
    have hm : (("law", none) : He.Defn) ∈ H2.tf := List.mem_cons_self
    refine ⟨K, KX, fd, [He.cT K ("law", none)], H2.spLaw36 K (He.cT K ("law", none)).2, fun p hp => ?_, fun p hp => ?_, fun p hp => ?_, hb, fun H a ns hl _ hH hS => ⟨a, ns, rfl, hS, hl, hH _ List.mem_cons_self, fun _ => rfl⟩, fun base KB NB hT => hF base KB NB (hT _ List.mem_cons_self)⟩
    · rw [List.mem_singleton.mp hp]
      exact tb.empty _ hm
    · rw [List.mem_singleton.mp hp]
      exact tb.out _ hm
    · rw [List.mem_singleton.mp hp]
      exact PySem.W.codeHd_of_K KX (tb.hd _ hm)
