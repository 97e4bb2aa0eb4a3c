import PyProof.Rows.All
import Wide.All
import OpenK.AllK
import Wide.FinOn
import HandS.ForMost
import HandS.ForExc
import HandS.ExcInit
import HandS.ExcField
import HandS.ClsMeth
import HandS.TryMany
import HandS.ExcIs
import HandS.IsInst
import HandS.Wide
import HandS.OwnEq
import HandS.Flow
import HandS.NoneIn
import HandS.Evl
import HandS.Style
import HandS.SortKw
import HandS.MakeKw
import HandS.Star
import HandS.Deep
import HandS.TupAny
import HandS.TupLen
import KE.GoesEnumKw
import KE.DataMinMax
import HandS.DictComp
import KE.KDictKeyed
import KE.KDictDisplayH
import KE.KDictCopyH
import HandS.HotCalls
import KE.DatumOrd
import HandS.Codes
import HandS.Conv
import HandS.Walk
import PySem.Challenge.RW_heapcode_k02_whole_lines_read
set_option Elab.async false
set_option linter.all false
set_option maxRecDepth 100000
set_option maxHeartbeats 4000000
/-! ## Errors over an own base class: Base.__init__(self, 'text') and fields -/
namespace Hx
open PySem PySem.Spec PyProof.Rows L2
section
variable {X : Cx} {e : Expr} {es : List Expr} {ta : TA} {p1 p2 pos : Pos}
/-- Base.__init__(self, ..), Base an own class at D that leaves __init__ to ValueError -/
theorem pe_binit {x : Str} {D : Addr} {pl : Sem Bool} (hD : X.mg x = some (.ref D)) (rd : ClX.CRead X.K D (.type "type"))
    (fc : PySem.W.findCls X.K (.ref D) (.type "type") "__init__" = some (.val (.builtin "ValueError.__init__"))) (ha : PA X (e :: es) ta) (hg : Gl X x := by rfl)
    (hdb : (x == ("__debug__" : Str)) = false := by decide)
    (hc : eval (.Call (.Attribute (.Name x p1) "__init__" p2) (e :: es) [] pos) X.env = (do
      let vv ← eval (.Name x p1) X.env
      standAt p2.atName
      let (g, hd) ← holding [vv] (getMethod vv "__init__" pl)
      callWith pos g hd (backTo pos (starEach (e :: es) X.env)) (backToKw pos (keywordEach [] X.env))) := by rfl)
    (hs : starEach (e :: es) X.env = (false, eval e X.env) :: starEach es X.env := by rfl) (hp : (backTo pos (starEach es X.env)).any (·.1) = false := by rfl) :
    PE X (.Call (.Attribute (.Name x p1) "__init__" p2) (e :: es) [] pos) (tVeI X.K ta) := by
  constructor
  intro pins s σ H Q I0 hq
  refine PySem.W.methodCall_KW (ld_glob I0 hg hD ?_ hdb) hc
  refine PySem.W.method_cls I0.kIn rd.ga ?_
  refine PySem.W.cls_value I0.kIn rd.rd fc rfl ?_
  refine PyProof.Rows.callWith_method1 (thn (ha.run pos pins _ σ H _ (I0.tok _) hq) ?_) hs hp
  rintro us s2 ⟨vs, H2, I2, rv, a, C, ws, rfl, hl, T, ea, q⟩
  cases rv with
  | @cons _ u0 _ ur ra rw' =>
    cases (show u0 = Value.ref a from ra)
    have hz : ur.length ≤ sizeLine := by rw [← Paired.length rw', sizeLine_eq]; omega
    exact oinit_ok T I2 ea hz fun s3 J => ⟨V.non, H2, J, rfl, q⟩
end
end Hx
/-! ## try with any number of clauses, named or not -/
namespace Hx
open PySem PySem.Spec PyProof.Rows L2
/-- a clause: the class, the slot of its name if it has one, the suite's reading -/
structure Cla where
  c : Value
  o : Option Nat
  ts : Addr → Value → Option Addr → TS
/-- behind the suite the name is gone -/
def endsOf (o : Option Nat) (D : Ends) : Ends := match o with
  | none => D
  | some i => { nx := fun ρ G => D.nx (ρ.set i none) G, rt := D.rt, bk := fun ρ G => D.bk (ρ.set i none) G, ct := fun ρ G => D.ct (ρ.set i none) G }
def named (o : Option Nat) (σ : L2.St) (a : Addr) : L2.St := match o with
  | none => σ
  | some i => σ.set i (some (.ref a))
def wAny (K : PySem.W.Frag) (Wout : WX) (D : Ends) : List Cla → WX
  | [] => Wout
  | k :: r => fun cls d σ H => ∃ b, PySem.W.exmOne K cls k.c = some b ∧ (b = true → ∀ a, H a = none → k.ts a cls d (endsOf k.o D) (named k.o σ a) H) ∧ (b = false → wAny K Wout D r cls d σ H)
inductive ClaOk (X : Cx) : List ExceptHandler → List Cla → Prop
  | nil : ClaOk X [] []
  | bare {x : Str} {c : Value} {ts : Addr → Value → Option Addr → TS} {s₀ : Stmt} {su : List Stmt} {np q : Pos} {hs : List ExceptHandler} {l : List Cla} (hc : Names X x c)
      (hsu : ∀ (a : Addr) (oe : Obj) (cls : Value) (d : Option Addr) (pn : List (Addr × Obj)), Zc cls d oe → (∃ vs, oe.data = .fields vs) → PSs (X.suite a ((a, oe) :: pn)) (s₀ :: su) (ts a cls d)) (r : ClaOk X hs l) :
      ClaOk X (.ExceptHandler (some (.Name x np)) none (s₀ :: su) q :: hs) (⟨c, none, ts⟩ :: l)
  | as {x n : Str} {i : Nat} {c : Value} {ts : Addr → Value → Option Addr → TS} {s₀ : Stmt} {su : List Stmt} {np q : Pos} {hs : List ExceptHandler} {l : List Cla} (hN : X.N.Nodup) (hi : X.N[i]? = some n) (hln : X.env.kindOf n = some .local) (hc : Names X x c)
      (hsu : ∀ (a : Addr) (oe : Obj) (cls : Value) (d : Option Addr) (pn : List (Addr × Obj)), Zc cls d oe → (∃ vs, oe.data = .fields vs) → PSs (X.suite a ((a, oe) :: pn)) (s₀ :: su) (ts a cls d)) (r : ClaOk X hs l) :
      ClaOk X (.ExceptHandler (some (.Name x np)) (some n) (s₀ :: su) q :: hs) (⟨c, some i, ts⟩ :: l)
section
variable {X : Cx} {body : List Stmt} {h₀ : ExceptHandler} {hds : List ExceptHandler} {l : List Cla} {pos : Pos} {tb : WX → TS} {Wout : WX}
theorem ps_try_any (hstk : X.stack = X.env :: X.outer) (hfrm : X.env.frame = some X.env.locals) (tkO : Takes X Wout)
    (hbody : ∀ (W : WX) (pn : List (Addr × Obj)) (xe : Value → Shared → Prop), Takes (X.tr pn xe) W → PassesOwn (model X.prog X.w) X.A X.env xe → PSs (X.tr pn xe) body (tb W))
    (hcl : ClaOk X (h₀ :: hds) l) : PS X (.Try body (h₀ :: hds) [] [] pos) (fun D σ H => tb (wAny X.K Wout D l) D σ H) := by
  constructor
  intro pins s σ H D I0 hrd
  have ok := I0.ok
  have hA : X.A.frames = some (X.env :: X.outer) := by rw [ok.frames, hstk]
  refine wpAny_Try_except ?_
  refine wpAny_mono ((hbody (wAny X.K Wout D l) (X.pn ++ pins) (fun e t1 => wpAny (model X.prog X.w) X.A (noteFrame e X.env) (fun _ t2 =>
    wpAny (model X.prog X.w) X.A (setFlight e none) (fun _ t3 =>
      wpAny (model X.prog X.w) X.A (handleBy e X.env (h₀ :: hds)) (SP X pins D) X.xe t3) X.xe t2) X.xe t1) ?raised PassesOwn.looking).run [] s σ H D (I0.toTry _) hrd) ?through (fun _ _ z => z)
  case through =>
    intro f t hsp
    cases f with
    | next => obtain ⟨ρ, G, J, q⟩ := hsp; exact wpAny_execs_nil ⟨ρ, G, J.ofTry ok, q⟩
    | brk => obtain ⟨ρ, G, J, q⟩ := hsp; exact ⟨ρ, G, J.ofTry ok, q⟩
    | cont => obtain ⟨ρ, G, J, q⟩ := hsp; exact ⟨ρ, G, J.ofTry ok, q⟩
    | ret u => obtain ⟨v, ρ, G, J, r, q⟩ := hsp; exact ⟨v, ρ, G, J.ofTry ok, r, q⟩
  case raised =>
    rintro u t ⟨a, B, sI, pins', ρ, G, cls, d, rfl, JT, nb, up, sky0, na, os, ag, hw⟩
    have J : Inv X pins ρ G sI := JT.ofTry ok
    have sky : Sky B (X.env :: X.outer) a (Zc cls d) X.env.locals t.heap := by rw [← hstk]; exact sky0
    show wpAny (model X.prog X.w) X.A (noteFrame (.ref a) X.env) _ _ _
    refine Sky.land Zc.steady hA hfrm sky fun g3 fl up3 => ?_
    have J3 : Inv X pins ρ G { t with heap := g3 } := J.landed nb fl.1 (up.trans up3) os ag
    obtain ⟨ob, vz, hob, hz, hdz⟩ := fl.there
    have nIn : ∀ L ∈ frs (X.env :: X.outer), a ≠ L := by
      intro L hL e
      subst e
      obtain ⟨_, o2, e2, nf⟩ := fl.2.2.1.mem hL
      rw [hob] at e2
      cases e2
      exact nf _ hdz
    have nL : a ≠ X.env.locals := nIn _ (List.mem_filterMap.mpr ⟨X.env, List.mem_cons_self, hfrm⟩)
    have nF : a ∉ X.fs := fun hm => by
      obtain ⟨e, he, q⟩ := List.mem_filterMap.mp hm
      exact nIn a (List.mem_filterMap.mpr ⟨e, List.mem_cons_of_mem _ he, q⟩) rfl
    have S3 := J3.suite hob hdz na nL nF
    have LT : PySem.W.Looks (model X.prog X.w) g3 (typeOf (.ref a)) cls := fun A Q E s k q => wpAny_typeOf_ref (k _ _ hob) (by rw [hz.1]; exact q)
    -- the class that a clause names is found
    have find : ∀ {x : Str} {c : Value} {np : Pos}, Names X x c → ∀ {Q E : Value → Shared → Prop}, Q c { t with heap := g3 } → wpAny (model X.prog X.w) (X.A.mark (some (.ref a))) (eval (.Name x np) X.env) Q E { t with heap := g3 } := by
      rintro x c np ⟨hg, hdb, hm | ⟨hm, hv, hnn⟩⟩ Q E q
      · exact ld_glob (X := X.suite a ((a, ob) :: (X.pn ++ pins))) S3 hg hm q hdb
      · exact ld_blt (X := X.suite a ((a, ob) :: (X.pn ++ pins))) S3 hg hm hv q hnn hdb
    have run : ∀ {hs : List ExceptHandler} {m : List Cla}, ClaOk X hs m → wAny X.K Wout D m cls d ρ G →
        wpAny (model X.prog X.w) X.A (handleBy (.ref a) X.env hs) (SP X pins D) X.xe { t with heap := g3 } := by
      intro hs m hk
      induction hk with
      | nil =>
        intro hw
        refine wpAny_handleBy_nil ?_
        obtain ⟨_, _, _, oe, vs, T, oT, ts', he, _, hd', h1, _⟩ := id fl
        unfold PySem.passOn
        refine wpAny_bind (wpAny_field he hd' h1 ?_)
        rw [if_neg (show ¬ ((Value.ref T == Value.none) = true) from by simp)]
        have off : wpAny (model X.prog X.w) X.A (setFlight (.ref a) X.env.frame) (fun _ t4 => wpAny (model X.prog X.w) X.A (throw (.ref a) : Sem Flow) (SP X pins D) X.xe t4) X.xe { t with heap := g3 } := by
          rw [hfrm]
          refine HandSPX.setFlight_upZ fl fun g4 held up4 => wpAny_throw (tkO _ _ ?_)
          exact ⟨a, B, sI, pins, ρ, G, cls, d, rfl, J, nb, (up.trans up3).trans up4, .inr (.inr (by rw [hstk]; exact held)), na, os, ag, hw⟩
        first
          | exact wpAny_bind (wpAny_pure (wpAny_bind off))
          | exact wpAny_bind off
      | bare hc hsu r ih =>
        rintro ⟨b, hb1, hyes, hno⟩
        refine wpAny_handleBy_cons (codeAny_handlers_test ?_) (by intro q; cases q)
        refine find hc ((PySem.W.exm_one (M := model X.prog X.w) J3.kIn LT hb1).here ?_)
        cases b with
        | false => exact ih (hno rfl)
        | true =>
          refine codeAny_handlers_suite (HandSPX.lands_againZ fl fun g4 fl4 up4 => ?_)
          have J4 : Inv X pins ρ G { t with heap := g4 } := J.landed nb fl4.1 ((up.trans up3).trans up4) os ag
          obtain ⟨o4, v4, he4, hz4, hd4⟩ := fl4.there
          refine wpAny_mono ((hsu a o4 cls d (X.pn ++ pins) hz4 ⟨_, hd4⟩).run [] _ _ G _ (J4.suite he4 hd4 na nL nF) (hyes rfl a na)) (fun f t6 hsp => ?_) (fun _ _ z => False.elim z)
          cases f with
          | next => obtain ⟨ρ6, G6, S6, q6⟩ := hsp; exact ⟨ρ6, G6, S6.unsuite ok, q6⟩
          | brk => obtain ⟨ρ6, G6, S6, q6⟩ := hsp; exact ⟨ρ6, G6, S6.unsuite ok, q6⟩
          | cont => obtain ⟨ρ6, G6, S6, q6⟩ := hsp; exact ⟨ρ6, G6, S6.unsuite ok, q6⟩
          | ret u => obtain ⟨v6, ρ6, G6, S6, r6, q6⟩ := hsp; exact ⟨v6, ρ6, G6, S6.unsuite ok, r6, q6⟩
      | @as x n i c ts s₀ su np q hs l hN hi hln hc hsu r ih =>
        rintro ⟨b, hb1, hyes, hno⟩
        refine wpAny_handleBy_cons (codeAny_handlers_test ?_) (by intro q; cases q)
        refine find hc ((PySem.W.exm_one (M := model X.prog X.w) J3.kIn LT hb1).here ?_)
        cases b with
        | false => exact ih (hno rfl)
        | true =>
          refine codeAny_handlers_suite_as (HandSPX.lands_againZ fl fun g4 fl4 up4 => ?_)
          have J4 : Inv X pins ρ G { t with heap := g4 } := J.landed nb fl4.1 ((up.trans up3).trans up4) os ag
          obtain ⟨o4, v4, he4, hz4, hd4⟩ := fl4.there
          refine store_ok (X := X.suite a ((a, o4) :: (X.pn ++ pins))) (v := .ref a) (J4.suite he4 hd4 na nL nF) hN hi (.inl hln) rfl (fun t5 S5 => ?_) (.inr hln)
          refine wpAny_mono ((hsu a o4 cls d (X.pn ++ pins) hz4 ⟨_, hd4⟩).run [] t5 _ G _ S5 (hyes rfl a na)) (fun f t6 hsp => ?_) (fun _ _ z => False.elim z)
          cases f with
          | next => obtain ⟨ρ6, G6, S6, q6⟩ := hsp; exact gone_ok (S6.unsuite ok) hN hi hln fun t7 J7 => ⟨_, _, J7, q6⟩
          | brk => obtain ⟨ρ6, G6, S6, q6⟩ := hsp; exact gone_ok (S6.unsuite ok) hN hi hln fun t7 J7 => ⟨_, _, J7, q6⟩
          | cont => obtain ⟨ρ6, G6, S6, q6⟩ := hsp; exact gone_ok (S6.unsuite ok) hN hi hln fun t7 J7 => ⟨_, _, J7, q6⟩
          | ret u => obtain ⟨v6, ρ6, G6, S6, r6, q6⟩ := hsp; exact gone_ok (S6.unsuite ok) hN hi hln fun t7 J7 => ⟨_, _, _, J7, r6, q6⟩
    exact run hcl hw
end
end Hx
/-! ## isinstance of an error that has its own dict -/
namespace Hx
open PySem PySem.Spec PySem.Calls PyProof.Rows PySem.W
section
variable {prog : Program} {w : World} {A : Around} {E : Value → Shared → Prop} {s : Shared} {K : Frag} {x D : Addr} {ox : Obj} {od : Option Obj}
theorem bind_found {C : Addr} {nm : Str} {a g : Value} (hc : (clsIn K C).isSome = true) (ha : findIn K (.ref C) nm = some (some a)) (hg : specialIn K a "__get__" = some (some g)) (ht : takesIn K a = some true) :
    findObj K C od nm = some (.bind g a) := by
  obtain ⟨cd, hcd⟩ := Option.isSome_iff_exists.mp hc
  show (clsIn K C).bind _ = _
  rw [hcd, Option.bind_some, ha]
  simp [hg, ht]
theorem class_of_err {Q : Option Value → Shared → Prop} (T : L2.ExcC K D) (X : K.In s.heap) (I : InstAt s.heap x ox D od) (h : Q (some (.ref D)) { s with toks := s.toks + 1 }) :
    wpAny (model prog w) A (getAttr? (.ref x) "__class__") Q E s := by
  have hf : findObj K D od "__class__" = some (.bind (.builtin "getset_descriptor.__get__") (.builtin "object.__class__")) :=
    bind_found (by obtain ⟨cd, hc, _⟩ := any_some T.hd; rw [hc]; rfl) T.ha T.hn T.ht
  obtain ⟨hp, gs, dr, tk, os⟩ := s
  have K0 := I.type (M := model prog w)
  have K1 := looks_findIn (M := model prog w) X T.hg
  have K2 := looks_findIn (M := model prog w) X T.hk
  have K3 := looks_find (M := model prog w) X I hf
  have isB : Looks (model prog w) hp (isInstance (.ref x) (.type "BaseException")) true := K0.andThen (looks_subIn X T.hs)
  have ne2 : (Value.builtin "BaseException.__getattribute__" == Value.builtin "object.__getattribute__") = false := by decide +kernel
  have ne1 : (onTheHeap (Value.ref D) && Value.builtin "BaseException.__getattribute__" == Value.builtin "object.__getattribute__") = false := by rw [ne2]; rfl
  have ne0 : (false && onTheHeap (Value.builtin "BaseException.__getattribute__")) = false := rfl
  unfold getAttr? getAttrBy? getAttrBy
  refine wpAny_bind (wpAny_mkText (wpAny_bind (wpAny_attempt (wpAny_holding (wpAny_bind (K0.at (wpAny_bind (K1.at ?_))))))))
  show wpAny _ _ (if (onTheHeap (Value.ref D) && Value.builtin "BaseException.__getattribute__" == Value.builtin "object.__getattribute__") = true then _ else _) _ _ _
  rw [ne1, if_neg Bool.false_ne_true]
  unfold getAttrByItsOwn hookBefore
  refine wpAny_bind ?_
  rw [if_pos (show onTheHeap (Value.ref D) = true from rfl)]
  refine K2.at (wpAny_bind (wpAny_attempt (wpAny_holding ?_)))
  unfold callGetattribute
  rw [ne0, if_neg Bool.false_ne_true]
  unfold boundAndCalled
  rw [F.excAttr_ValueError.ga.bind (.ref x)]
  refine wpAny_bind (wpAny_pure ?_)
  show wpAny _ _ (call (.builtin "BaseException.__getattribute__") [.ref x, .str "__class__" tk]) _ _ _
  refine wpAny_call (codeAny_call_builtin F.excAttr_ValueError.ga.plain F.entry_bexc_ga (@check_slot (model prog w) _ _ ⟨hp, gs, dr, tk + 1, os⟩ "BaseException.__getattribute__" "BaseException" "__getattribute__" (.ref x) [.str "__class__" tk] [] _ (by decide +kernel) (by decide +kernel) isB (F.args_bexc_ga (.ref x) (.str "__class__" tk)) ?_))
  unfold Builtin.«object.__getattribute__»
  refine wpAny_bind (wpAny_of_eq (a := ((Value.ref x : Value), [Value.str "__class__" tk])) (by first | rfl | (simp only [slotArgs]; rfl)) (wpAny_bind (wpAny_pure (wpAny_bind (K0.at (wpAny_bind (K3.at ?_)))))))
  show wpAny _ _ (holding [Value.builtin "object.__class__"] (call (.builtin "getset_descriptor.__get__") [.builtin "object.__class__", .ref x, .ref D]) >>= ret) _ _ _
  refine wpAny_bind (wpAny_holding (wpAny_call (class_get (s := ⟨hp, gs, dr, tk + 1, os⟩) (ox := ox) (od := od) X I T.hm (wpAny_pure ?_))))
  show wpAny _ _ (handedOut (.ref D)) _ _ _
  rw [handedOut_of (v := .ref D) rfl]
  first
    | exact wpAny_pure (wpAny_pure h)
    | exact wpAny_pure h
    | exact wpAny_pure (wpAny_bind (wpAny_pure (wpAny_pure h)))
theorem kit_err (T : L2.ExcC K D) : KitX K (.ref x) (.ref D) (fun h => ∃ ox od, InstAt h x ox D od) where
  ty := fun _ _ _ ⟨_, _, I⟩ => I.type
  it := by
    intro M h X _ A' Q' E' s' k q
    obtain ⟨cd, hc, _⟩ := any_some T.hd
    unfold clsIn at hc
    split at hc
    · rename_i _ _ _ _ ho
      unfold isType loadHead
      exact wpAny_bind (wpAny_loadPart (k _ _ (X _ _ ho)) (wpAny_pure q))
    · cases hc
  ne := by
    intro h tp dd its n sl X htp
    obtain ⟨cd, hc, _⟩ := any_some T.hd
    refine Bool.eq_false_iff.mpr fun q => ?_
    cases (Value.ref.inj (beq_iff_eq.mp q) : D = tp)
    unfold clsIn at hc
    split at hc
    · rename_i _ _ _ _ ho
      cases ((X _ _ ho).symm.trans htp)
    · cases hc
  ca := fun X ⟨_, _, I⟩ k => class_of_err T X I k
end
end Hx
namespace Hx
open PySem PySem.Spec PyProof.Rows L2
/-- the error at a, of the class at D, with a dict at d or with none, as the heap has it -/
def errAt (D a : Addr) (d : Option Addr) (oe : Obj) : Prop := Zc (.ref D) d oe ∧ ∃ vs, oe.data = .fields vs
/-- isinstance(e, c), e the error whose object is pinned -/
def rIsD (K : PySem.W.Frag) (D a : Addr) (d : Option Addr) : List V → Hp → VK → Prop := fun xs H Q => ∃ (c : V) (cv : Value) (b : Bool), xs = [.ref a, c] ∧ ClsV c cv ∧ (∀ z, d = some z → ∃ fs, H z = some (.xd fs)) ∧ PySem.W.kitOne K (.ref D) cv = some b ∧ Q (.bl b) H
def rIsDT (K : PySem.W.Frag) (D a : Addr) (d : Option Addr) : List V → Hp → VK → Prop := fun xs H Q => ∃ (tp : Addr) (cs : List V) (us : List Value) (b : Bool), xs = [.ref a, .ref tp] ∧ H tp = some (.tup cs) ∧ Paired ClsV cs us ∧ (∀ z, d = some z → ∃ fs, H z = some (.xd fs)) ∧
  PySem.W.kitAny K (.ref D) us = some b ∧ Q (.bl b) H
section
variable {X : Cx} {a D : Addr} {d : Option Addr} {oe : Obj}
theorem inst_err {pins : List (Addr × Obj)} {σ : L2.St} {H : Hp} {s : Shared} (I : Inv X pins σ H s) (hp : (a, oe) ∈ X.pn ++ pins) (he : errAt D a d oe) (hd : ∀ z, d = some z → ∃ fs, H z = some (.xd fs)) :
    ∃ ox od, PySem.W.InstAt s.heap a ox D od := by
  obtain ⟨hget, _⟩ := I.pin (a, oe) hp
  obtain ⟨⟨h1, h2⟩, vs, hv⟩ := he
  obtain ⟨oc, odd, oda, osl⟩ := oe
  dsimp only at h1 h2 hv
  subst h1 h2 hv
  cases odd with
  | none => exact ⟨_, none, hget, rfl, rfl, trivial⟩
  | some z =>
    obtain ⟨fs, hz⟩ := hd z rfl
    obtain ⟨mA, ⟨o, es, ep, e1, e2⟩, _⟩ := (show ObjOk X.prog X.w H s.heap z (.xd fs) from I.hok z _ hz)
    exact ⟨_, some o, hget, rfl, rfl, e1⟩
theorem call_isD (T : ExcC X.K D) (hp : (a, oe) ∈ X.pn) (he : errAt D a d oe) : CallR X (.builtin "isinstance") (rIsD X.K D a d) := by
  intro pins s σ H xs us Q I r h
  obtain ⟨c, cv, b, rfl, k, hd, e, q⟩ := h
  obtain ⟨u1, u2, rfl, r1, r2⟩ := vals2 r
  cases (show u1 = Value.ref a from r1)
  cases k.eq r2
  exact PySem.W.kia_one (kit_err T) I.kIn (inst_err I (List.mem_append_left _ hp) he hd) e (fun z => nomatch z) fun tk => ⟨.bl b, H, I.tok tk, rfl, q⟩
theorem call_isDT (T : ExcC X.K D) (hp : (a, oe) ∈ X.pn) (he : errAt D a d oe) : CallR X (.builtin "isinstance") (rIsDT X.K D a d) := by
  intro pins s σ H xs us Q I r h
  obtain ⟨tp, cs, ws, b, rfl, hT, k, hd, e, q⟩ := h
  obtain ⟨u1, u2, rfl, r1, r2⟩ := vals2 r
  cases (show u1 = Value.ref a from r1)
  cases (show u2 = Value.ref tp from r2)
  obtain ⟨_, its, rv, o, h1, h2, n, h3⟩ := (show ObjOk X.prog X.w H s.heap tp (.tup cs) from I.hok tp _ hT)
  cases ClsV.all k rv
  obtain ⟨oc, odd, dt, sl⟩ := o
  simp only at h2 h3
  subst h2 h3
  exact PySem.W.kia_tup (kit_err T) I.kIn (inst_err I (List.mem_append_left _ hp) he hd) h1 e (fun z => nomatch z) fun tk => ⟨.bl b, H, I.tok tk, rfl, q⟩
end
end Hx
namespace Hx
open PySem PySem.Spec PyProof.Rows L2
/-- what the base class of the errors must have, at D -/
structure BaseT (K : PySem.W.Frag) (mg : Str → Option Value) (D : Addr) : Prop where
  gB : mg "HeapError" = some (.ref D)
  rdB : ClX.CRead K D (.type "type")
  fcB : PySem.W.findCls K (.ref D) (.type "type") "__init__" = some (.val (.builtin "ValueError.__init__"))
/-- __init__ without, with one, with three fields -/
def spI0 (K : PySem.W.Frag) : Sp := fun vs H Q _ => ∃ (a C : Addr), vs = [.ref a] ∧ OexC K C ∧ H a = some (exo a C none) ∧ Q .non H
def spI1 (K : PySem.W.Frag) (f : Str) : Sp := fun vs H Q _ => ∃ (a C : Addr) (v : V), vs = [.ref a, v] ∧ OexC K C ∧ PySem.W.findIn K (.ref C) f = some none ∧ H a = some (exo a C none) ∧
  ∀ d, H d = none → d ≠ a → Q .non (upd (upd H d (exd d [(f, v)])) a (exo a C (some d)))
def spI3 (K : PySem.W.Frag) (f g k : Str) : Sp := fun vs H Q _ => ∃ (a C : Addr) (u v z : V), vs = [.ref a, u, v, z] ∧ OexC K C ∧ PySem.W.findIn K (.ref C) f = some none ∧ PySem.W.findIn K (.ref C) g = some none ∧ PySem.W.findIn K (.ref C) k = some none ∧
  H a = some (exo a C none) ∧ ∀ d, H d = none → d ≠ a → Q .non (upd (upd (upd (upd H d (exd d [(f, u)])) a (exo a C (some d))) d (exd d [(g, v), (f, u)])) d (exd d [(k, z), (g, v), (f, u)]))
end Hx
/-! ## raising such errors -/
namespace Hx
open PySem PySem.Spec PyProof.Rows L2
/-- what is known of an error class: its name x, at C, its __init__ at fI -/
structure ExT (K : PySem.W.Frag) (mg : Str → Option Value) (x : Str) (C fI : Addr) : Prop where
  oex : OexC K C
  gC : mg x = some (.ref C)
  iC : PySem.W.findIn K (.ref C) "__init__" = some (some (.ref fI))
  tI : PySem.W.typeIn K (.ref fI) = some (.type "function")
theorem drop_new {H1 : Hp} {a d C : Addr} {fs gs : List (Str × V)} (na : H1 a = none) (nad : d ≠ a) :
    upd (del (upd (upd H1 d (exd d fs)) a (exo a C (some d))) a) d (.xd gs) = upd H1 d (.xd gs) := by
  funext b
  by_cases hb : b = d
  · rw [hb, upd_same, upd_same]
  · rw [upd_ne hb, upd_ne hb]
    by_cases ha : b = a
    · rw [ha, del_same, na]
    · rw [del_ne ha, upd_ne ha, upd_ne hb]
theorem mk1 {K : PySem.W.Frag} {H1 : Hp} {C : Addr} {f : Str} {v : V} {Q : XK} (T : OexC K C) (nf : PySem.W.findIn K (.ref C) f = some none) (h : ∀ d, H1 d = none → Q (.ref C) (some d) (upd H1 d (.xd [(f, v)]))) :
    ([v] : List V).length ≤ 1000 ∧ ∀ a, H1 a = none → spI1 K f (.ref a :: ([v] ++ [])) (upd H1 a (exo a C none))
      (fun r H2 => r = .non ∧ ∃ (d : Addr) (fs : List (Str × V)), H2 a = some (exo a C (some d)) ∧ H2 d = some (exd d fs) ∧ H1 d = none ∧ Q (.ref C) (some d) (upd (del H2 a) d (.xd fs))) (fun _ _ _ => False) := by
  refine ⟨by show 1 ≤ 1000; decide, fun a na => ⟨a, C, v, rfl, T, nf, upd_same, fun d nd ne => ⟨rfl, d, [(f, v)], upd_same, ?_, ?_, ?_⟩⟩⟩
  · rw [upd_ne ne, upd_same]
  · rw [upd_ne ne] at nd
    exact nd
  · rw [upd_ne ne] at nd
    have e : upd (del (upd (upd (upd H1 a (exo a C none)) d (exd d [(f, v)])) a (exo a C (some d))) a) d (.xd [(f, v)]) = upd H1 d (.xd [(f, v)]) := by
      funext b
      by_cases hb : b = d
      · rw [hb, upd_same, upd_same]
      · rw [upd_ne hb, upd_ne hb]
        by_cases ha : b = a
        · rw [ha, del_same, na]
        · rw [del_ne ha, upd_ne ha, upd_ne hb, upd_ne ha]
    rw [e]
    exact h d nd
theorem mk3 {K : PySem.W.Frag} {H1 : Hp} {C : Addr} {f g k : Str} {u v z : V} {Q : XK} (T : OexC K C) (n1 : PySem.W.findIn K (.ref C) f = some none) (n2 : PySem.W.findIn K (.ref C) g = some none) (n3 : PySem.W.findIn K (.ref C) k = some none)
    (h : ∀ d, H1 d = none → Q (.ref C) (some d) (upd H1 d (.xd [(k, z), (g, v), (f, u)]))) :
    ([u, v, z] : List V).length ≤ 1000 ∧ ∀ a, H1 a = none → spI3 K f g k (.ref a :: ([u, v, z] ++ [])) (upd H1 a (exo a C none))
      (fun r H2 => r = .non ∧ ∃ (d : Addr) (fs : List (Str × V)), H2 a = some (exo a C (some d)) ∧ H2 d = some (exd d fs) ∧ H1 d = none ∧ Q (.ref C) (some d) (upd (del H2 a) d (.xd fs))) (fun _ _ _ => False) := by
  refine ⟨by show 3 ≤ 1000; decide, fun a na => ⟨a, C, u, v, z, rfl, T, n1, n2, n3, upd_same, fun d nd ne => ⟨rfl, d, [(k, z), (g, v), (f, u)], ?_, upd_same, ?_, ?_⟩⟩⟩
  · rw [upd_ne ne.symm, upd_ne ne.symm, upd_same]
  · rw [upd_ne ne] at nd
    exact nd
  · rw [upd_ne ne] at nd
    have e : upd (del (upd (upd (upd (upd (upd H1 a (exo a C none)) d (exd d [(f, u)])) a (exo a C (some d))) d (exd d [(g, v), (f, u)])) d (exd d [(k, z), (g, v), (f, u)])) a) d (.xd [(k, z), (g, v), (f, u)]) = upd H1 d (.xd [(k, z), (g, v), (f, u)]) := by
      funext b
      by_cases hb : b = d
      · rw [hb, upd_same, upd_same]
      · rw [upd_ne hb, upd_ne hb]
        by_cases ha : b = a
        · rw [ha, del_same, na]
        · rw [del_ne ha, upd_ne hb, upd_ne hb, upd_ne ha, upd_ne hb, upd_ne ha]
    rw [e]
    exact h d nd
/-- C(), the error has no dict -/
def tMk0 (C : Addr) : L2.St → Hp → XK → Prop := fun _ H Q => Q (.ref C) none H
section
variable {X : Cx} {p pos : Pos}
theorem pmk_none {x : Str} {C fI : Addr} {k : Nat} {fd : FuncData} (T : ExT X.K X.mg x C fI) (F1 : FnOk X.prog X.w X.K X.mg X.base CX0 k fI fd ["self"] (spI0 X.K)) (hr : Room (k + 1) X.A) (hb : Binds X.K fd ["self"] []) (hg : Gl X x := by rfl)
    (hdb : (x == ("__debug__" : Str)) = false := by decide) : PMk X (.Call (.Name x p) [] [] pos) (tMk0 C) := by
  intro pins s σ H Q I h
  obtain ⟨nm, q, N, bs, bm, sn, sub, ab, col, dd, k0, k1, k2, k3, k5, hC, hbm⟩ := T.oex.cls
  refine wpAny_Call_Name_kw (ld_glob I hg T.gC ?_ hdb)
  refine PySem.W.callWith_K0 I.kIn T.oex.kC ?_
  show wpAny _ _ (call (.ref C) []) _ _ _
  obtain ⟨hp, g, dr, tk, os⟩ := s
  have na : H (hp.objs.size + 1) = none := I.hok.fresh (Nat.le_succ _)
  have stay : ∀ b o, hp.get? b = some o → ((hp.push (PySem.W.kdv_tup [])).push (PySem.HandSPX.excO C hp.objs.size)).get? b = some o := fun b o e => Heap.get?_push_of_some _ (Heap.get?_push_of_some _ e)
  have atE : ((hp.push (PySem.W.kdv_tup [])).push (PySem.HandSPX.excO C hp.objs.size)).get? (hp.objs.size + 1) = some (PySem.HandSPX.excO C hp.objs.size) := by heap_get
  have I2 := I.laid (t' := tk) (a := hp.objs.size + 1) (o := exo (hp.objs.size + 1) C none) stay (Nat.le_succ _) (exo_ok atE)
  have hq : spI0 X.K [.ref (hp.objs.size + 1)] (upd H (hp.objs.size + 1) (exo (hp.objs.size + 1) C none)) (fun v H2 => v = .non ∧ H2 = upd H (hp.objs.size + 1) (exo (hp.objs.size + 1) C none)) (fun _ _ _ => False) :=
    ⟨_, C, rfl, T.oex, upd_same, rfl, rfl⟩
  have bd := hb _ [Value.ref (hp.objs.size + 1)] I2.kIn rfl
  refine wpAny_call (PySem.HandSPX.call_own F.excBase_ValueError (fun Y => PySem.HandSPX.refsVE_contains Y bm hbm) (I.kIn _ _ hC) (PySem.W.looks_findIn I.kIn T.iC) (fun self => PySem.W.bind_fn I.kIn self T.tI) (Nat.zero_le _)
    (codeAny_mono (F1.run _ X.stack _ _ ⟨[Value.ref (hp.objs.size + 1)], []⟩ [Value.ref (hp.objs.size + 1)] [V.ref (hp.objs.size + 1)] _ (fun _ _ _ => False) (hr.make C [] []) (I2.env0.make C [] []) bd (.cons (show L2.RelV (V.ref (hp.objs.size + 1)) (Value.ref (hp.objs.size + 1)) from rfl) .nil) hq) fun r s' hq' => ?_))
  cases r with
  | error er => exact hq'.elim
  | ok fl =>
    cases fl with
    | next => exact False.elim hq'
    | brk => exact False.elim hq'
    | cont => exact False.elim hq'
    | ret u =>
      obtain ⟨v, H2, os2, bare2, un, hok, rv, ev, eH⟩ := hq'
      subst ev eH
      obtain ⟨h2, g2, d2, t2, os'⟩ := s'
      have ea : upd H (hp.objs.size + 1) (exo (hp.objs.size + 1) C none) (hp.objs.size + 1) = some (exo (hp.objs.size + 1) C none) := upd_same
      obtain ⟨t0, hoe⟩ := exo_at hok ea
      obtain ⟨G, gi, gn⟩ := restrict h2 fun b => decide (b ≠ hp.objs.size + 1)
      have gk : ∀ b, b ≠ hp.objs.size + 1 → G.get? b = h2.get? b := fun b hb => gi b (decide_eq_true hb)
      have ge : G.get? (hp.objs.size + 1) = none := gn _ (by simp)
      have old : ∀ {b : Addr} {o : Obj}, hp.get? b = some o → b ≠ hp.objs.size + 1 := fun z => Nat.ne_of_lt (Nat.lt_succ_of_lt (Heap.lt_size z))
      have U : Un (frs X.stack) [] H H hp G := by
        refine ⟨fun b o z n hf hx => ?_, fun b o z n hf hx => ?_, fun b o z n _ => n, fun b o z hx => ?_, fun _ _ z => z, fun _ _ _ z => z, fun b ps z => ⟨#[], by rw [z]; simp⟩⟩
        · rw [gk b (old z)]; exact un.keep b o (stay b o z) (by rw [upd_ne (old z)]; exact n) hf hx
        · rw [gk b (old z)]; exact un.slot b o (stay b o z) (by rw [upd_ne (old z)]; exact n) hf hx
        · rw [gk b (old z)]; exact un.there b o (stay b o z) hx
      have hokG : HOk X.prog X.w H G := fun b o z => by
        have nb : b ≠ hp.objs.size + 1 := ne_of_none z na
        refine (hok b o (by rw [upd_ne nb]; exact z)).stay (fun c v hc y => ?_) (fun c hc => ?_) (fun c xs hc => ?_)
        · have nc : c ≠ hp.objs.size + 1 := by
            rcases hc with hc | hc
            · rw [hc]; exact nb
            · exact at_ne ea hc exo_own
          rw [gk c nc]; exact y
        · have nc := at_ne ea hc exo_own
          rw [upd_ne nc] at hc; exact hc
        · have nc := at_ne ea hc exo_tup
          rw [upd_ne nc] at hc; exact hc
      have J : Inv X pins σ H ⟨G, g2, d2, t2, os'⟩ := I.call' (ch := []) os2 U hokG bare2 (fun b z => absurd z (by simp))
      refine ⟨rv, hp.objs.size + 1, _, _, ⟨G, g2, d2, t2, os'⟩, H, .ref C, none, rfl, J, fun b o z => ?_, ge, hoe, ⟨rfl, rfl⟩, rfl, rfl, na, rfl, bare2, raises_own T.oex.exC T.oex.tyC, h⟩
      by_cases hb : b = hp.objs.size + 1
      · rw [hb, ge] at z; cases z
      · exact (gk b hb).symm.trans z
end
end Hx
/-! ## The bag of draws -/
namespace Hx
open PySem PySem.Spec PyProof.Rows L2
abbrev kC : Key := Sum.inr ("cells" : Str)
abbrev kA : Key := Sum.inr ("at" : Str)
abbrev kD : Key := Sum.inr ("digits" : Str)
abbrev kN : Key := Sum.inr ("count" : Str)
abbrev kF : Key := Sum.inr ("fold" : Str)
def bagK (l : Addr) (i dg ct fd : Int) : List (Key × V) := [(kC, .ref l), (kA, .int i), (kD, .int dg), (kN, .int ct), (kF, .int fd)]
theorem nCA : ¬ kC = kA := by decide +kernel
theorem nCD : ¬ kC = kD := by decide +kernel
theorem nCN : ¬ kC = kN := by decide +kernel
theorem nCF : ¬ kC = kF := by decide +kernel
theorem nAD : ¬ kA = kD := by decide +kernel
theorem nAN : ¬ kA = kN := by decide +kernel
theorem nAF : ¬ kA = kF := by decide +kernel
theorem nDN : ¬ kD = kN := by decide +kernel
theorem nDF : ¬ kD = kF := by decide +kernel
theorem nNF : ¬ kN = kF := by decide +kernel
theorem strN {x y : Str} (h : ¬ (Sum.inr x : Key) = Sum.inr y) : ¬ x = y := fun e => h (by rw [e])
theorem strN' {x y : Str} (h : ¬ (Sum.inr x : Key) = Sum.inr y) : ¬ y = x := fun e => h (by rw [e])
section
variable (l : Addr) (i dg ct fd z : Int)
theorem gC : valV (bagK l i dg ct fd) kC = some (.ref l) := valV_pos rfl
theorem gA : valV (bagK l i dg ct fd) kA = some (.int i) := by unfold bagK; rw [valV_neg nCA, valV_pos rfl]
theorem gD : valV (bagK l i dg ct fd) kD = some (.int dg) := by unfold bagK; rw [valV_neg nCD, valV_neg nAD, valV_pos rfl]
theorem gN : valV (bagK l i dg ct fd) kN = some (.int ct) := by unfold bagK; rw [valV_neg nCN, valV_neg nAN, valV_neg nDN, valV_pos rfl]
theorem gF : valV (bagK l i dg ct fd) kF = some (.int fd) := by unfold bagK; rw [valV_neg nCF, valV_neg nAF, valV_neg nDF, valV_neg nNF, valV_pos rfl]
theorem pA : putK (bagK l i dg ct fd) kA (.int z) = bagK l z dg ct fd := by
  unfold putK
  rw [valV_any, gA, Option.isSome_some, if_pos rfl]
  simp [bagK, strN nCA, strN' nAD, strN' nAN, strN' nAF]
theorem pD : putK (bagK l i dg ct fd) kD (.int z) = bagK l i z ct fd := by
  unfold putK
  rw [valV_any, gD, Option.isSome_some, if_pos rfl]
  simp [bagK, strN nCD, strN nAD, strN' nDN, strN' nDF]
theorem pN : putK (bagK l i dg ct fd) kN (.int z) = bagK l i dg z fd := by
  unfold putK
  rw [valV_any, gN, Option.isSome_some, if_pos rfl]
  simp [bagK, strN nCN, strN nAN, strN nDN, strN' nNF]
theorem pF : putK (bagK l i dg ct fd) kF (.int z) = bagK l i dg ct z := by
  unfold putK
  rw [valV_any, gF, Option.isSome_some, if_pos rfl]
  simp [bagK, strN nCF, strN nAF, strN nDF, strN nNF]
end
/-- a bag stands at p, n draws were taken -/
def Bag (H : Hp) (p : Addr) (n : Nat) : Prop := ∃ (l : Addr) (ns : List Int) (i dg fd : Int), H p = some (.dK (bagK l i dg (n : Int) fd)) ∧ H l = some (.lst (ns.map V.int)) ∧ ns.length ≤ 63 ∧ 0 ≤ i ∧ 0 ≤ dg ∧ 0 ≤ fd ∧ fd < 2147483587
theorem Bag.keep {H H' : Hp} {p : Addr} {n : Nat} (b : Bag H p n) (e : Same H H') : Bag H' p n := by
  obtain ⟨l, ns, i, dg, fd, h1, h2, q⟩ := b
  exact ⟨l, ns, i, dg, fd, e _ _ h1, e _ _ h2, q⟩
theorem Bag.at {H : Hp} {p : Addr} {n : Nat} (b : Bag H p n) : ∃ o, H p = some o := by
  obtain ⟨l, ns, i, dg, fd, h1, _⟩ := b
  exact ⟨_, h1⟩
/-- all but p as it was -/
def But (p : Addr) (H H' : Hp) : Prop := ∀ b o, b ≠ p → H b = some o → H' b = some o
theorem But.refl (p : Addr) (H : Hp) : But p H H := fun _ _ _ e => e
theorem But.trans {p : Addr} {H H1 H2 : Hp} (a : But p H H1) (b : But p H1 H2) : But p H H2 := fun c o n e => b c o n (a c o n e)
theorem Same.but {p : Addr} {H H' : Hp} (e : Same H H') : But p H H' := fun b o _ h => e b o h
theorem But.upd {p : Addr} {H : Hp} {o : HO} : But p H (upd H p o) := fun b u n e => by rw [upd_ne n]; exact e
theorem But.free {p : Addr} {H H' : Hp} {n : Nat} (e : But p H H') (b : Bag H' p n) {x : Addr} (h : H' x = none) : H x = none := by
  cases q : H x with
  | none => rfl
  | some o =>
    by_cases z : x = p
    · obtain ⟨u, hu⟩ := b.at
      rw [z, hu] at h
      cases h
    · rw [e x o z q] at h
      cases h
theorem new_same {H : Hp} {p : Addr} {o : HO} (h : H p = none) : Same H (upd H p o) := fun b u q => by rw [upd_ne (ne_of_none q h)]; exact q
/-- _law_draw -/
def spDraw : Sp := fun vs H Q _ => ∃ (p : Addr) (n : Nat) (m : Int), vs = [.ref p, .int m] ∧ Bag H p n ∧ n ≤ 1000000 ∧ 0 < m ∧ m.natAbs < 2 ^ 8000 ∧
  ∀ (r : Int) (H' : Hp), 0 ≤ r → r < m → Bag H' p (n + 1) → But p H H' → Q (.int r) H'
/-- _law_bag -/
def spBag (K : PySem.W.Frag) : Sp := fun vs H Q _ => ∃ (a : Addr) (ns : List Int), vs = [.ref a] ∧ SqL K H a (ns.map V.int) ∧ ns.length ≤ 63 ∧
  ∀ (p : Addr) (H' : Hp), H p = none → Same H H' → Bag H' p 0 → Q (.ref p) H'
/-- built-ins that the draws use -/
structure BltT (mg : Str → Option Value) : Prop where
  int : mg "int" = none
  list : mg "list" = none
  len : mg "len" = none
theorem big17 {x : Int} (h0 : 0 ≤ x) (h : x < 18446744073709551616) : 0 ≤ (17 : Int) ∧ (17 : Int) ≤ 1000000 ∧ x.natAbs < 2 ^ 64 := ⟨by decide, by decide, by omega⟩
end Hx
/-! ## An error class with all that is asked of it -/
namespace Hx
open PySem PySem.Spec PyProof.Rows L2
structure ClT (K : PySem.W.Frag) (mg : Str → Option Value) (x qual : Str) (st : Stmt) (ps fl : List Str) (C fI : Addr) : Prop where
  ex : ExT K mg x C fI
  fn : ∃ fd, Fun K "__init__" qual st fI fd ∧ Binds K fd ps []
  nf : ∀ f ∈ fl, PySem.W.findIn K (.ref C) f = some none
  xf : XfC K C
  is : ExcC K C
/-- how an error that was made from a, b, c leaves: field f of the class at C -/
def err1 (C : Addr) (f : Str) (a : V) (H : Hp) (E : XK) : Prop := ∀ d, H d = none → E (.ref C) (some d) (upd H d (.xd [(f, a)]))
def err3 (C : Addr) (f g k : Str) (a b c : V) (H : Hp) (E : XK) : Prop := ∀ d, H d = none → E (.ref C) (some d) (upd H d (.xd [(k, c), (g, b), (f, a)]))
section
variable {X : Cx} {e : Expr} {es : List Expr} {ta : TA} {p pos pos2 : Pos} {W : WX}
/-- raise C(..) -/
def tRz (C : Addr) (sp : Sp) (W : WX) (ta : TA) : TS := fun _ σ H => tMkO C sp [] ta σ H fun cls d H' => W cls d σ H'
theorem rd1 {K : PySem.W.Frag} {C : Addr} {f : Str} {i : Nat} {W : WX} {D : Ends} {σ : L2.St} {H : Hp} {v : V} (T : OexC K C) (nf : PySem.W.findIn K (.ref C) f = some none) (hi : σ[i]? = some (some v)) (h : err1 C f v H fun cls d H' => W cls d σ H') :
    tRz C (spI1 K f) W (tCons (tVar i) tNil) D σ H := ⟨v, hi, mk1 (Q := fun cls d H' => W cls d σ H') T nf h⟩
theorem rd3 {K : PySem.W.Frag} {C : Addr} {f g h : Str} {i j k : Nat} {W : WX} {D : Ends} {σ : L2.St} {H : Hp} {u v z : V} (T : OexC K C) (n1 : PySem.W.findIn K (.ref C) f = some none) (n2 : PySem.W.findIn K (.ref C) g = some none) (n3 : PySem.W.findIn K (.ref C) h = some none)
    (hi : σ[i]? = some (some u)) (hj : σ[j]? = some (some v)) (hk : σ[k]? = some (some z)) (q : err3 C f g h u v z H fun cls d H' => W cls d σ H') :
    tRz C (spI3 K f g h) W (tCons (tVar i) (tCons (tVar j) (tCons (tVar k) tNil))) D σ H := ⟨u, hi, v, hj, z, hk, mk3 (Q := fun cls d H' => W cls d σ H') T n1 n2 n3 q⟩
theorem ps_rz {x qual : Str} {st : Stmt} {ps fl : List Str} {sp : Sp} {C fI : Addr} (hc : X.calm = true) (tk : Takes X W) (T : ClT X.K X.mg x qual st ps fl C fI) (ok : ∀ fd, Fun X.K "__init__" qual st fI fd → FnOk X.prog X.w X.K X.mg X.base CX0 1 fI fd ps sp) (hr : Room 2 X.A)
    (ha : PA X (e :: es) ta) (hg : Gl X x := by rfl) (hdb : (x == ("__debug__" : Str)) = false := by decide) (hs : starEach (e :: es) X.env = (false, eval e X.env) :: starEach es X.env := by rfl) (hp : (backTo pos (starEach es X.env)).any (·.1) = false := by rfl) :
    PS X (.Raise (some (.Call (.Name x p) (e :: es) [] pos)) none pos2) (tRz C sp W ta) := by
  obtain ⟨fd, F, b⟩ := T.fn
  exact ps_raise hc tk (pmk_oex T.ex.oex T.ex.iC T.ex.tI (ok fd F) hr b .nil pass0 hg T.ex.gC ha hdb hs hp)
/-- raise C() -/
def tR0 (C : Addr) (W : WX) : TS := fun _ σ H => W (.ref C) none σ H
theorem ps_r0 {x qual : Str} {st : Stmt} {C fI : Addr} (hc : X.calm = true) (tk : Takes X W) (T : ClT X.K X.mg x qual st ["self"] [] C fI) (ok : ∀ fd, Fun X.K "__init__" qual st fI fd → FnOk X.prog X.w X.K X.mg X.base CX0 1 fI fd ["self"] (spI0 X.K)) (hr : Room 2 X.A) (hg : Gl X x := by rfl)
    (hdb : (x == ("__debug__" : Str)) = false := by decide) : PS X (.Raise (some (.Call (.Name x p) [] [] pos)) none pos2) (tR0 C W) := by
  obtain ⟨fd, F, b⟩ := T.fn
  exact ps_raise hc tk (pmk_none T.ex (ok fd F) hr b hg hdb)
end
end Hx
/-! ## A def that is handed the error that its caller's suite holds -/
namespace Hx
open PySem PySem.Spec PyProof.Rows L2
/-- as FnOk, while an error is handled; its object p stands still and may be looked at -/
structure FnP (P : Program) (w : World) (K : PySem.W.Frag) (mg : Str → Option Value) (base : Heap) (k : Nat) (f : Addr) (fd : FuncData) (ps : List Str) (sp : Addr × Obj → Sp) : Prop where
  len : ∀ p vs H Q E, sp p vs H Q E → vs.length = ps.length
  run : ∀ (p : Addr × Obj) (A : Around) (outer : List Env) (s : Shared) (H : Hp) (args : Args) (us : List Value) (vs : List V) (Q : VK) (E : XK), L2H.RoomH k A → L2H.PinOk outer H s p → Env0 P w K mg base A outer s H → BindsTo s fd args (ps.zip us) → Vals vs us → sp p vs H Q E →
    codeAny (model P w) A (.call (.ref f) args) (CR CX0 outer P w H s Q E) s
theorem fnP_of {P : Program} {w : World} {K : PySem.W.Frag} {mg : Str → Option Value} {base : Heap} {k : Nat} {x qual : Str} {st : Stmt} {f : Addr} {fd : FuncData} {N ps : List Str} {sp : Addr × Obj → Sp} (F : Fun K x qual st f fd) (S : FnScope N ps (defScope st)) (ln : ∀ p vs H Q E, sp p vs H Q E → vs.length = ps.length)
    (hb : ∀ (p : Addr × Obj) (cdv : Value) (A : Around) (outer : List Env) (s : Shared) (H : Hp) (vs : List V) (Q : VK) (E : XK), L2H.RoomH k (A.deeper (envOfC qual (defScope st) s.heap.objs.size f cdv)) → sp p vs H Q E →
      ∃ t, PSs (L2H.cxH CX0 P w K mg base N qual (defScope st) f cdv A outer s H E p).nox (defBody st) t ∧ t { nx := fun _ G => Q .non G, rt := Q } (L2.start N vs) H) : FnP P w K mg base (k + 1) f fd ps sp := by
  obtain ⟨oc, od, kV, doc, pm, an, cdv, ct, osl, rfl, lk, hcd⟩ := F.ex
  constructor
  · exact ln
  intro p A outer s H args us vs Q E hr pin e0 bd rv hsp
  have KX : K.In s.heap := e0.mod.kin.keeps fun b o z => (e0.bs b o z).1
  refine codeAny_call_function hr.depth (KX _ _ lk) rfl S.co S.gen rfl (PySem.W.codeRec_of KX hcd) (bd _ _ _ _ (wpAny_newFunctionEnv_cells S.kind ?_ fun env he t1 ic => ?_))
  · rintro ⟨n, v⟩ hy
    rcases S.par n (List.of_mem_zip hy).1 with z | z
    · exact .inl z
    · exact .inr ⟨z, PySem.W.cellsFrom_some _ _ _ (.inl z)⟩
  subst he
  refine ⟨(e0.mod.nolimit.keeps fun b o z => (e0.bs b o z).1).keeps ic.toInCall.keep, codeAny_func ?_⟩
  obtain ⟨t, ht, hq⟩ := hb p cdv A outer s H vs Q E (hr.deeper _) hsp
  have I := L2H.inv_startH (CX := CX0) (E := E) S pin e0 (ln _ _ _ _ _ hsp) rv ic
  refine wpAny_mono (ht.nox.run [] t1 _ H _ I hq) (fun fl s' hs => ?_) fun _ _ z => z
  cases fl with
  | ret u => obtain ⟨v, ρ, G, J, r, q⟩ := hs; exact ⟨v, G, J.os, J.bare, J.base, J.hok, r, q⟩
  | next => obtain ⟨ρ, G, J, q⟩ := hs; exact ⟨.non, G, J.os, J.bare, J.base, J.hok, rfl, q⟩
  | brk => obtain ⟨ρ, G, J, z⟩ := hs; exact False.elim z
  | cont => obtain ⟨ρ, G, J, z⟩ := hs; exact False.elim z
section
variable {X : Cx} {k : Nat} {f : Addr} {fd : FuncData} {ps : List Str} {sp : Addr × Obj → Sp} {x : Str} {q pos : Pos} {e : Expr} {es : List Expr} {t : TA} {p : Addr × Obj}
theorem pe_callP (F : FnP X.prog X.w X.K X.mg X.base k f fd ps sp) (hp : p ∈ X.pn) (hr : L2H.RoomH k X.A) (hm : X.mg x = some (.ref f)) (hk : PySem.W.keepIn X.K (.ref f) = true) (hb : Binds X.K fd ps []) (ha : PA X (e :: es) t) (hg : Gl X x := by rfl)
    (hdb : (x == ("__debug__" : Str)) = false := by decide) (h1 : starEach (e :: es) X.env = (false, eval e X.env) :: starEach es X.env := by rfl) (h2 : (backTo pos (starEach es X.env)).any (·.1) = false := by rfl) :
    PE X (.Call (.Name x q) (e :: es) [] pos) (tCallS (sp p) (fun _ _ _ _ => False) t) := by
  constructor
  intro pins s σ H Q I h
  refine wpAny_Call_Name_kw (ld_glob I hg hm ?_ hdb)
  refine PySem.W.callWith_K (h₀ := X.base) I.ok.mod.kin hk (thn (ha.run pos pins s σ H _ I h) ?_) h1 h2
  rintro us s1 ⟨vs, H1, I1, r, hsp⟩
  refine ⟨I1.kIn, ?_⟩
  have hl : us.length = ps.length := by rw [← r.length]; exact F.len _ _ _ _ _ hsp
  have bd := hb s1 us I1.kIn (by rw [List.append_nil]; exact hl)
  rw [List.append_nil] at bd
  have pn := I1.pin p (List.mem_append_left _ hp)
  have pin : L2H.PinOk X.stack H1 s1 p := ⟨pn.1, pn.2.1, fun hm => (List.mem_cons.mp (I1.stkSub p.1 hm)).elim pn.2.2.1 pn.2.2.2.1, pn.2.2.2.2⟩
  refine wpAny_call (codeAny_mono (F.run p X.A X.stack s1 H1 ⟨us, []⟩ us vs Q (fun _ _ _ => False) hr pin I1.env0 bd r hsp) fun r s' hq => ?_)
  cases r with
  | error er => exact hq.elim
  | ok fl =>
    cases fl with
    | ret u => exact I1.after hq
    | next => exact False.elim hq
    | brk => exact False.elim hq
    | cont => exact False.elim hq
end
end Hx
/-! ## What the top has written, told by two answers -/
namespace Hx
open PySem PySem.Spec PyProof.Rows L2
/-- what is asked of the error class at C, of its __init__ at f, of its fields -/
def clsB (K : PySem.W.Frag) (C f : Addr) (fl : List Str) : Bool :=
  decide (PySem.W.findIn K (.ref C) "__setattr__" = some (some (.builtin "object.__setattr__"))) && (decide (PySem.W.findIn K (.ref C) "__getattribute__" = some (some (.builtin "BaseException.__getattribute__"))) &&
  (decide (PySem.W.findIn K (.ref C) "__getattr__" = some none) && (decide (PySem.W.subIn K (.ref C) (.type "BaseException") = some true) && (decide (PySem.W.typeIn K (.ref C) = some (.type "type")) && (PySem.W.hasDictIn K C && (PySem.W.keepIn K (.ref C) &&
  (decide (PySem.W.findIn K (.ref C) "__class__" = some (some (.builtin "object.__class__"))) && (decide (PySem.W.specialIn K (.builtin "object.__class__") "__get__" = some (some (.builtin "getset_descriptor.__get__"))) && (decide (PySem.W.takesIn K (.builtin "object.__class__") = some true) &&
  (decide (PySem.W.mroIn K C (.type "object") = some true) && (decide (PySem.W.findIn K (.ref C) "__init__" = some (some (.ref f))) && (decide (PySem.W.typeIn K (.ref f) = some (.type "function")) && fl.all fun x => decide (PySem.W.findIn K (.ref C) x = some none)))))))))))))
theorem cl_mk {K : PySem.W.Frag} {h : Heap} {mg : Str → Option Value} {x qual : Str} {st : Stmt} {ps fl : List Str} {C f D : Addr} (X : K.In h) (G : h.Ns mainGlobals mg) (aC : PySem.W.nsIn K mainGlobals x = some (some (.ref C))) {nm q : Str} {N : Addr} {bs : List Value} {sn : List Str} {sub : List Value} {ab : Bool} {col : Option Bool} {dd : Option Addr} {m0 m1 m2 m3 m5 : Option Value}
    (xL : K.lookup C = some (excClassObj nm q C N bs [.ref D, .type "ValueError", .type "Exception", .type "BaseException", .type "object"] true sn sub ab col dd m0 m1 m2 m3 m5 "ValueError.__new__")) {oc : Value} {od an : Option Addr} {osl : Array (Option Value)} {kV doc pm cdv ct : Value}
    (lf : K.lookup f = some ⟨oc, od, .func (PySem.W.fnOf "__init__" qual (defArgs st) (defBody st) (defScope st) .none kV doc pm an cdv ct), osl⟩) (cf : PySem.W.codeIn K cdv qual = true) (kf : PySem.W.keepIn K (.ref f) = true)
    (hb : ∀ (kV doc pm : Value) (an : Option Addr) (cdv ct : Value) (us : List Value), us.length = ps.length → bindArgs (PySem.W.fnOf "__init__" qual (defArgs st) (defBody st) (defScope st) .none kV doc pm an cdv ct) ⟨us, []⟩ = pure (ps.zip us)) (b : clsB K C f fl = true) :
    ClT K mg x qual st ps fl C f := by
  unfold clsB at b
  simp only [Bool.and_eq_true, decide_eq_true_eq, List.all_eq_true] at b
  obtain ⟨sa, ga, gg, eC, tC, hC, kC, cc, cn, ct', mo, iC, tI, nf⟩ := b
  have F := fun_mk (st := st) lf cf kf
  exact ⟨⟨⟨⟨nm, q, N, bs, _, sn, sub, ab, col, dd, m0, m1, m2, m3, m5, xL, by rfl⟩, sa, eC, tC, kC⟩, PySem.W.mg_of X G aC, iC, tI⟩, ⟨_, F, F.binds hb⟩, nf, ⟨ga, gg, eC, hC⟩, ⟨ga, gg, eC, hC, cc, cn, ct', mo⟩⟩
/-- which error is of which class -/
def pairsB (K : PySem.W.Frag) (D : Addr) (Cs : List Addr) : Bool := (List.range Cs.length).all fun j => decide (PySem.W.exmOne K (.ref (Cs.getD j 0)) (.ref D) = some true) && (decide (PySem.W.kitOne K (.ref (Cs.getD j 0)) (.type "ValueError") = some true) && (List.range Cs.length).all fun k =>
  decide (PySem.W.exmOne K (.ref (Cs.getD j 0)) (.ref (Cs.getD k 0)) = some (decide (j = k))) && decide (PySem.W.kitOne K (.ref (Cs.getD j 0)) (.ref (Cs.getD k 0)) = some (decide (j = k))))
theorem pairs_of {K : PySem.W.Frag} {D : Addr} {Cs : List Addr} (b : pairsB K D Cs = true) {j : Nat} (hj : j < Cs.length) : PySem.W.exmOne K (.ref (Cs.getD j 0)) (.ref D) = some true ∧ PySem.W.kitOne K (.ref (Cs.getD j 0)) (.type "ValueError") = some true ∧
    ∀ k, k < Cs.length → PySem.W.exmOne K (.ref (Cs.getD j 0)) (.ref (Cs.getD k 0)) = some (decide (j = k)) ∧ PySem.W.kitOne K (.ref (Cs.getD j 0)) (.ref (Cs.getD k 0)) = some (decide (j = k)) := by
  unfold pairsB at b
  rw [List.all_eq_true] at b
  have z := b j (List.mem_range.mpr hj)
  simp only [Bool.and_eq_true, decide_eq_true_eq, List.all_eq_true] at z
  exact ⟨z.1, z.2.1, fun k hk => z.2.2 k (List.mem_range.mpr hk)⟩
end Hx

/-! ## Dicts whose keys are nested tuples and whose values are True -/
namespace Nd
open PySem PySem.Spec PyProof.Rows L2
mutual
/-- the value is such a key -/
inductive NV (K : PySem.W.Frag) (H : Hp) : V → NestedKey → Prop
  | non : NV K H .non .none
  | int (i : Int) : NV K H (.int i) (.num i)
  | str (x : Str) : NV K H (.str x) (.text x)
  | tup {a : Addr} {xs : List V} {ks : List NestedKey} : SqT K H a xs → NVs K H xs ks → NV K H (.ref a) (.tup ks)
inductive NVs (K : PySem.W.Frag) (H : Hp) : List V → List NestedKey → Prop
  | nil : NVs K H [] []
  | cons {x : V} {xs : List V} {k : NestedKey} {ks : List NestedKey} : NV K H x k → NVs K H xs ks → NVs K H (x :: xs) (k :: ks)
end
theorem sqt_same {K : PySem.W.Frag} {H H' : Hp} {a : Addr} {xs : List V} (e : Same H H') (h : SqT K H a xs) : SqT K H' a xs := by
  rcases h with (h | ⟨o, h⟩) | h
  · exact .inl (.inl (e _ _ h))
  · exact .inl (.inr ⟨o, e _ _ h⟩)
  · exact .inr h
/-- kept where tuples are -/
def Tups (H H' : Hp) : Prop := ∀ b xs, Rd H b (.tup xs) → Rd H' b (.tup xs)
theorem Tups.of {H H' : Hp} (e : Same H H') : Tups H H' := fun b xs h => by
  rcases h with h | ⟨o, h⟩
  · exact .inl (e _ _ h)
  · exact .inr ⟨o, e _ _ h⟩
theorem Tups.trans {H H1 H2 : Hp} (a : Tups H H1) (b : Tups H1 H2) : Tups H H2 := fun c xs h => b c xs (a c xs h)
theorem Tups.refl (H : Hp) : Tups H H := fun _ _ h => h
theorem Tups.upd {H : Hp} {a : Addr} {o : HO} (h : ∀ xs, ¬ Rd H a (.tup xs)) : Tups H (upd H a o) := fun b xs r => by
  have nb : b ≠ a := fun e => h xs (e ▸ r)
  rcases r with r | ⟨ob, r⟩
  · exact .inl (by rw [upd_ne nb]; exact r)
  · exact .inr ⟨ob, by rw [upd_ne nb]; exact r⟩
mutual
theorem NV.keep {K : PySem.W.Frag} {H H' : Hp} (e : Tups H H') : ∀ (k : NestedKey) (v : V), NV K H v k → NV K H' v k
  | .none, _, h => by cases h; exact .non
  | .num i, _, h => by cases h; exact .int i
  | .text x, _, h => by cases h; exact .str x
  | .tup ks, _, h => by
    cases h with
    | tup h1 h2 => exact .tup (h1.elim (fun z => .inl (e _ _ z)) .inr) (NVs.keep e ks _ h2)
theorem NVs.keep {K : PySem.W.Frag} {H H' : Hp} (e : Tups H H') : ∀ (ks : List NestedKey) (xs : List V), NVs K H xs ks → NVs K H' xs ks
  | [], _, h => by cases h; exact .nil
  | k :: ks, _, h => by
    cases h with
    | cons h1 h2 => exact .cons (NV.keep e k _ h1) (NVs.keep e ks _ h2)
end
section
variable {X : Cx} {pins : List (Addr × Obj)} {σ : L2.St} {H : Hp} {s : Shared}
mutual
theorem nv_is (I : Inv X pins σ H s) : ∀ (k : NestedKey) (v : V) (u : Value), NV X.K H v k → RelV v u → NestedIs s.heap k u
  | .none, _, _, h, r => by cases h; cases r; exact .none
  | .num i, _, _, h, r => by cases h; obtain ⟨t, rfl⟩ := r; exact .int i t
  | .text x, _, _, h, r => by cases h; obtain ⟨t, rfl⟩ := r; exact .text x t
  | .tup ks, _, _, h, r => by
    cases h with
    | @tup a xs _ h1 h2 =>
      cases (show _ = Value.ref a from r)
      obtain ⟨its, rv, ⟨o, e1, e2, n, e3⟩, _⟩ := I.tuple h1
      exact .tup e1 e2 e3 (by simpa using nvs_are I ks xs its h2 rv)
theorem nvs_are (I : Inv X pins σ H s) : ∀ (ks : List NestedKey) (xs : List V) (us : List Value), NVs X.K H xs ks → Vals xs us → NestedAll s.heap ks us
  | [], _, _, h, r => by cases h; cases r; exact .nil
  | k :: ks, _, _, h, r => by
    cases h with
    | cons h1 h2 =>
      cases r with
      | cons r1 r2 => exact .cons (nv_is I k _ _ h1 r1) (nvs_are I ks _ _ h2 r2)
end
end
/-- the entries: each key with the tuple that stands for it -/
abbrev Ks := List (NestedKey × Addr)
def xsOf (ks : Ks) : List (NestedKey × Addr × Value) := ks.map fun p => (p.1, p.2, Value.bool true)
def ndP (P : Program) (w : World) (a : Addr) (ks : Ks) : Heap → Prop := fun h => ∃ o es ep, h.get? a = some o ∧ o.ExactDict ∧ o.data = .dict es ep ∧ es.toList = (xsOf ks).map (entryOfKey (nestedKind P w)) ∧ ((xsOf ks).map (·.1)).Nodup
def ndO (P : Program) (w : World) (a : Addr) (ks : Ks) : HO := .ext (ndP P w a ks)
/-- at a stands the dict of the keys ks -/
structure ND (P : Program) (w : World) (K : PySem.W.Frag) (H : Hp) (a : Addr) (ks : Ks) : Prop where
  at_ : H a = some (ndO P w a ks)
  sm : (a == sysModules) = false
  ln : ks.length ≤ 1000
  nv : ∀ p ∈ ks, NV K H (.ref p.2) p.1 ∧ p.1.depth ≤ 8
def putN (ks : Ks) (k : NestedKey) (b : Addr) : Ks := if (ks.any fun p => decide (p.1 = k)) = true then ks else ks ++ [(k, b)]
theorem atKey_xs (ks : Ks) (k : NestedKey) : (atKey (xsOf ks) k).isSome = ks.any fun p => decide (p.1 = k) := by
  unfold xsOf
  induction ks with
  | nil => rfl
  | cons p r ih =>
    by_cases h : p.1 = k
    · simp [atKey, h]
    · simpa [atKey, h] using ih
theorem stored_xs (ks : Ks) (k : NestedKey) (b : Addr) : storedH (xsOf ks) k b (.bool true) = xsOf (putN ks k b) := by
  unfold storedH putN
  rw [atKey_xs]
  split
  · unfold xsOf
    rw [List.map_map]
    refine List.map_congr_left fun p _ => ?_
    by_cases h : p.1 = k <;> simp [putAt, h]
  · simp [xsOf]
theorem putN_len (ks : Ks) (k : NestedKey) (b : Addr) : (putN ks k b).length ≤ ks.length + 1 := by
  unfold putN
  split
  · exact Nat.le_succ _
  · rw [List.length_append, List.length_singleton]; exact Nat.le_refl _
theorem nd_not {P : Program} {w : World} {K : PySem.W.Frag} {H : Hp} {a : Addr} {ks : Ks} (h : H a = some (ndO P w a ks)) (xs : List V) : ¬ Rd H a (.tup xs) := fun r => by
  rcases r with r | ⟨o, r⟩
  · rw [h] at r; cases r
  · rw [h] at r; cases r
section
variable {X : Cx} {pins : List (Addr × Obj)} {σ : L2.St} {H : Hp} {s : Shared} {a : Addr} {ks : Ks}
theorem nd_at (I : Inv X pins σ H s) (h : H a = some (ndO X.prog X.w a ks)) : ndP X.prog X.w a ks s.heap := by
  have z : ObjOk X.prog X.w H s.heap a (.ext (ndP X.prog X.w a ks)) := I.hok a _ h
  exact z.1
theorem nd_obj {P : Program} {w : World} {H' : Hp} {h' : Heap} (z : ndP P w a ks h') : ObjOk P w H' h' a (ndO P w a ks) := by
  obtain ⟨o, es, ep, h1, h2, h3, h4, h5⟩ := z
  exact ⟨⟨o, es, ep, h1, h2, h3, h4, h5⟩, ⟨o, h1⟩, fun g1 g2 ⟨o', es', ep', q1, q2⟩ k => ⟨o', es', ep', k _ q1, q2⟩⟩
theorem nd_dict (I : Inv X pins σ H s) (N : ND X.prog X.w X.K H a ks) : s.heap.DictOfH (nestedKind X.prog X.w) a (xsOf ks) := by
  obtain ⟨o, es, ep, h1, h2, h3, h4, h5⟩ := nd_at I N.at_
  refine ⟨o, es, ep, h1, h2, h3, h4, fun x hx => ?_, h5⟩
  unfold xsOf at hx
  obtain ⟨p, hp, rfl⟩ := List.mem_map.mp hx
  exact ⟨nv_is I p.1 (.ref p.2) (.ref p.2) (N.nv p hp).1 rfl, (N.nv p hp).2⟩
/-- what stands behind a store -/
theorem nd_put {h' : Heap} {t' : Nat} {k : NestedKey} {b : Addr} (I : Inv X pins σ H s) (N : ND X.prog X.w X.K H a ks) (hm : h'.DictOfH (nestedKind X.prog X.w) a (storedH (xsOf ks) k b (.bool true))) (hs : Heap.SameBut a s.heap h') :
    Inv X pins σ (upd H a (ndO X.prog X.w a (putN ks k b))) { s with heap := h', toks := t' } := by
  rw [stored_xs] at hm
  obtain ⟨o, es, ep, h1, h2, h3, h4, _, h5⟩ := hm
  exact d_write I (by rw [N.at_]; exact True.intro) hs ⟨o, h1⟩ (nd_obj ⟨o, es, ep, h1, h2, h3, h4, h5⟩)
theorem ND.put {P : Program} {w : World} {K : PySem.W.Frag} {k : NestedKey} {b : Addr} (N : ND P w K H a ks) (hl : ks.length < 1000) (hk : NV K H (.ref b) k) (hd : k.depth ≤ 8) : ND P w K (upd H a (ndO P w a (putN ks k b))) a (putN ks k b) := by
  have e : Tups H (upd H a (ndO P w a (putN ks k b))) := Tups.upd (nd_not (K := K) N.at_)
  refine ⟨upd_same, N.sm, Nat.le_trans (putN_len ks k b) hl, fun p hp => ?_⟩
  have hp' : p ∈ ks ∨ p = (k, b) := by
    unfold putN at hp
    split at hp
    · exact .inl hp
    · exact (List.mem_append.mp hp).imp id fun z => List.mem_singleton.mp z
  rcases hp' with hp' | rfl
  · exact ⟨NV.keep e _ _ (N.nv p hp').1, (N.nv p hp').2⟩
  · exact ⟨NV.keep e _ _ hk, hd⟩
theorem ND.keep {P : Program} {w : World} {K : PySem.W.Frag} {H' : Hp} (N : ND P w K H a ks) (e : Same H H') : ND P w K H' a ks :=
  ⟨e _ _ N.at_, N.sm, N.ln, fun p hp => ⟨NV.keep (Tups.of e) _ _ (N.nv p hp).1, (N.nv p hp).2⟩⟩
end
/-! ### rules -/
section
variable {X : Cx} {pos : Pos}
/-- {} -/
def tNdNew (P : Program) (w : World) : TE := fun _ H Q => ∀ p, H p = none → (p == sysModules) = false → Q (.ref p) (upd H p (ndO P w p []))
theorem nd_empty {P : Program} {w : World} (h : Heap) : ndP P w h.objs.size [] (h.push { cls := .type "dict", data := .dict #[] }) :=
  ⟨_, #[], 0, Heap.get?_push_size _ rfl, ⟨rfl, rfl, rfl⟩, rfl, rfl, List.nodup_nil⟩
theorem pe_ndnew : PE X (.Dict [] [] pos) (tNdNew X.prog X.w) := ⟨fun pins s σ H Q I h =>
  wpAny_Dict_empty ⟨.ref s.heap.objs.size, _, I.laid (a := s.heap.objs.size) (o := ndO X.prog X.w s.heap.objs.size []) (t' := s.toks) (fun _ _ q => Heap.get?_push_of_some _ q) (Nat.le_refl _) (nd_obj (nd_empty s.heap)), rfl,
    h _ (I.hok.fresh (Nat.le_refl _)) (beq_eq_false_iff_ne.mpr (Ne.symm (Nat.ne_of_lt I.big)))⟩⟩
theorem nd_new {P : Program} {w : World} {K : PySem.W.Frag} {H : Hp} {p : Addr} (sm : (p == sysModules) = false) : ND P w K (upd H p (ndO P w p [])) p [] := ⟨upd_same, sm, Nat.zero_le _, fun _ z => nomatch z⟩
/-- d[k] = True -/
def rNdSet (P : Program) (w : World) (K : PySem.W.Frag) : TSet := fun o i v H Q => ∃ (a b : Addr) (ks : Ks) (k : NestedKey), o = .ref a ∧ i = .ref b ∧ v = .bl true ∧ ND P w K H a ks ∧ ks.length < 1000 ∧ NV K H (.ref b) k ∧ k.depth ≤ 8 ∧ Q (upd H a (ndO P w a (putN ks k b)))
theorem set_nd (hu : X.A.units + 64 < cLine) : PSet X (rNdSet X.prog X.w X.K) := by
  intro pins s σ H o i v ov iv u Q I ro ri rv h
  obtain ⟨a, b, ks, k, rfl, rfl, rfl, N, hl, hk, hd, q⟩ := h
  cases (show ov = Value.ref a from ro)
  cases (show iv = Value.ref b from ri)
  cases (show u = Value.bool true from rv)
  have hz : (xsOf ks).length ≤ sizeLine := by
    unfold xsOf
    rw [List.length_map]
    exact Nat.le_trans N.ln (by decide)
  refine wpAny_setItem_heap (hsz := hz) (knd := nestedKind X.prog X.w) (by show X.A.units + 1 + 8 < cLine; omega) ⟨nv_is I k _ _ hk rfl, hd⟩ (nd_dict I N) fun h' hm hs => ?_
  exact ⟨_, nd_put I N hm hs, q⟩
/-- list(d) -/
def rNdList (P : Program) (w : World) (K : PySem.W.Frag) : List V → Hp → VK → Prop := fun xs H Q => ∃ (a : Addr) (ks : Ks), xs = [.ref a] ∧ ND P w K H a ks ∧ ∀ l, H l = none → Q (.ref l) (upd H l (.lst (ks.map fun p => V.ref p.2)))
theorem call_listNd (hc : X.calm = true) : CallR X (.type "list") (rNdList X.prog X.w X.K) := by
  intro pins s σ H xs us Q I r h
  obtain ⟨a, ks, rfl, N, q⟩ := h
  obtain ⟨u, rfl, ru⟩ := vals1 r
  cases (show u = Value.ref a from ru)
  obtain ⟨o, es, ep, h1, h2, h3, h4, h5⟩ := nd_at I N.at_
  have sz : es.size = ks.length := by
    rw [← Array.length_toList, h4, List.length_map]
    unfold xsOf
    rw [List.length_map]
  refine PySem.W.kdl_call (KdlSrc.rawDict (es := es) (ep := ep) N.sm) (I.ok.hd hc) ⟨o, h1, h2, h3⟩ (by rw [sz]; exact Nat.le_trans N.ln (by decide)) fun h' tk acc c kp eS it => ?_
  have rel : ∀ (js : Ks) (vs : List Value), vs = js.map (fun p => Value.ref p.2) → Vals (js.map fun p => V.ref p.2) vs := fun js => by
    induction js with
    | nil => intro vs e; subst e; exact .nil
    | cons p r ih => intro vs e; subst e; exact .cons rfl (ih _ rfl)
  have ea : acc.toList = ks.map fun p => Value.ref p.2 := by
    refine List.ext_getElem? fun j => ?_
    rw [List.getElem?_map, Array.getElem?_toList]
    have qe := entry_at h4 j
    unfold xsOf at qe
    rw [List.getElem?_map] at qe
    cases hj : acc[j]? with
    | none =>
      have g : ks.length ≤ j := by
        have := Array.getElem?_eq_none_iff.mp hj
        have e1 := it.1
        omega
      rw [List.getElem?_eq_none g]
      rfl
    | some v =>
      obtain ⟨hi, hv⟩ := it.2 j v hj
      rw [Array.getElem?_eq_getElem hi] at qe
      cases hb : ks[j]? with
      | none => rw [hb] at qe; cases qe
      | some p =>
        rw [hb] at qe
        have e2 : es[j] = entryOfKey (nestedKind X.prog X.w) (p.1, p.2, Value.bool true) := Option.some.inj qe
        rw [hv, e2]
        rfl
  have new : ObjOk X.prog X.w (upd H s.heap.objs.size (.lst (ks.map fun p => V.ref p.2))) h' s.heap.objs.size (.lst (ks.map fun p => V.ref p.2)) := by
    refine ⟨by rw [List.length_map]; exact Nat.le_trans N.ln (by decide), acc.toList, c, rel ks _ ea, ?_⟩
    rw [eS]
  exact ⟨.ref s.heap.objs.size, _, I.laid (t' := tk) kp (Nat.le_refl _) new, rfl, q _ (I.hok.fresh (Nat.le_refl _))⟩
/-- {k: True} -/
def tNdOne (P : Program) (w : World) (K : PySem.W.Frag) (tk tv : TE) : TE := fun σ H Q => ∀ p, H p = none → (p == sysModules) = false → tk σ (upd H p (ndO P w p [])) fun x H1 => tv σ H1 fun y H2 => ∃ (b : Addr) (k : NestedKey), x = .ref b ∧ y = .bl true ∧ NV K H2 (.ref b) k ∧ k.depth ≤ 8 ∧ H2 p = some (ndO P w p []) ∧ Q (.ref p) (upd H2 p (ndO P w p [(k, b)]))
theorem pe_ndone {e f : Expr} {tk tv : TE} (hu : X.A.units + 64 < cLine) (he : PE X e tk) (hf : PE X f tv) : PE X (.Dict [some e] [f] pos) (tNdOne X.prog X.w X.K tk tv) := by
  constructor
  intro pins s σ H Q I h
  have I1 : Inv X pins σ (upd H s.heap.objs.size (ndO X.prog X.w s.heap.objs.size [])) { s with heap := s.heap.push { cls := .type "dict", data := .dict #[] } } :=
    I.laid (a := s.heap.objs.size) (t' := s.toks) (fun _ _ q => Heap.get?_push_of_some _ q) (Nat.le_refl _) (nd_obj (nd_empty s.heap))
  have sm : (s.heap.objs.size == sysModules) = false := beq_eq_false_iff_ne.mpr (Ne.symm (Nat.ne_of_lt I.big))
  have run := (pps_cons (pos := pos) he hf pps_nil).run pins _ σ _ (fun ps H2 => match ps with
    | [(x, y)] => ∃ (b : Addr) (k : NestedKey), x = .ref b ∧ y = .bl true ∧ NV X.K H2 (.ref b) k ∧ k.depth ≤ 8 ∧ H2 s.heap.objs.size = some (ndO X.prog X.w s.heap.objs.size []) ∧ Q (.ref s.heap.objs.size) (upd H2 s.heap.objs.size (ndO X.prog X.w s.heap.objs.size [(k, b)]))
    | _ => False) I1 ?rd
  case rd => exact h s.heap.objs.size (I.hok.fresh (Nat.le_refl _)) sm
  rw [arm_eval_Dict, show (evalEachOpt [some e] X.env).zip ((evalEach [f] X.env).map fun v => do let x ← v; standAt pos; pure x) = (pairTrees [some e] [f] X.env pos).map fun p => (some p.1, p.2) from rfl, dictDisplay_pairs (pairTrees [some e] [f] X.env pos) (by intro z; cases z) (by show 1 < 17; decide)]
  refine wpAny_bind (wpAny_standAt (wpAny_bind (wpAny_subDictH (knd := nestedKind X.prog X.w) (Q := fun d s' => wpAny (model X.prog X.w) X.A (pure (Value.ref d)) (EP X pins σ Q) X.xe s') (by show X.A.units + 8 < cLine; omega) (by show 1 ≤ 15; decide) (wpAny_mono run ?_ fun _ _ z => z))))
  rintro vs t ⟨ps, H2, I2, rv, hps⟩
  match ps, rv, hps with
  | [(x, y)], .cons (b := v0) r1 .nil, hps =>
    obtain ⟨b, k, rfl, rfl, hk, hd, e0, q⟩ := hps
    obtain ⟨u1, u2⟩ := v0
    cases (show u1 = Value.ref b from r1.1)
    cases (show u2 = Value.bool true from r1.2)
    have N0 : ND X.prog X.w X.K H2 s.heap.objs.size [] := ⟨e0, sm, Nat.zero_le _, fun _ z => nomatch z⟩
    refine ⟨[(k, b, Value.bool true)], ⟨rfl, rfl, ⟨nv_is I2 k _ _ hk rfl, hd⟩, trivial⟩, nd_dict I2 N0, fun h' tk hm hs => wpAny_pure ?_⟩
    exact ⟨.ref s.heap.objs.size, _, nd_put (t' := tk) I2 N0 hm hs, rfl, q⟩
end
end Nd
/-! ### {k: True for x in ..} -/
namespace Nd
open PySem PySem.Spec PyProof.Rows L2
/-- one store of such a comprehension: D's dict gets the key of y -/
def NdTurn (P : Program) (w : World) (K : PySem.W.Frag) (D : Addr) (y z : V) (G : Hp) (Nx : Hp → Prop) : Prop := ∃ (b : Addr) (ks : Ks) (k : NestedKey), y = .ref b ∧ z = .bl true ∧ ND P w K G D ks ∧ ks.length < 1000 ∧ NV K G (.ref b) k ∧ k.depth ≤ 8 ∧ Nx (upd G D (ndO P w D (putN ks k b)))
/-- the comprehension: D is the new dict -/
def tNdc (P : Program) (w : World) (K : PySem.W.Frag) (wi : TI) (g : TG) (tt : TT) (tk tv : TE) (vs : List Nat) : TE := fun σ H Q => wi σ H fun J G => ∀ D, G D = none → (D == sysModules) = false →
  ∃ W : Nat → Nat → Hp → Prop, (∃ m, W 0 m (upd G D (ndO P w D []))) ∧ ∀ i m G1, W i m G1 →
    (J.stop i G1 ∧ Q (.ref D) G1) ∨ (J.go i G1 ∧ ∃ Nx : Hp → Prop, (∀ G2, Nx G2 → ∃ m', m' < m ∧ W (i + 1) m' G2) ∧ ∀ x G2, J.yld i G1 x G2 → g x (wipe σ vs) G2 fun ρ G3 => wipe ρ vs = wipe σ vs ∧ tt ρ G3 fun b G4 =>
      if b = true then tk ρ G4 fun y G5 => tv ρ G5 fun z G6 => NdTurn P w K D y z G6 Nx else Nx G4)
section
variable {X : Cx}
theorem nd_dictSet {pins : List (Addr × Obj)} {σ : L2.St} {H : Hp} {s : Shared} {E : Value → Shared → Prop} {D : Addr} {y z : V} {u r : Value} {Nx : Hp → Prop} {Q : Unit → Shared → Prop} (hu : X.A.units + 64 < cLine) (I : Inv X pins σ H s) (ry : RelV y u) (rz : RelV z r) (t : NdTurn X.prog X.w X.K D y z H Nx)
    (q : ∀ G s', Inv X pins σ G s' → Nx G → Q () s') : wpAny (model X.prog X.w) X.A (dictSet D u r) Q E s := by
  obtain ⟨b, ks, k, rfl, rfl, N, hl, hk, hd, nx⟩ := t
  cases (show u = Value.ref b from ry)
  cases (show r = Value.bool true from rz)
  have hz : (xsOf ks).length ≤ sizeLine := by
    unfold xsOf
    rw [List.length_map]
    exact Nat.le_trans N.ln (by decide)
  exact wpAny_dictSet_heap (hsz := hz) (knd := nestedKind X.prog X.w) (by show X.A.units + 8 < cLine; omega) ⟨nv_is I k _ _ hk rfl, hd⟩ (nd_dict I N) fun h' hm hs => q _ _ (nd_put I N hm hs) nx
theorem pe_ndc {kx vx tg iter : Expr} {ifs : List Expr} {scope : Scope} {own : List (Str × Nat)} {pos : Pos} {wi : TI} {g : TG} {tt : TT} {tk tv : TE} (hc : X.calm = true) (hN : X.N.Nodup) (hu : X.A.units + 64 < cLine) (hi : PI X tg iter wi) (ok : BlkOk X.N X.env.scope scope own)
    (hg : ∀ (s : Shared) (H : Hp) (C : Addr) (cl : List (Str × Addr)) (fp : List Addr), PG (X.blk s H scope (compEnvC scope cl C X.env) fp) tg g)
    (ht : ∀ (s : Shared) (H : Hp) (C : Addr) (cl : List (Str × Addr)) (fp : List Addr), PTs (X.blk s H scope (compEnvC scope cl C X.env) fp) ifs tt)
    (hk : ∀ (s : Shared) (H : Hp) (C : Addr) (cl : List (Str × Addr)) (fp : List Addr), PE (X.blk s H scope (compEnvC scope cl C X.env) fp) kx tk)
    (hv : ∀ (s : Shared) (H : Hp) (C : Addr) (cl : List (Str × Addr)) (fp : List Addr), PE (X.blk s H scope (compEnvC scope cl C X.env) fp) vx tv) (hs : ∀ x, foldedSetIterable iter X.env x = pure x := by intro _; rfl) :
    PE X (.DictComp kx vx [⟨tg, iter, ifs, 0⟩] scope pos) (tNdc X.prog X.w X.K wi g tt tk tv (own.map (·.2))) := by
  constructor
  intro pins s σ H Q I hrd
  rw [arm_eval_DictComp]
  have frees : ∀ y ∈ scope.names, y.2 = .free → ∃ c, X.env.cells.lookup y.1 = some c := fun y hy e => (ok.free y hy e).elim (fun z => I.ok.has _ (.inl z)) fun z => I.ok.has _ (.inr z)
  refine wpAny_comprehension_free rfl hs (closure_ok frees) ok.kind (fun y hy e => by rw [ok.uniq y hy, e]) (thn (hi.run pins s σ H _ I hrd) fun xv t1 hx => thn hx ?_)
  rintro itv t2 ⟨it, fp, tn, J, G, rfl, I2, T, st2, f2, q⟩
  refine wpAny_newObj_type (newEnv_comp ?_)
  have sm : (t2.heap.objs.size == sysModules) = false := beq_eq_false_iff_ne.mpr (Ne.symm (Nat.ne_of_lt I2.big))
  obtain ⟨W, ⟨m0, w0⟩, turn⟩ := q t2.heap.objs.size (I2.hok.fresh (Nat.le_refl _)) sm
  have I3 : Inv X pins σ (upd G t2.heap.objs.size (ndO X.prog X.w t2.heap.objs.size [])) { t2 with heap := t2.heap.push { cls := .type "dict", data := .dict #[] } } :=
    I2.laid (t' := t2.toks) (fun b o e => Heap.get?_push_of_some _ e) (Nat.le_refl _) (nd_obj (nd_empty t2.heap))
  generalize hD : t2.heap.objs.size = D at w0 turn I3 sm ⊢
  generalize ht3 : ({ t2 with heap := t2.heap.push { cls := .type "dict", data := .dict #[] } } : Shared) = t3 at I3
  have e3 : t3.heap = t2.heap.push { cls := .type "dict", data := .dict #[] } := by rw [← ht3]
  have old : ∀ b ∈ fp, b < t2.heap.objs.size := fun b hb => by
    obtain ⟨o, e, _⟩ := T.obj _ _ st2 b hb
    exact Heap.lt_size e
  have f3 : ∀ b ∈ fp, FpOk X pins (upd G D (ndO X.prog X.w D [])) b ∧ b < t3.heap.objs.size := fun b hb => by
    have lt := old b hb
    refine ⟨⟨?_, (f2 b hb).2⟩, by rw [e3, Heap.size_push]; exact Nat.lt_succ_of_lt lt⟩
    rw [upd_ne (by rw [← hD]; exact Nat.ne_of_lt lt)]
    exact (f2 b hb).1
  have st3 : tn 0 t3.heap := T.keep _ _ _ st2 fun b _ o e => by rw [e3]; exact Heap.get?_push_of_some _ e
  have I4 := block_start I3 ok hN f3
  have pg := hg t3 (upd G D (ndO X.prog X.w D [])) t3.heap.objs.size (cellsFrom (t3.heap.objs.size + 1) scope.names (cloFrom X.env.cells scope.names [])) fp
  have pt := ht t3 (upd G D (ndO X.prog X.w D [])) t3.heap.objs.size (cellsFrom (t3.heap.objs.size + 1) scope.names (cloFrom X.env.cells scope.names [])) fp
  have pk := hk t3 (upd G D (ndO X.prog X.w D [])) t3.heap.objs.size (cellsFrom (t3.heap.objs.size + 1) scope.names (cloFrom X.env.cells scope.names [])) fp
  have pv := hv t3 (upd G D (ndO X.prog X.w D [])) t3.heap.objs.size (cellsFrom (t3.heap.objs.size + 1) scope.names (cloFrom X.env.cells scope.names [])) fp
  show codeAny _ _ (.compStart (.DictComp kx vx [⟨tg, iter, ifs, 0⟩] scope pos) 0 (.ref it) (.ref D) (compEnvC scope (cellsFrom (t3.heap.objs.size + 1) scope.names (cloFrom X.env.cells scope.names [])) t3.heap.objs.size X.env))
    (compPost (model X.prog X.w) X.A X.xe _ _ (.ref D) t3.heap.objs.size) { t3 with heap := pushCells (t3.heap.push { cls := .type "dict", data := .dict #[] }) scope.names }
  have apart : ∀ b ∈ fp, (upd G D (ndO X.prog X.w D [])) b = none := fun b hb => (f3 b hb).1.1
  generalize hce : compEnvC scope (cellsFrom (t3.heap.objs.size + 1) scope.names (cloFrom X.env.cells scope.names [])) t3.heap.objs.size X.env = ce at I4 pg pt pk pv ⊢
  have cL : ce.locals = t3.heap.objs.size := by subst hce; rfl
  generalize hG3 : upd G D (ndO X.prog X.w D []) = G3 at I3 I4 pg pt pk pv w0 apart f3
  generalize ht4 : ({ t3 with heap := pushCells (t3.heap.push { cls := .type "dict", data := .dict #[] }) scope.names } : Shared) = t4 at I4 ⊢
  have st4 : tn 0 t4.heap := T.keep _ _ _ st3 fun b _ o e => by rw [← ht4]; exact pushCells_keeps _ _ _ _ (Heap.get?_push_of_some _ e)
  have still : ∀ {ρ : L2.St} {G' : Hp} {t' : Shared}, Inv (X.blk t3 G3 scope ce fp) [] ρ G' t' → (∀ b ∈ fp, G' b = none) → ∀ b ∈ fp, FpOk (X.blk t3 G3 scope ce fp) [] G' b := fun {ρ G' t'} I' hn b hb =>
    ⟨hn b hb, (I'.ok.exf b hb).1, I'.ok.exfs b hb, .inl hb, fun x c e => (I'.ok.exf b hb).2 x c e, fun p hp => absurd (show p ∈ ([] : List (Addr × Obj)) ++ [] from hp) (by simp)⟩
  refine codeAny_compStart_dict ?loop (T.self X.A 0 _ _ _ st4 ?loop)
  refine compLoop_anyD (fun n t' => ∃ i G', Inv (X.blk t3 G3 scope ce fp) [] (wipe σ (own.map (·.2))) G' t' ∧ tn i t'.heap ∧ (∀ b ∈ fp, G' b = none) ∧ W i n G') ?_ m0 ⟨0, G3, I4, st4, apart, w0⟩
  rintro n t5 ⟨i, G5, I5, st5, n5, w5⟩
  rcases turn i n G5 w5 with ⟨stop, fin⟩ | ⟨go, Nx, hNx, step⟩
  · refine thnF (T.done (X.blk t3 G3 scope ce fp) rfl rfl rfl hc i [] t5 _ G5 (fun _ _ => False) I5 (still I5 n5) st5 stop) ?_
    rintro r t6 ⟨rfl, I6⟩
    have I7 : Inv X pins σ G5 t6 := I3.call' (ch := fp) I6.os I6.base I6.hok I6.bare fun b hb => ⟨(f3 b hb).1.2.2.2.1, (f3 b hb).1.2.1, (f3 b hb).1.2.2.2.2.1, (f3 b hb).1.2.2.2.2.2⟩
    have nC : G5 t3.heap.objs.size = none := by
      have z : G5 ce.locals = none := I6.free
      rw [cL] at z
      exact z
    obtain ⟨m, hn, _⟩ := I6.loc
    have hn' : t6.heap.Ns ce.locals m := hn
    rw [cL] at hn'
    obtain ⟨f0, f1, f2', f3', f4, f5⟩ := I3.fpOk (Nat.le_refl _) nC
    exact ⟨m, hn', fun h'' sb => ⟨.ref D, G5, I7.turned (t' := t6.toks) (fun b o hb e => (sb.2 b hb).trans e) f0 f1 f3' f4 f5, rfl, fin⟩⟩
  · refine thnF (T.item (X.blk t3 G3 scope ce fp) rfl rfl rfl hc i [] t5 _ G5 (fun _ _ => False) I5 (still I5 n5) st5 go) ?_
    rintro r t6 ⟨u, rfl, h6⟩
    refine thnF h6 ?_
    rintro _ t7 ⟨x, G7, I7, r7, y7, st7, n7⟩
    refine thnF (pg.run _ t7 _ G7 x u _ (I7.pinned (still I7 n7) (T.obj _ _ st7)) r7 (step x G7 y7)) ?_
    rintro _ t8 ⟨ρ, G8, I8, hw8, q8⟩
    refine thnF (pt.run _ t8 ρ G8 _ I8 q8) ?_
    rintro b t9 ⟨G9, I9, q9⟩
    have back : ∀ {t' : Shared} {G' : Hp}, Inv (X.blk t3 G3 scope ce fp) ([] ++ pinsAt fp t7.heap) ρ G' t' → Nx G' → ∃ m, m < n ∧ ∃ i G', Inv (X.blk t3 G3 scope ce fp) [] (wipe σ (own.map (·.2))) G' t' ∧ tn i t'.heap ∧ (∀ b ∈ fp, G' b = none) ∧ W i m G' := fun {t' G'} I' nx => by
      obtain ⟨m', lt, w'⟩ := hNx G' nx
      have pinned : ∀ b ∈ fp, ∀ o, t7.heap.get? b = some o → t'.heap.get? b = some o ∧ G' b = none := fun b hb o e =>
        ⟨(I'.pin (b, o) (List.mem_append_right _ (List.mem_append_right _ (mem_pinsAt hb e)))).1, (I'.pin (b, o) (List.mem_append_right _ (List.mem_append_right _ (mem_pinsAt hb e)))).2.1⟩
      refine ⟨m', lt, i + 1, G', (I'.unpinned (pins := [])).weak (by rw [← hw8, wipe_length]) (fun j v e => ?_), T.keep _ _ _ st7 fun b hb o e => (pinned b hb o e).1, fun b hb => ?_, w'⟩
      · rw [← hw8] at e
        exact (wipe_some e).1
      · obtain ⟨o, e, _⟩ := T.obj _ _ st7 b hb
        exact (pinned b hb o e).2
    cases b with
    | false =>
      simp only [Bool.false_eq_true, if_false] at q9 ⊢
      exact back I9 q9
    | true =>
      simp only [if_true] at q9 ⊢
      refine thnF (pk.run _ t9 ρ G9 _ I9 q9) ?_
      rintro z t10 ⟨yk, G10, I10, r10, q10⟩
      refine thnF (pv.run _ t10 ρ G10 _ I10 q10) ?_
      rintro z2 t11 ⟨yv, G11, I11, r11, nt⟩
      exact nd_dictSet (X := X.blk t3 G3 scope ce fp) hu I11 r10 r11 nt fun G12 t12 I12 nx => back I12 nx
end
end Nd
/-! ### truth, comprehensions -/
namespace Nd
open PySem PySem.Spec PyProof.Rows L2
section
variable {prog : Program} {w : World} {KK : Type} [DecidableEq KK] {knd : HeapKind prog w KK} {A : Around} {E : Value → Shared → Prop} {s : Shared}
theorem truthy_keyed {d : Addr} {xs : List (KK × Addr × Value)} {Q : Bool → Shared → Prop} (sm : (d == sysModules) = false) (hm : s.heap.DictOfH knd d xs) (fit : (xs.length : Int) < 2 ^ 63) (h : Q (!xs.isEmpty) { s with toks := s.toks + 1 + 1 }) :
    wpAny (model prog w) A (truthy (.ref d)) Q E s := by
  have same : ((xs.length : Int) != 0) = !xs.isEmpty := by cases xs <;> simp <;> omega
  have ln : wpAny (model prog w) A (runValue (.builtin "len" ⟨[.ref d], []⟩)) (fun r t => r = .int xs.length (s.toks + 1) ∧ Q (!xs.isEmpty) t) E s := by
    refine wpAny_runValue (codeAny_builtin PySem.entry_len ?_)
    rw [Around.under_plainId PySem.plain_len _]
    refine wpAny_mono (wpAny_len_body_dictH (Q := fun r t => r = .int xs.length (s.toks + 1) ∧ Q (!xs.isEmpty) t) sm hm fit ⟨rfl, h⟩) ?_ fun _ _ z => z
    rintro fin t ⟨r, rfl, q⟩
    exact q
  unfold truthy
  first
    | refine wpAny_bind (wpAny_callSpecial?_none (name := Str.ofString "__bool__") hm.typeIs noBool_dict ?_)
    | refine wpAny_bind (wpAny_pure (wpAny_bind (wpAny_callSpecial?_none (name := Str.ofString "__bool__") hm.typeIs noBool_dict ?_)))
  first
    | refine wpAny_bind (wpAny_specialOf (name := Str.ofString "__len__") hm.typeIs F.slot_dict_len.lookup ?_)
    | refine wpAny_bind (wpAny_pure (wpAny_bind (wpAny_specialOf (name := Str.ofString "__len__") hm.typeIs F.slot_dict_len.lookup ?_)))
  have fin : ∀ r t, (r = Value.int xs.length (s.toks + 1) ∧ Q (!xs.isEmpty) t) → Q ((xs.length : Int) != 0) t := fun r t z => same ▸ z.2
  first
    | exact wpAny_bind (wpAny_mono ln (fun r t z => by obtain ⟨rfl, _⟩ := id z; exact wpAny_pure (fin _ t z)) fun _ _ z => z)
    | exact wpAny_bind (wpAny_pure (wpAny_bind (wpAny_mono ln (fun r t z => by obtain ⟨rfl, _⟩ := id z; exact wpAny_pure (fin _ t z)) fun _ _ z => z)))
end
section
variable {X : Cx}
/-- a test that is the dict's truth -/
def tNdTru (P : Program) (w : World) (K : PySem.W.Frag) (ta : TE) : TT := fun σ H Q => ta σ H fun x G => ∃ (a : Addr) (ks : Ks), x = .ref a ∧ ND P w K G a ks ∧ Q (!ks.isEmpty) G
theorem pt_nd {e : Expr} {te : TE} (he : PE X e te) (hi : ∀ whole, isTrue e X.env whole = (do let v ← whole; standAt e.pos; holding [v] (truthy v)) := by intro _; rfl) : PT X e (tNdTru X.prog X.w X.K te) := by
  constructor
  intro pins s σ H Q I h
  refine isTrue_plain (thn (he.run pins s σ H _ I h) ?_) (hi _)
  rintro v t ⟨x, G, J, r, a, ks, rfl, N, q⟩
  cases (show v = Value.ref a from r)
  have e1 : (xsOf ks).length = ks.length := by unfold xsOf; rw [List.length_map]
  have e2 : (xsOf ks).isEmpty = ks.isEmpty := by cases ks <;> rfl
  have ln := N.ln
  exact truthy_keyed N.sm (nd_dict J N) (by omega) ⟨G, J.tok _, by rw [e2]; exact q⟩
end
end Nd
/-! ## enumerate(xs, start=k), min(xs, default=d) of nothing, what is never reached -/
namespace Nd
open PySem PySem.Spec PyProof.Rows L2
theorem pe_no {X : Cx} {e : Expr} : PE X e (fun _ _ _ => False) := ⟨fun _ _ _ _ _ _ h => h.elim⟩
/-- the list at a, each item in a new pair with its number from k on -/
def ItS (K : PySem.W.Frag) (a : Addr) (k : Int) : It :=
  ⟨fun i G => ∃ (xs : List V) (x : V), SqL K G a xs ∧ xs[i]? = some x, fun i G v G' => ∃ T x, v = .ref T ∧ G T = none ∧ G' = upd G T (.tup [.int (k + (i : Int)), x]) ∧ ∀ xs, SqL K G a xs → xs[i]? = some x, fun i G => ∃ xs : List V, SqL K G a xs ∧ xs.length = i⟩
theorem turn_from {P : Program} {w : World} {K : PySem.W.Frag} {elts : List Expr} {kk : Nat} {tpos : Pos} (a e it : Addr) (k : Int) :
    Turn P w K (.Tuple elts kk tpos) (ItS K a k) [e, it] e (fun i h => (∃ o, IsEnum h e it (k + (i : Int)) o) ∧ h.IsListIter it a i ∧ e ≠ it) where
  mem := List.mem_cons_self
  obj := by
    rintro i h ⟨⟨o, he⟩, ⟨ob, ho, hc, hd⟩, _⟩ b hb
    rcases List.mem_cons.mp hb with rfl | hb
    · exact ⟨_, he, fun v z => nomatch z⟩
    · cases List.mem_singleton.mp hb
      exact ⟨ob, ho, fun v z => by rw [hd] at z; cases z⟩
  keep := fun i h h' ⟨⟨o, he⟩, hi, ne⟩ st => ⟨⟨o, st e (by simp) _ he⟩, hi.at fun ob z => st it (by simp) ob z, ne⟩
  item := by
    intro X hP hw hK hc i pins s σ H E I hf st hg
    subst hP hw hK
    obtain ⟨⟨o, he⟩, hit, ne⟩ := st
    obtain ⟨xs, x, hq, hx⟩ := hg
    obtain ⟨its, rv, p, hz⟩ := I.list hq
    obtain ⟨u, hu, ru⟩ := rv.get hx
    have le : e < s.heap.objs.size := Heap.lt_size he
    have li : it < s.heap.objs.size := by obtain ⟨_, q, _⟩ := hit; exact Heap.lt_size q
    have ha := p.isList
    have nai : a ≠ it := fun z => by
      obtain ⟨o1, q1, c1, _⟩ := ha
      obtain ⟨o2, q2, c2, _⟩ := hit
      rw [z, q2] at q1
      cases q1
      rw [c1] at c2
      exact absurd (Value.type.inj c2) (by decide)
    have nae : e ≠ a := fun z => by
      obtain ⟨o1, q1, c1, _⟩ := ha
      rw [← z, he] at q1
      cases q1
      exact absurd (Value.type.inj (show Value.type "enumerate" = Value.type "list" from c1)) (by decide)
    have lt : i < its.toArray.size := by
      have := (List.getElem?_eq_some_iff.mp hu).1
      simpa using this
    refine wpAny_pyNext_enum_itemC (Draws.list (A := X.A.in1) (I.ok.hd hc) it a nai its.toArray) he ⟨hit, ha⟩ lt ne (by simp [ne, nae]) fun y h' tk hy ho hst hT hsz stay => ?_
    have ey : y = u := by
      have z : its.toArray[i]? = some y := hy
      rw [List.getElem?_toArray, hu] at z
      exact (Option.some.inj z).symm
    subst ey
    refine ⟨_, rfl, wpAny_letOwnedTupleGo_enum (s := { s with heap := h', toks := tk + 1 }) ho fun h2 he2 sb => ?_⟩
    have hT2 : h2.get? s.heap.objs.size = some { cls := .type "tuple", data := .seq #[.int (k + (i : Int)) tk, y] } := (sb.2 _ (Nat.ne_of_gt le)).trans hT
    have new : ObjOk X.prog X.w (upd H s.heap.objs.size (.tup [.int (k + (i : Int)), x])) h2 s.heap.objs.size (.tup [.int (k + (i : Int)), x]) :=
      ⟨by show 2 ≤ sizeLine; decide, [.int (k + (i : Int)) tk, y], .cons ⟨_, rfl⟩ (.cons ru .nil), ⟨_, hT2, rfl, _, rfl⟩⟩
    have I1 : Inv X pins σ (upd H s.heap.objs.size (.tup [.int (k + (i : Int)), x])) { s with heap := h2, toks := tk + 1 } :=
      I.turnedNew (ch := [e, it]) (fun b ob hb q => (sb.2 b (fun z => hb (by simp [z]))).trans (stay b ob (fun z => hb (by simp [z])) (fun z => hb (by simp [z])) q)) hf (Nat.le_refl _) new
    refine ⟨.ref s.heap.objs.size, _, I1, rfl, ⟨_, x, rfl, I.hok.fresh (Nat.le_refl _), rfl, fun ys hy' => by rw [I.list_inj hy' hq]; exact hx⟩, ⟨⟨y, ?_⟩, hst.1.at fun ob q => (sb.2 it (Ne.symm ne)).trans q, ne⟩, fun b hb => ?_⟩
    · rw [show k + ((i + 1 : Nat) : Int) = k + (i : Int) + 1 by omega]; exact he2
    · have lb : b < s.heap.objs.size := by
        rcases List.mem_cons.mp hb with rfl | hb
        · exact le
        · cases List.mem_singleton.mp hb; exact li
      rw [upd_ne (Nat.ne_of_lt lb)]
      exact (hf b hb).1
  done := by
    intro X hP hw hK hc i pins s σ H E I hf st hg
    subst hP hw hK
    obtain ⟨⟨o, he⟩, hit, ne⟩ := st
    obtain ⟨xs, hq, hx⟩ := hg
    obtain ⟨its, rv, p, hz⟩ := I.list hq
    obtain ⟨f0, f1, f2, f3, f4, f5⟩ := hf it (by simp)
    have hl := rv.length
    have ha := p.isList
    have nai : a ≠ it := fun z => by
      obtain ⟨o1, q1, c1, _⟩ := ha
      obtain ⟨o2, q2, c2, _⟩ := hit
      rw [z, q2] at q1
      cases q1
      rw [c1] at c2
      exact absurd (Value.type.inj c2) (by decide)
    have sz : its.toArray.size = i := by
      rw [List.size_toArray, ← hl]
      exact hx
    exact wpAny_pyNext_enum_endD (Draws.list (A := X.A.in1) (I.ok.hd hc) it a nai its.toArray) he ⟨by rw [sz]; exact hit, ha⟩ fun h' eb => ⟨rfl, I.turned (t' := s.toks) (fun b o hb q => eb b o hb q) f0 f1 f3 f4 f5⟩
  self := fun A i s Q E ⟨⟨_, he⟩, _⟩ h => wpAny_pyIter_enum he h
def iFrom (K : PySem.W.Frag) (k : Int) (ta : TA) : TI := fun σ G R => ta σ G fun vs G1 => ∃ a xs, vs = [.ref a] ∧ SqL K G1 a xs ∧ R (ItS K a k) G1
section
variable {X : Cx}
/-- a built-in class called with keywords -/
theorem callWith_tyK {M : Model} {A : Around} {E : Value → Shared → Prop} {s : Shared} {env : Env} {pos : Pos} {T : String} {e : Expr} {rest : List Expr} {kws : List Keyword} {Q : Value → Shared → Prop}
    (h : wpAny M A (spliced (backTo pos (starEach (e :: rest) env))) (fun vs t1 => wpAny M A (evalAll ((backToKw pos (keywordEach kws env)).map (·.2))) (fun zs t2 => wpAny M A (call (.type T) vs (((backToKw pos (keywordEach kws env)).filterMap (·.1)).zip zs)) Q E t2) E t1) E s)
    (h1 : backTo pos (starEach (e :: rest) env) = (false, eval e env) :: backTo pos (starEach rest env)) (h2 : (backTo pos (starEach (e :: rest) env)).any (·.1) = false) (h3 : (backToKw pos (keywordEach kws env)).all (·.1.isSome) = true) (h4 : (backToKw pos (keywordEach kws env)).any (·.1.isNone) = false) :
    wpAny M A (callWith pos (.type T) [] (backTo pos (starEach (e :: rest) env)) (backToKw pos (keywordEach kws env))) Q E s := by
  unfold callWith
  rw [h1] at h ⊢
  refine wpAny_bind (wpAny_holding (wpAny_mono (PyProof.Rows.evalArgs_kwB (Q := fun a t => wpAny M A (call (.type T) a.pos a.kw) Q E t) h3 h) (fun a t1 q => wpAny_bind (wpAny_standAt ?_)) fun _ _ z => z))
  rw [← h1]
  simp only [h2, h4, Bool.or_false]
  refine wpAny_bind (wpAny_pure ?_)
  exact wpAny_bind (wpAny_mono q (fun r t2 hr => wpAny_bind (wpAny_holding (wpAny_point (wpAny_pure hr)))) fun _ _ z => z)
/-- enumerate(e, start=k), k written -/
theorem pi_from {e : Expr} {ta : TA} {p pos tpos p2 p3 : Pos} {elts : List Expr} {kk j : Nat} {k : Int} (hm : X.mg "enumerate" = none) (h0 : -(2 ^ 63) ≤ k) (h1 : k < 2 ^ 63) (ha : PA X [e] ta) (hg : Gl X "enumerate" := by rfl)
    (g1 : backTo pos (starEach [e] X.env) = (false, eval e X.env) :: backTo pos (starEach [] X.env) := by rfl) (g2 : (backTo pos (starEach [e] X.env)).any (·.1) = false := by rfl) :
    PI X (.Tuple elts kk tpos) (.Call (.Name "enumerate" p) [e] [⟨some "start", .Constant (.int k) j p2, p3⟩] pos) (iFrom X.K k ta) := by
  constructor
  intro pins s σ H R I h
  refine wpAny_Call_Name_kw (ld_blt I hg hm boot_enumerate ?_ (by decide) (by decide))
  refine callWith_tyK (thn (ha.run pos pins s σ H _ I h) ?_) g1 g2 rfl rfl
  rintro us t1 ⟨vs, G1, I1, r1, a, xs, rfl, hq, q⟩
  have hk : PK X [⟨some "start", .Constant (.int k) j p2, p3⟩] (tCons (tC (.int k)) tNil) := pk_cons pe_int pk_nil
  refine thn (hk.run pos pins t1 σ G1 (fun zs G2 => zs = [.int k] ∧ G2 = G1) I1 ⟨rfl, rfl⟩) ?_
  rintro ws t2 ⟨zs, G2, I2, r2, rfl, rfl⟩
  match us, r1, ws, r2 with
  | [u], .cons ru .nil, [z], .cons rz .nil =>
    cases (show u = Value.ref a from ru)
    obtain ⟨tk, rfl⟩ := (show ∃ t, z = Value.int k t from rz)
    obtain ⟨its, rv, pl, hz⟩ := I2.list hq
    refine enum_begins_start (begins_list a its.toArray) pl.isList h0 h1 fun h' he hit hsz hkeep => wpAny_pyIter_enum he ?_
    have I3 : Inv X pins σ G2 { t2 with heap := h' } := I2.kept (t' := t2.toks) hkeep
    refine ⟨t2.heap.objs.size + 1, [t2.heap.objs.size + 1, t2.heap.objs.size], _, _, G2, rfl, I3, turn_from a (t2.heap.objs.size + 1) t2.heap.objs.size k, ⟨⟨.none, ?_⟩, ⟨_, hit, rfl, rfl⟩, Nat.succ_ne_self _⟩, fun b hb => ?_, q⟩
    · rw [show k + ((0 : Nat) : Int) = k by omega]; exact he
    · have le : t2.heap.objs.size ≤ b := by
        rcases List.mem_cons.mp hb with rfl | hb
        · exact Nat.le_add_right _ _
        · cases List.mem_singleton.mp hb; exact Nat.le_refl _
      exact I2.fpOk le (I2.hok.fresh le)
/-- min([], default=d) -/
theorem call_min0 (hc : X.calm = true) (hu : X.A.units + 64 < cLine) : CallRK X (.builtin "min") ["default"] (fun xs zs G Q => ∃ a d, xs = [.ref a] ∧ zs = [d] ∧ SqL X.K G a [] ∧ Q d G) := by
  intro pins s σ H xs zs us ws Q I r1 r2 h
  obtain ⟨a, d, rfl, rfl, hq, q⟩ := h
  match us, r1, ws, r2 with
  | [u], .cons ru .nil, [z], .cons rz .nil =>
    cases (show u = Value.ref a from ru)
    obtain ⟨its, rv, pl, hz⟩ := I.list hq
    cases rv
    refine PySem.W.min_list_default (xs := []) (as := []) (I.ok.hd hc) pl.isList .nil ⟨fun _ z => (List.not_mem_nil z).elim, fun _ z => (List.not_mem_nil z).elim⟩ (by simp only [PyData.depthAll]; omega) (fun _ h' tk k => ⟨d, H, I.kept (t' := tk) k, rz, q⟩) (fun y ys i v h' tk bs e => nomatch e)
end
end Nd
/-! ## len(o), o[i], o == p, o != p of an own class with its own methods -/
namespace Dun
open PySem PySem.Spec PyProof.Rows L2
section
variable {X : Cx} {n : Nat} {CX : CXT} {C f : Addr} {fd : FuncData} {ps : List Str} {sp : Sp} {E : XK}
/-- a def called at some room below -/
theorem run_at {A : Around} {pins : List (Addr × Obj)} {σ : L2.St} {H : Hp} {s : Shared} {Q : VK} {us : List Value} {vs : List V} (F : FnOk X.prog X.w X.K X.mg X.base CX n f fd ps sp) (sb : L2.Sub X n A) (hb : Binds X.K fd ps []) (hx : Passes CX X E)
    (I : Inv X pins σ H s) (r : Vals vs us) (h : sp vs H Q E) : wpAny (model X.prog X.w) A (call (.ref f) us) (EP X pins σ Q) X.xe s := by
  have hl : us.length = ps.length := by rw [← r.length]; exact F.len _ _ _ _ h
  have e0 : Env0 X.prog X.w X.K X.mg X.base A X.stack s H := by
    have e := I.env0
    exact ⟨by rw [sb.fr]; exact e.frames, e.mod, e.bs, e.bsz, e.funs, e.frf, e.hok, e.bare⟩
  refine wpAny_call (codeAny_mono (F.run A X.stack s H ⟨us, []⟩ us vs Q E sb.room e0 (by
    have z := hb s us I.kIn (by simpa using hl)
    simpa using z) r h) fun r s' hq => ?_)
  cases r with
  | error e => exact hx pins σ H s e s' I hq
  | ok fl =>
    cases fl with
    | ret u => exact I.after hq
    | next => exact False.elim hq
    | brk => exact False.elim hq
    | cont => exact False.elim hq
theorem cmp_back {pins : List (Addr × Obj)} {σ : L2.St} {Q : VK} {v : Value} {s' : Shared} (h : EP X pins σ Q v s') : PySem.W.CmpBack (EP X pins σ Q) v s' := by
  obtain ⟨z, H', I, r, q⟩ := h
  cases v with
  | notImplemented => cases z <;> first | exact (nomatch (show Value.notImplemented = _ from r)) | (obtain ⟨t, e⟩ := r; cases e) | cases r
  | _ => exact ⟨z, H', I, r, q⟩
/-- a dunder of the class at C is the def at f -/
structure Dn (K : PySem.W.Frag) (C : Addr) (nm : Str) (f : Addr) : Prop where
  hs : PySem.W.findIn K (.ref C) nm = some (some (.ref f))
  hf : PySem.W.isFn K (.ref f) = true
  fn : PySem.W.fnIn K f = true
/-- o[i] -/
def tIxO (C : Addr) (sp : Sp) (E : XK) (ta tb : TE) : TE := fun σ H Q => ta σ H fun x H1 => tb σ H1 fun y H2 => ∃ a dx fs, x = .ref a ∧ H2 a = some (.ins C dx fs) ∧ sp [.ref a, y] H2 Q E
theorem pe_ixO {a b : Expr} {ta tb : TE} {pos : Pos} (F : FnOk X.prog X.w X.K X.mg X.base CX n f fd ps sp) (hr : Room (n + 1) X.A) (d : Dn X.K C "__getitem__" f) (hb : Binds X.K fd ps []) (hx : Passes CX X E) (ha : PE X a ta) (hi : PE X b tb)
    (hsl : ∀ o i, subscripted b true o i = runValue (.builtin "lifetime.subscript" ⟨[o, i], []⟩) := by intro _ _; rfl) :
    PE X (.Subscript a b pos) (tIxO C sp E ta tb) := by
  refine ⟨fun pins s σ H Q I h => ?_⟩
  refine Subscript_ (binT ha hi I h fun v u s2 x y H2 I2 rx ry q => ?_)
  obtain ⟨p, dx, fs, rfl, hp, q⟩ := q
  cases (show v = Value.ref p from rx)
  obtain ⟨mA, J, _⟩ := ins_get I2.hok hp
  obtain ⟨od, J, _⟩ := J.look
  obtain ⟨m, hF⟩ := I2.fr
  exact PySem.W.sub_K hF I2.ok.mod.kin J d.hs d.fn d.hf (run_at (A := X.A.in1) F ⟨hr.in1, rfl⟩ hb hx I2 (.cons (show L2.RelV (.ref p) (.ref p) from rfl) (.cons ry .nil)) q) (hsl _ _)
/-- len(o) -/
theorem call_lenO (F : FnOk X.prog X.w X.K X.mg X.base CX n f fd ps sp) (hr : Room (n + 1) X.A) (d : Dn X.K C "__len__" f) (hb : Binds X.K fd ps []) (hx : Passes CX X E) :
    CallR X (.builtin "len") (fun xs H Q => ∃ a dx fs, xs = [.ref a] ∧ H a = some (.ins C dx fs) ∧ sp [.ref a] H (fun v H' => ∃ z : Int, v = .int z ∧ 0 ≤ z ∧ z < 2 ^ 63 ∧ Q (.int z) H') E) := by
  intro pins s σ H xs us Q I r h
  obtain ⟨a, dx, fs, rfl, ha, q⟩ := h
  obtain ⟨u, rfl, ru⟩ := vals1 r
  cases (show u = Value.ref a from ru)
  obtain ⟨mA, J, _⟩ := ins_get I.hok ha
  obtain ⟨od, J, _⟩ := J.look
  obtain ⟨m, hF⟩ := I.fr
  refine PySem.W.len_K hF I.ok.mod.kin J d.hs d.hf (wpAny_mono (run_at (A := X.A.in1) F ⟨hr.in1, rfl⟩ hb hx I (.cons (show L2.RelV (.ref a) (.ref a) from rfl) .nil) q) (fun v s' hv => ?_) fun _ _ z => z)
  obtain ⟨_, H', I', rv, z, rfl, z0, z1, qz⟩ := hv
  obtain ⟨t, rfl⟩ := (show ∃ t, v = Value.int z t from rv)
  exact ⟨⟨z0, z1⟩, .int z, H', I'.tok _, ⟨_, rfl⟩, qz⟩
/-- what stands on the right -/
inductive Rt (K : PySem.W.Frag) (H : Hp) (C : Addr) : V → Prop
  | own {b dy : Addr} {gs : List (Str × V)} (h : H b = some (.ins C dy gs)) : Rt K H C (.ref b)
  | str (x : Str) (h : PySem.W.subIn K (.type "str") (.ref C) = some false) : Rt K H C (.str x)
theorem rt_looks {pins : List (Addr × Obj)} {σ : L2.St} {H : Hp} {s : Shared} {y : V} {u : Value} (I : Inv X pins σ H s) (r : RelV y u) (h : Rt X.K H C y) : ∃ tb, PySem.W.Looks (model X.prog X.w) s.heap (typeOf u) tb ∧ PySem.W.notFirst X.K C tb = true := by
  cases h with
  | @own b dy gs h =>
    cases (show u = Value.ref b from r)
    obtain ⟨mB, J, _⟩ := ins_get I.hok h
    obtain ⟨od, J, _⟩ := J.look
    exact ⟨_, J.type, by simp [PySem.W.notFirst]⟩
  | str x h =>
    obtain ⟨t, rfl⟩ := (show ∃ t, u = Value.str x t from r)
    refine ⟨.type "str", PySem.W.Looks.of_pure rfl, ?_⟩
    unfold PySem.W.notFirst
    rw [h]
    simp
def rEqO (K : PySem.W.Frag) (C : Addr) (sp : Sp) (E : XK) : R2 := fun x y H Q => ∃ a dx fs, x = .ref a ∧ H a = some (.ins C dx fs) ∧ Rt K H C y ∧ sp [.ref a, y] H Q E
theorem op_eqO (F : FnOk X.prog X.w X.K X.mg X.base CX n f fd ps sp) (hr : Room n X.A) (d : Dn X.K C "__eq__" f) (hb : Binds X.K fd ps []) (hx : Passes CX X E) : OpR X (compareOp .Eq) (rEqO X.K C sp E) := by
  intro pins s σ H x y v u Q I rx ry h
  obtain ⟨a, dx, fs, rfl, ha, hy, q⟩ := h
  cases (show v = Value.ref a from rx)
  obtain ⟨tb, hl, hn⟩ := rt_looks I ry hy
  obtain ⟨mA, J, _⟩ := ins_get I.hok ha
  obtain ⟨od, J, _⟩ := J.look
  obtain ⟨m, hF⟩ := I.fr
  exact PySem.W.cmp_K (op := .Eq) hr.units0 hF I.ok.mod.kin J hl hn d.hs d.hf (wpAny_mono (run_at F ⟨hr, rfl⟩ hb hx I (.cons (show L2.RelV (.ref a) (.ref a) from rfl) (.cons ry .nil)) q) (fun v s' hv => cmp_back hv) fun _ _ z => z)
/-- != without an own one: the other answer of == -/
theorem objNe {A : Around} {s : Shared} {x L : Addr} {b : Value} {h₀ : Heap} {ox : Obj} {od : Option Obj} {K : PySem.W.Frag} {Q : Fin → Shared → Prop} {E : Value → Shared → Prop} (hu : A.units < cLine) (XK : K.In s.heap) (J : PySem.W.InstAt s.heap x ox C od) (d : Dn K C "__eq__" f)
    (h : wpAny (model X.prog X.w) A (call (.ref f) [.ref x, b]) (fun v s' => ∃ z, v = .bool z ∧ Q (.done (.ret (.bool (!z)))) s') E s) :
    wpAny (model X.prog X.w) A (Builtin.«object.__ne__» ⟨[.ref x, b], []⟩) Q E s := by
  unfold Builtin.«object.__ne__»
  refine wpAny_bind (wpAny_pure ?_)
  refine wpAny_bind (wpAny_cRoomFor hu ?_)
  refine wpAny_bind (PySem.W.ifBound_K XK J d.hs d.hf (wpAny_mono h (fun v s' hv => ?_) fun _ _ z => z))
  obtain ⟨z, rfl, q⟩ := hv
  exact wpAny_bind (wpAny_truthy_bool (wpAny_pure q))
def rNeO (K : PySem.W.Frag) (C : Addr) (sp : Sp) (E : XK) : R2 := fun x y H Q => ∃ a dx fs, x = .ref a ∧ H a = some (.ins C dx fs) ∧ Rt K H C y ∧ sp [.ref a, y] H (fun v H' => ∃ z, v = .bl z ∧ Q (.bl (!z)) H') E
theorem op_neO (F : FnOk X.prog X.w X.K X.mg X.base CX n f fd ps sp) (hr : Room (n + 1) X.A) (d : Dn X.K C "__eq__" f) (hno : PySem.W.findIn X.K (.ref C) "__ne__" = some (some (.builtin "object.__ne__"))) (hm : PySem.W.mroIn X.K C (.type "object") = some true) (hb : Binds X.K fd ps []) (hx : Passes CX X E) : OpR X (compareOp .NotEq) (rNeO X.K C sp E) := by
  intro pins s σ H x y v u Q I rx ry h
  obtain ⟨a, dx, fs, rfl, ha, hy, q⟩ := h
  cases (show v = Value.ref a from rx)
  obtain ⟨tb, hl, hn⟩ := rt_looks I ry hy
  obtain ⟨mA, J, _⟩ := ins_get I.hok ha
  obtain ⟨od, J, _⟩ := J.look
  obtain ⟨m, hF⟩ := I.fr
  have XK := I.ok.mod.kin.keeps hF.keep
  have body : wpAny (model X.prog X.w) X.A (call (.builtin "object.__ne__") [.ref a, u]) (fun v s' => ∃ z, v = .bool z ∧ EP X pins σ Q (.bool z) s') X.xe s := by
    refine wpAny_call (codeAny_call_builtin PySem.F.cmp_object.ne.plain PySem.F.cmpEntry_ne (PySem.W.check_slot PySem.F.cmpKind_ne PySem.F.cmpSplit_ne (J.type.andThen (PySem.W.looks_mroIn XK hm)) (PySem.F.cmpArgs_ne _ _) ?_))
    refine objNe (A := X.A.in1) (L := a) (h₀ := X.base) hr.in1.units0 XK J d (wpAny_mono (run_at (A := X.A.in1) F ⟨hr.in1, rfl⟩ hb hx I (.cons (show L2.RelV (.ref a) (.ref a) from rfl) (.cons ry .nil)) q) (fun v s' hv => ?_) fun _ _ z => z)
    obtain ⟨_, H', I', rv, z, rfl, qz⟩ := hv
    cases (show v = Value.bool z from rv)
    exact ⟨z, rfl, ⟨!z, rfl, ⟨V.bl (!z), H', I', rfl, qz⟩⟩⟩
  have one : wpAny (model X.prog X.w) X.A (tryCompare (.ref a) "__ne__" u) (fun r s' => ∃ z, r = some (.bool z) ∧ EP X pins σ Q (.bool z) s') X.xe s := by
    unfold tryCompare
    refine wpAny_bind ?_
    simp only [callSpecialIfBound?, bindSpecialIfBound?]
    refine wpAny_holding (wpAny_bind (wpAny_bind (wpAny_bind (J.type.here ((PySem.W.looks_findIn XK hno).here ?_)))))
    refine wpAny_bind (wpAny_askSetting (wpAny_ite ?_))
    have fin : wpAny (model X.prog X.w) X.A (call (.builtin "object.__ne__") ([.ref a] ++ [u]) >>= fun v => pure (some v)) (fun r s' => wpAny (model X.prog X.w) X.A (match r with | some .notImplemented => pure none | none => pure none | some v => pure (some v)) (fun r s' => ∃ z, r = some (.bool z) ∧ EP X pins σ Q (.bool z) s') X.xe s') X.xe s :=
      wpAny_bind (wpAny_mono body (fun v s' h' => wpAny_pure (by obtain ⟨z, rfl, q⟩ := h'; exact wpAny_pure ⟨z, rfl, q⟩)) fun _ _ h' => h')
    split
    · exact wpAny_bind (wpAny_of_eq (PySem.F.cmp_object.ne.bind _) (wpAny_pure (by exact fin)))
    · exact wpAny_tryCatch (wpAny_bind (wpAny_of_eq (PySem.F.cmp_object.ne.bind _) (wpAny_pure (by exact fin))))
  show wpAny (model X.prog X.w) X.A (richCompare .NotEq (.ref a) u) (EP X pins σ Q) X.xe s
  unfold richCompare
  simp only [oneThing_ref]
  refine wpAny_holding (wpAny_bind (wpAny_cRoomFor hr.units0 ?_))
  refine wpAny_bind (J.type.here (wpAny_bind (hl.here ?_)))
  have last : wpAny (model X.prog X.w) X.A (tryCompare (.ref a) "__ne__" u) (fun r s' => ∃ v, r = some v ∧ EP X pins σ Q v s') X.xe s := wpAny_mono one (fun r s' z => by obtain ⟨z, rfl, q⟩ := z; exact ⟨_, rfl, q⟩) fun _ _ z => z
  split
  · rename_i q
    have e : PySem.W.subIn X.K tb (.ref C) = some false := by
      rcases Bool.or_eq_true_iff.mp hn with e | e
      · rw [beq_iff_eq.mp e] at q; simp at q
      · exact beq_iff_eq.mp e
    refine wpAny_bind ((PySem.W.looks_subIn XK e).here ?_)
    simp only [Bool.false_eq_true, if_false]
    refine wpAny_bind (wpAny_mono last (fun r s' z => ?_) fun _ _ e => e)
    obtain ⟨v, rfl, hq⟩ := z
    exact wpAny_pure hq
  · refine wpAny_bind (wpAny_pure ?_)
    simp only [Bool.false_eq_true, if_false]
    refine wpAny_bind (wpAny_mono last (fun r s' z => ?_) fun _ _ e => e)
    obtain ⟨v, rfl, hq⟩ := z
    exact wpAny_pure hq
end
end Dun
/-! ## tuples item by item the same; in over a tuple of data; {k: True for x in list} by an invariant -/
namespace Dun
open PySem PySem.Spec PyProof.Rows L2
section
variable {X : Cx}
/-- a value that is equal to itself at any time -/
def selfV : V → Bool
  | .non => true
  | .bl _ => true
  | .int _ => true
  | .str _ => true
  | .ref _ => true
  | _ => false
theorem self_eqAt {A : Around} {s : Shared} {x : V} {u v : Value} (ru : RelV x u) (rv : RelV x v) (h : selfV x = true) : SeqAt.EqAt A s u v true := by
  have fl : ∀ {z : V}, flatV z = true → eqV z z = true → RelV z u → RelV z v → SeqAt.EqAt A s u v true := fun hf he r1 r2 => by
    have q := eqAt_V (A := A) (s := s) r1 r2 hf hf
    rw [he] at q
    exact q
  cases x with
  | non => exact fl rfl rfl ru rv
  | bl b => exact fl rfl (by simp [eqV]) ru rv
  | int i => exact fl rfl (by simp [eqV]) ru rv
  | str y => exact fl rfl (by simp [eqV]) ru rv
  | ref a =>
    cases (show u = Value.ref a from ru)
    cases (show v = Value.ref a from rv)
    exact SeqAt.EqAt.same _
  | _ => cases h
/-- t != u, two tuples of the same items -/
def rNeSame (K : PySem.W.Frag) : R2 := fun x y H Q => ∃ a b xs, x = .ref a ∧ y = .ref b ∧ SqT K H a xs ∧ SqT K H b xs ∧ xs.all selfV = true ∧ Q (.bl false) H
theorem op_neSame (hu : X.A.units < cLine) : OpR X (compareOp .NotEq) (rNeSame X.K) := by
  intro pins s σ H x y v u Q I rx ry h
  obtain ⟨a, b, xs, rfl, rfl, ha, hb, hs, q⟩ := h
  cases (show v = Value.ref a from rx)
  cases (show u = Value.ref b from ry)
  obtain ⟨its, r, e, z⟩ := I.tuple ha
  obtain ⟨its2, r2, e2, z2⟩ := I.tuple hb
  have hsz : its.toArray.size = its2.toArray.size := by rw [List.size_toArray, List.size_toArray, ← r.length, ← r2.length]
  refine SeqAt.RcNeAt.tuples (e := fun _ => true) e e2 hu (fun j h1 h2 => ?_) X.prog X.w X.xe _ ?_
  · have g1 : its[j]? = some its.toArray[j] := by
      have h1' : j < its.length := by simpa using h1
      rw [List.getElem?_eq_getElem h1'] <;> simp
    have g2 : its2[j]? = some its2.toArray[j] := by
      have h2' : j < its2.length := by simpa using h2
      rw [List.getElem?_eq_getElem h2'] <;> simp
    have k1 : j < xs.length := by rw [r.length]; simpa using h1
    obtain ⟨u, hu1, ru⟩ := r.get (List.getElem?_eq_getElem k1)
    obtain ⟨v, hv1, rv⟩ := r2.get (List.getElem?_eq_getElem k1)
    rw [g1] at hu1
    rw [g2] at hv1
    rw [Option.some.inj hu1, Option.some.inj hv1]
    exact self_eqAt ru rv (List.all_eq_true.mp hs _ (List.getElem_mem k1))
  · have hh : (!((List.range (min its.toArray.size its2.toArray.size)).all (fun _ => true) && its.toArray.size == its2.toArray.size)) = false := by
      rw [hsz]
      simp
    rw [hh]
    exact ⟨.bl false, H, I, rfl, q⟩
def rInDT (K : PySem.W.Frag) : R2 := fun x y H Q => ∃ d ds, Dp K H x d ∧ Dp K H y (.tuple ds) ∧ SeqAt.shaped d = true ∧ SeqAt.shaped (.tuple ds) = true ∧ Q (.bl (ds.any fun z => PyData.eqv z d)) H
theorem op_inDT (hu : X.A.units + 65 < cLine) : OpR X (compareOp .In) (rInDT X.K) := by
  intro pins s σ H x y v u Q I rx ry h
  obtain ⟨d, ds, hd, he, sd, se, q⟩ := h
  obtain ⟨as, r1⟩ := Dp.reads I d x v hd rx
  obtain ⟨bs, r2⟩ := Dp.reads I (.tuple ds) y u he ry
  exact SeqAt.in_tuple_reads r2 r1 (SeqAt.canLay_of_shaped se) (SeqAt.canLay_of_shaped sd) (room_in_shaped sd hu) ⟨.bl _, H, I, rfl, q⟩
end
/-- {key: True for x in list}: Pv i says what stands behind i turns -/
theorem ndc_list {P : Program} {w : World} {K : PySem.W.Frag} {a D : Addr} {xs : List V} {g : TG} {tt : TT} {tk tv : TE} {vs : List Nat} {σ : L2.St} {H : Hp} {Qd : Hp → Prop} (Pv : Nat → Hp → Prop) (h0 : Pv 0 (upd H D (Nd.ndO P w D [])))
    (hl : ∀ i H', i ≤ xs.length → Pv i H' → SqL K H' a xs)
    (hs : ∀ i x H', xs[i]? = some x → Pv i H' → g x (wipe σ vs) H' fun ρ H1 => wipe ρ vs = wipe σ vs ∧ tt ρ H1 fun b H4 => if b = true then tk ρ H4 fun y H2 => tv ρ H2 fun z H3 => Nd.NdTurn P w K D y z H3 (Pv (i + 1)) else Pv (i + 1) H4)
    (hd : ∀ H', Pv xs.length H' → Qd H') :
    ∃ W : Nat → Nat → Hp → Prop, (∃ m, W 0 m (upd H D (Nd.ndO P w D []))) ∧ ∀ i m G1, W i m G1 →
    ((Itl K a).stop i G1 ∧ Qd G1) ∨ ((Itl K a).go i G1 ∧ ∃ Nx : Hp → Prop, (∀ G2, Nx G2 → ∃ m', m' < m ∧ W (i + 1) m' G2) ∧ ∀ x G2, (Itl K a).yld i G1 x G2 → g x (wipe σ vs) G2 fun ρ G3 => wipe ρ vs = wipe σ vs ∧ tt ρ G3 fun b G4 =>
      if b = true then tk ρ G4 fun y G5 => tv ρ G5 fun z G6 => Nd.NdTurn P w K D y z G6 Nx else Nx G4) := by
  refine ⟨fun i m H => m = xs.length - i ∧ i ≤ xs.length ∧ Pv i H, ⟨xs.length, by simp, Nat.zero_le _, h0⟩, ?_⟩
  rintro i m H ⟨rfl, hi, p⟩
  have q := hl i H hi p
  by_cases hlt : i < xs.length
  · refine .inr ⟨⟨xs, xs[i], q, by simp [hlt]⟩, Pv (i + 1), fun H' p' => ⟨xs.length - (i + 1), by omega, rfl, hlt, p'⟩, fun x H' y => ?_⟩
    obtain ⟨e, y⟩ := y
    subst e
    exact hs i x _ (y xs q) p
  · have e : i = xs.length := by omega
    subst e
    exact .inl ⟨⟨xs, q, Nat.le_refl _⟩, hd H p⟩
/-- for n, x in enumerate(xs, start=k) -/
theorem for_from {K : PySem.W.Frag} {a : Addr} {k : Int} {xs : List V} {g : TG} {tb : TS} {D : Ends} {σ : L2.St} {H : Hp} (Pv : Nat → L2.St → Hp → Prop) (h0 : Pv 0 σ H) (hl : ∀ i σ H, i ≤ xs.length → Pv i σ H → SqL K H a xs)
    (hs : ∀ i x σ H T, xs[i]? = some x → Pv i σ H → H T = none → g (.ref T) σ (upd H T (.tup [.int (k + (i : Int)), x])) fun σ2 H2 => tb { D with nx := Pv (i + 1), ct := Pv (i + 1), bk := D.nx } σ2 H2) (hd : ∀ σ H, Pv xs.length σ H → D.nx σ H) :
    ∃ W : Nat → Nat → L2.St → Hp → Prop, (∃ m, W 0 m σ H) ∧ ∀ i m σ H, W i m σ H →
      ((Nd.ItS K a k).stop i H ∧ D.nx σ H) ∨ ((Nd.ItS K a k).go i H ∧ ∃ N : L2.St → Hp → Prop, (∀ σ' H', N σ' H' → ∃ m', m' < m ∧ W (i + 1) m' σ' H') ∧ ∀ x H', (Nd.ItS K a k).yld i H x H' → g x σ H' fun σ2 H2 => tb { D with nx := N, ct := N, bk := D.nx } σ2 H2) := by
  refine ⟨fun i m σ H => m = xs.length - i ∧ i ≤ xs.length ∧ Pv i σ H, ⟨xs.length, by simp, Nat.zero_le _, h0⟩, ?_⟩
  rintro i m σ H ⟨rfl, hi, p⟩
  have q := hl i σ H hi p
  by_cases hlt : i < xs.length
  · refine .inr ⟨⟨xs, xs[i], q, by simp [hlt]⟩, Pv (i + 1), fun σ' H' p' => ⟨xs.length - (i + 1), by omega, rfl, hlt, p'⟩, fun x H' y => ?_⟩
    obtain ⟨T, z, rfl, nT, rfl, y⟩ := y
    exact hs i z σ H T (y xs q) p nT
  · have e : i = xs.length := by omega
    subst e
    exact .inl ⟨⟨xs, q, rfl⟩, hd σ H p⟩
/-! ### heaps -/
theorem free_upd {H : Hp} {a b : Addr} {o : HO} (h : L2.upd H a o b = none) : H b = none ∧ b ≠ a := by
  have n : b ≠ a := fun e => by rw [e, upd_same] at h; cases h
  rw [upd_ne n] at h
  exact ⟨h, n⟩
theorem free_same {H H' : Hp} {a : Addr} (e : Same H H') (h : H' a = none) : H a = none := by
  cases q : H a with
  | none => rfl
  | some o => rw [e _ _ q] at h; cases h
theorem same_out {H G : Hp} {a : Addr} {o : HO} (e : Same H G) (h : H a = none) : Same H (L2.upd G a o) := fun b u q => by
  rw [upd_ne (ne_of_none q h)]
  exact e b u q
theorem same_new {H G : Hp} {a : Addr} {o : HO} (e : Same H G) (h : G a = none) : Same H (L2.upd G a o) := same_out e (free_same e h)
theorem sqt_tups {K : PySem.W.Frag} {H H' : Hp} {a : Addr} {xs : List V} (e : Nd.Tups H H') (h : SqT K H a xs) : SqT K H' a xs := h.elim (fun z => .inl (e _ _ z)) .inr
theorem tups_lst {H : Hp} {a : Addr} {ys : List V} {o : HO} (h : H a = some (.lst ys)) : Nd.Tups H (L2.upd H a o) := Nd.Tups.upd fun xs r => by
  rcases r with r | ⟨z, r⟩
  · rw [h] at r; cases r
  · rw [h] at r; cases r
theorem tups_ins {H : Hp} {a C dx : Addr} {fs : List (Str × V)} {o : HO} (h : H a = some (.ins C dx fs)) : Nd.Tups H (L2.upd H a o) := Nd.Tups.upd fun xs r => by
  rcases r with r | ⟨z, r⟩
  · rw [h] at r; cases r
  · rw [h] at r; cases r
theorem sql_ne {K : PySem.W.Frag} {H : Hp} {a b : Addr} {xs : List V} {o : HO} (h : SqL K H a xs) (n : a ≠ b) : SqL K (L2.upd H b o) a xs := by
  rcases h with (h | ⟨z, h⟩) | h
  · exact .inl (.inl (by rw [upd_ne n]; exact h))
  · exact .inl (.inr ⟨z, by rw [upd_ne n]; exact h⟩)
  · exact .inr h
theorem sqt_list_same {K : PySem.W.Frag} {H H' : Hp} {a : Addr} {xs : List V} (h : SqL K H a xs) (e : Same H H') : SqL K H' a xs := by
  rcases h with (h | ⟨o, h⟩) | h
  · exact .inl (.inl (e _ _ h))
  · exact .inl (.inr ⟨o, e _ _ h⟩)
  · exact .inr h
end Dun
/-! ## own instances made, own methods called, where what is raised is wished for at the caller's slots -/
namespace Mkx
open PySem PySem.Spec PyProof.Rows L2
/-- nothing is raised after all -/
theorem pass_no {X : Cx} : Passes (L2.CX X.prog X.w) X (fun _ _ _ => False) := fun pins σ H s e s' I c => by
  obtain ⟨_, _, _, _, _, _, _, _, _, _, _, _, no⟩ := c
  exact no.elim
def tMakeS (C : Addr) (sp : Sp) (W : WX) (ta : TA) : TE := fun σ H Q => ta σ H fun vs G => ∀ x dx, G x = none → G dx = none → dx ≠ x →
  sp (.ref x :: vs) (upd (upd G dx (.own x)) x (.ins C dx [])) (fun v G2 => v = .non ∧ Q (.ref x) G2) (WE W σ)
def tMethS (C : Addr) (nm : Str) (sp : Sp) (W : WX) (to : TE) (ta : TA) : TE := fun σ H Q => to σ H fun x G => ∃ a dx fs, x = .ref a ∧ G a = some (.ins C dx fs) ∧ fs.lookup nm = none ∧ ta σ G fun vs G2 => sp (x :: vs) G2 Q (WE W σ)
section
variable {X : Cx} {W : WX} {n : Nat} {C g : Addr} {fd : FuncData} {ps : List Str} {sp : Sp} {x nm : Str} {p pos apos : Pos} {e o : Expr} {es : List Expr} {to : TE} {ta : TA}
theorem run_mkS {pins : List (Addr × Obj)} {σ : L2.St} {G : Hp} {t : Shared} {Q : VK} {us : List Value} {vs : List V} (M : Mk X.K C g) (F : FnOk X.prog X.w X.K X.mg X.base (L2.CX X.prog X.w) n g fd ps sp) (room : Room (n + 1) X.A) (bd : Binds X.K fd ps []) (tk : Takes X W) (J : Inv X pins σ G t) (rv : Vals vs us)
    (want : ∀ x dx, G x = none → G dx = none → dx ≠ x → sp (.ref x :: vs) (upd (upd G dx (.own x)) x (.ins C dx [])) (fun v G2 => v = .non ∧ Q (.ref x) G2) (WE W σ)) : wpAny (model X.prog X.w) X.A (call (.ref C) us) (EP X pins σ Q) X.xe t := by
  have go := want (t.heap.objs.size + 1) t.heap.objs.size (J.hok.fresh (Nat.le_succ _)) (J.hok.fresh (Nat.le_refl _)) (Nat.ne_of_lt (Nat.lt_succ_self _))
  have J2 := Inv.made (C := C) J
  have both : Vals (V.ref (t.heap.objs.size + 1) :: vs) (Value.ref (t.heap.objs.size + 1) :: us) := .cons rfl rv
  have len : (Value.ref (t.heap.objs.size + 1) :: us).length = ps.length := both.length.symm.trans (F.len _ _ _ _ go)
  have binds := bd _ (Value.ref (t.heap.objs.size + 1) :: us) J2.kIn (by rw [List.append_nil]; exact len)
  rw [List.append_nil] at binds
  refine wpAny_call (make_map (f := g) J.kIn M.makes M.init (beq_iff_eq.mp M.fn) (codeAny_mono (F.run _ X.stack _ _ ⟨Value.ref (t.heap.objs.size + 1) :: us, []⟩ _ _ _ (WE W σ) (room.make C us []) (J2.env0.make C us []) binds both go) fun r t' done => ?_))
  match r, done with
  | .error er, done => exact passAt tk σ pins _ _ er t' J2 done
  | .ok (.ret u), done =>
    obtain ⟨v, G', J3, rr, ev, q3⟩ := J2.after done
    subst ev
    exact ⟨rr, ⟨V.ref (t.heap.objs.size + 1), G', J3, rfl, q3⟩⟩
  | .ok .next, done => exact False.elim done
  | .ok .brk, done => exact False.elim done
  | .ok .cont, done => exact False.elim done
theorem pe_makeS (M : Mk X.K C g) (F : FnOk X.prog X.w X.K X.mg X.base (L2.CX X.prog X.w) n g fd ps sp) (room : Room (n + 1) X.A) (gl : Gl X x) (hm : X.mg x = some (.ref C)) (bd : Binds X.K fd ps []) (tk : Takes X W) (args : PA X (e :: es) ta)
    (hdb : (x == ("__debug__" : Str)) = false := by decide) (first : starEach (e :: es) X.env = (false, eval e X.env) :: starEach es X.env := by rfl) (plain : (backTo pos (starEach es X.env)).any (·.1) = false := by rfl) : PE X (.Call (.Name x p) (e :: es) [] pos) (tMakeS C sp W ta) := by
  constructor
  intro pins t σ G Q J want
  refine wpAny_Call_Name_kw (ld_glob J gl hm ?_ hdb)
  refine PySem.W.callWith_K (h₀ := X.base) J.ok.mod.kin M.kp (thn (args.run pos pins t σ G _ J want) ?_) first plain
  rintro us t1 ⟨vs, G1, J1, rv, q⟩
  exact ⟨J1.kIn, run_mkS M F room bd tk J1 rv q⟩
theorem pe_methS {pl : Sem Bool} (ho : PE X o to) (c : Cls X.K C) (m : Meth X.K C nm g) (F : FnOk X.prog X.w X.K X.mg X.base (L2.CX X.prog X.w) n g fd ps sp) (room : Room n X.A) (bd : Binds X.K fd ps []) (tk : Takes X W) (args : PA X (e :: es) ta)
    (first : starEach (e :: es) X.env = (false, eval e X.env) :: starEach es X.env := by rfl) (plain : (backTo pos (starEach es X.env)).any (·.1) = false := by rfl)
    (shape : eval (.Call (.Attribute o nm apos) (e :: es) [] pos) X.env = (eval o X.env >>= fun ov => standAt apos.atName >>= fun _ => holding [ov] (getMethod ov nm pl) >>= fun fa => callWith pos fa.1 fa.2 (backTo pos (starEach (e :: es) X.env)) (backToKw pos (keywordEach [] X.env))) := by rfl) :
    PE X (.Call (.Attribute o nm apos) (e :: es) [] pos) (tMethS C nm sp W to ta) := by
  constructor
  intro pins t σ G Q J want
  refine PySem.W.methodCall_KW (pl := pl) (thn (ho.run pins t σ G _ J want) ?_) shape
  rintro u t1 ⟨_, G1, J1, ru, a, dx, fs, rfl, ea, l, q⟩
  cases (show u = Value.ref a from ru)
  refine getmeth_ok J1 ea c m l ?_
  refine PySem.W.callWith_K (first := [.ref a]) (h₀ := X.base) J1.ok.mod.kin m.kp (thn (args.run pos pins t1 σ G1 _ J1 q) ?_) first plain
  rintro us t2 ⟨vs, G2, J2, rv, q2⟩
  exact ⟨J2.kIn, run_fnS (E := WE W) (us := .ref a :: us) (vs := .ref a :: vs) F room bd (passAt tk σ) J2 (.cons rfl rv) q2⟩
end
end Mkx
/-! ## enumerate(t), t a tuple -/
namespace PySem
set_option maxHeartbeats 1000000 in
theorem meets_enumerate_one {v : Value} {o : Obj} {H : Heap → Prop} (B : Begins v o H) :
    Meets (Builtin.«enumerate.__new__» ⟨[.type "enumerate", v], []⟩) (fun _ R s => H s.heap ∧
      R (.ok (.ret (.ref (s.heap.push o).objs.size))) { s with heap := (s.heap.push o).push { cls := .type "enumerate", data := .fields #[.none, .bool false, .ref s.heap.objs.size, rawInt 0, .none, .none] } }) :=
  .of_wp fun prog w A R s h => by
    obtain ⟨hp, g, d, tk, os⟩ := s; obtain ⟨h1, h⟩ := h
    have hsub := sub_enumerate
    have q1 : ∀ {A' : Around} {E : Value → Shared → Prop} {Q : Value → Shared → Prop}, Q (.ref hp.objs.size) ⟨hp.push o, g, d, tk, os⟩ → wpAny (model prog w) A' (pyIter v) Q E ⟨hp, g, d, tk, os⟩ :=
      fun q => B.iter prog w _ _ ⟨hp, g, d, tk, os⟩ _ h1 q
    wp_walk using q1
    refine wpAny_stack_any fun st => wpAny_pure ?_
    split
    · rename_i c _ _ _ _ _
      cases (c == Value.type "enumerate")
      · wp_walk using q1
        exact ⟨_, rfl, h⟩
      · wp_walk using q1
        exact ⟨_, rfl, h⟩
    · wp_walk using q1
      exact ⟨_, rfl, h⟩
theorem enum_begins_one {prog : Program} {w : World} {A : Around} {E : Value → Shared → Prop} {s : Shared} {v : Value} {o : Obj} {H : Heap → Prop} {Q : Value → Shared → Prop} (B : Begins v o H) (h1 : H s.heap)
    (h : ∀ h', IsEnum h' (s.heap.objs.size + 1) s.heap.objs.size 0 .none → h'.get? s.heap.objs.size = some o → h'.objs.size = s.heap.objs.size + 2 →
      (∀ b o, s.heap.get? b = some o → h'.get? b = some o) → Q (.ref (s.heap.objs.size + 1)) { s with heap := h' }) :
    wpAny (model prog w) A (call (.type "enumerate") [v]) Q E s := by
  refine callType_new F.called_enumerate (by decide) (F.typeCall_enumerate_1 _) (F.newCall_enumerate_1 _) (fun obj => F.args_object_init_2 obj _) F.entry_enumerate_new
    (meets_enumerate_one B) ⟨h1, ?_⟩
  have hz : (s.heap.push o).objs.size = s.heap.objs.size + 1 := Heap.size_push ..
  show _ ∧ _
  rw [hz]
  have he : IsEnum ((s.heap.push o).push { cls := .type "enumerate", data := .fields #[.none, .bool false, .ref s.heap.objs.size, rawInt 0, .none, .none] }) (s.heap.objs.size + 1) s.heap.objs.size 0 .none := by
    have := Heap.get?_push_size (s.heap.push o) (o := { cls := .type "enumerate", data := .fields #[.none, .bool false, .ref s.heap.objs.size, rawInt 0, .none, .none] }) rfl
    rw [hz] at this; exact this
  refine ⟨⟨_, he, rfl⟩, h _ he (Heap.get?_push_of_some _ (Heap.get?_push_size _ B.free)) (by rw [Heap.size_push, hz]) fun b o x => Heap.get?_push_of_some _ (Heap.get?_push_of_some _ x)⟩
end PySem
namespace Nd
open PySem PySem.Spec PyProof.Rows L2
/-- the tuple at a, each item in a new pair with its number -/
def ItT (K : PySem.W.Frag) (a : Addr) : It :=
  ⟨fun i G => ∃ (xs : List V) (x : V), SqT K G a xs ∧ xs[i]? = some x, fun i G v G' => ∃ T x, v = .ref T ∧ G T = none ∧ G' = upd G T (.tup [.int (i : Nat), x]) ∧ ∀ xs, SqT K G a xs → xs[i]? = some x, fun i G => ∃ xs : List V, SqT K G a xs ∧ xs.length = i⟩
theorem turn_enumT {P : Program} {w : World} {K : PySem.W.Frag} {elts : List Expr} {kk : Nat} {tpos : Pos} (a e it : Addr) :
    Turn P w K (.Tuple elts kk tpos) (ItT K a) [e, it] e (fun i h => (∃ o, IsEnum h e it (i : Nat) o) ∧ h.IsTupleIter it a i ∧ e ≠ it) where
  mem := List.mem_cons_self
  obj := by
    rintro i h ⟨⟨o, he⟩, ⟨ob, ho, hc, hd⟩, _⟩ b hb
    rcases List.mem_cons.mp hb with rfl | hb
    · exact ⟨_, he, fun v z => nomatch z⟩
    · cases List.mem_singleton.mp hb
      exact ⟨ob, ho, fun v z => by rw [hd] at z; cases z⟩
  keep := fun i h h' ⟨⟨o, he⟩, hi, ne⟩ st => ⟨⟨o, st e (by simp) _ he⟩, hi.at fun ob z => st it (by simp) ob z, ne⟩
  item := by
    intro X hP hw hK hc i pins s σ H E I hf st hg
    subst hP hw hK
    obtain ⟨⟨o, he⟩, hit, ne⟩ := st
    obtain ⟨xs, x, hq, hx⟩ := hg
    obtain ⟨its, rv, p, hz⟩ := I.tuple hq
    obtain ⟨u, hu, ru⟩ := rv.get hx
    have le : e < s.heap.objs.size := Heap.lt_size he
    have li : it < s.heap.objs.size := by obtain ⟨_, q, _⟩ := hit; exact Heap.lt_size q
    have ha : s.heap.IsTuple a its.toArray := p
    have nai : a ≠ it := fun z => by
      obtain ⟨o1, q1, c1, _⟩ := ha
      obtain ⟨o2, q2, c2, _⟩ := hit
      rw [z, q2] at q1
      cases q1
      rw [c1] at c2
      exact absurd (Value.type.inj c2) (by decide)
    have nae : e ≠ a := fun z => by
      obtain ⟨o1, q1, c1, _⟩ := ha
      rw [← z, he] at q1
      cases q1
      exact absurd (Value.type.inj (show Value.type "enumerate" = Value.type "tuple" from c1)) (by decide)
    have lt : i < its.toArray.size := by
      have := (List.getElem?_eq_some_iff.mp hu).1
      simpa using this
    refine wpAny_pyNext_enum_itemC (Draws.tuple (A := X.A.in1) (I.ok.hd hc) it a nai its.toArray) he ⟨hit, ha⟩ lt ne (by simp [ne, nae]) fun y h' tk hy ho hst hT hsz stay => ?_
    have ey : y = u := by
      have z : its.toArray[i]? = some y := hy
      rw [List.getElem?_toArray, hu] at z
      exact (Option.some.inj z).symm
    subst ey
    refine ⟨_, rfl, wpAny_letOwnedTupleGo_enum (s := { s with heap := h', toks := tk + 1 }) ho fun h2 he2 sb => ?_⟩
    have hT2 : h2.get? s.heap.objs.size = some { cls := .type "tuple", data := .seq #[.int (i : Nat) tk, y] } := (sb.2 _ (Nat.ne_of_gt le)).trans hT
    have new : ObjOk X.prog X.w (upd H s.heap.objs.size (.tup [.int (i : Nat), x])) h2 s.heap.objs.size (.tup [.int (i : Nat), x]) :=
      ⟨by show 2 ≤ sizeLine; decide, [.int (i : Nat) tk, y], .cons ⟨_, rfl⟩ (.cons ru .nil), ⟨_, hT2, rfl, _, rfl⟩⟩
    have I1 : Inv X pins σ (upd H s.heap.objs.size (.tup [.int (i : Nat), x])) { s with heap := h2, toks := tk + 1 } :=
      I.turnedNew (ch := [e, it]) (fun b ob hb q => (sb.2 b (fun z => hb (by simp [z]))).trans (stay b ob (fun z => hb (by simp [z])) (fun z => hb (by simp [z])) q)) hf (Nat.le_refl _) new
    refine ⟨.ref s.heap.objs.size, _, I1, rfl, ⟨_, x, rfl, I.hok.fresh (Nat.le_refl _), rfl, fun ys hy' => by rw [I.tuple_inj hy' hq]; exact hx⟩, ⟨⟨y, ?_⟩, hst.1.at fun ob q => (sb.2 it (Ne.symm ne)).trans q, ne⟩, fun b hb => ?_⟩
    · rw [show ((i + 1 : Nat) : Int) = (i : Int) + 1 by omega]; exact he2
    · have lb : b < s.heap.objs.size := by
        rcases List.mem_cons.mp hb with rfl | hb
        · exact le
        · cases List.mem_singleton.mp hb; exact li
      rw [upd_ne (Nat.ne_of_lt lb)]
      exact (hf b hb).1
  done := by
    intro X hP hw hK hc i pins s σ H E I hf st hg
    subst hP hw hK
    obtain ⟨⟨o, he⟩, hit, ne⟩ := st
    obtain ⟨xs, hq, hx⟩ := hg
    obtain ⟨its, rv, p, hz⟩ := I.tuple hq
    obtain ⟨f0, f1, f2, f3, f4, f5⟩ := hf it (by simp)
    have hl := rv.length
    have ha : s.heap.IsTuple a its.toArray := p
    have nai : a ≠ it := fun z => by
      obtain ⟨o1, q1, c1, _⟩ := ha
      obtain ⟨o2, q2, c2, _⟩ := hit
      rw [z, q2] at q1
      cases q1
      rw [c1] at c2
      exact absurd (Value.type.inj c2) (by decide)
    have sz : its.toArray.size = i := by
      rw [List.size_toArray, ← hl]
      exact hx
    exact wpAny_pyNext_enum_endD (Draws.tuple (A := X.A.in1) (I.ok.hd hc) it a nai its.toArray) he ⟨by rw [sz]; exact hit, ha⟩ fun h' eb => ⟨rfl, I.turned (t' := s.toks) (fun b o hb q => eb b o hb q) f0 f1 f3 f4 f5⟩
  self := fun A i s Q E ⟨⟨_, he⟩, _⟩ h => wpAny_pyIter_enum he h
def iEnumT (K : PySem.W.Frag) (ta : TA) : TI := fun σ G R => ta σ G fun vs G1 => ∃ a xs, vs = [.ref a] ∧ SqT K G1 a xs ∧ R (ItT K a) G1
theorem pi_enumT {X : Cx} {e : Expr} {ta : TA} {p pos tpos : Pos} {elts : List Expr} {kk : Nat} (hg : Gl X "enumerate") (hm : X.mg "enumerate" = none) (ha : PA X [e] ta) (hs : starEach [e] X.env = [(false, eval e X.env)] := by rfl) :
    PI X (.Tuple elts kk tpos) (.Call (.Name "enumerate" p) [e] [] pos) (iEnumT X.K ta) := by
  refine ⟨fun pins s σ H R I h => ?_⟩
  refine Call_ (ld_blt I hg hm boot_enumerate (PyProof.Rows.callWith_type1 (thn (ha.run pos pins s σ H _ I h) fun us s1 ⟨vs, H1, I1, r1, q1⟩ => ?_) hs rfl))
  obtain ⟨a, xs, ex, hq, q⟩ := q1
  subst ex
  cases r1 with
  | cons r rr =>
    cases rr
    cases r
    obtain ⟨its, rv, p', hz⟩ := I1.tuple hq
    have hT : s1.heap.IsTuple a its.toArray := p'
    refine PySem.enum_begins_one (begins_tuple a its.toArray) hT fun h' he hit hsz hk => wpAny_pyIter_enum he ?_
    have I2 : Inv X pins σ H1 { s1 with heap := h' } := I1.kept (t' := s1.toks) hk
    refine ⟨s1.heap.objs.size + 1, [s1.heap.objs.size + 1, s1.heap.objs.size], _, _, H1, rfl, I2, turn_enumT a (s1.heap.objs.size + 1) s1.heap.objs.size, ⟨⟨.none, he⟩, ⟨_, hit, rfl, rfl⟩, Nat.succ_ne_self _⟩, fun b hb => ?_, q⟩
    have e' : b = s1.heap.objs.size + 1 ∨ b = s1.heap.objs.size := by simpa using hb
    have hle : s1.heap.objs.size ≤ b := by
      rcases e' with z | z
      · rw [z]; exact Nat.le_add_right _ _
      · rw [z]; exact Nat.le_refl _
    exact I1.fpOk hle (I1.hok.fresh hle)
/-- for n, x in enumerate(t) -/
theorem for_enumT {K : PySem.W.Frag} {a : Addr} {xs : List V} {g : TG} {tb : TS} {D : Ends} {σ : L2.St} {H : Hp} (Pv : Nat → L2.St → Hp → Prop) (h0 : Pv 0 σ H) (hl : ∀ i σ H, i ≤ xs.length → Pv i σ H → SqT K H a xs)
    (hs : ∀ i x σ H T, xs[i]? = some x → Pv i σ H → H T = none → g (.ref T) σ (upd H T (.tup [.int (i : Nat), x])) fun σ2 H2 => tb { D with nx := Pv (i + 1), ct := Pv (i + 1), bk := D.nx } σ2 H2) (hd : ∀ σ H, Pv xs.length σ H → D.nx σ H) :
    ∃ W : Nat → Nat → L2.St → Hp → Prop, (∃ m, W 0 m σ H) ∧ ∀ i m σ H, W i m σ H →
      ((Nd.ItT K a).stop i H ∧ D.nx σ H) ∨ ((Nd.ItT K a).go i H ∧ ∃ N : L2.St → Hp → Prop, (∀ σ' H', N σ' H' → ∃ m', m' < m ∧ W (i + 1) m' σ' H') ∧ ∀ x H', (Nd.ItT K a).yld i H x H' → g x σ H' fun σ2 H2 => tb { D with nx := N, ct := N, bk := D.nx } σ2 H2) := by
  refine ⟨fun i m σ H => m = xs.length - i ∧ i ≤ xs.length ∧ Pv i σ H, ⟨xs.length, by simp, Nat.zero_le _, h0⟩, ?_⟩
  rintro i m σ H ⟨rfl, hi, p⟩
  have q := hl i σ H hi p
  by_cases hlt : i < xs.length
  · refine .inr ⟨⟨xs, xs[i], q, by simp [hlt]⟩, Pv (i + 1), fun σ' H' p' => ⟨xs.length - (i + 1), by omega, rfl, hlt, p'⟩, fun x H' y => ?_⟩
    obtain ⟨T, z, rfl, nT, rfl, y⟩ := y
    exact hs i z σ H T (y xs q) p nT
  · have e : i = xs.length := by omega
    subst e
    exact .inl ⟨⟨xs, q, rfl⟩, hd σ H p⟩
end Nd
/-! ## o.f as one of several targets -/
namespace Nd
open PySem PySem.Spec PyProof.Rows L2
def gFld (K : PySem.W.Frag) (to : TE) (f : Str) : TG := fun v σ H Q => to σ H fun x H2 => ∃ a C dx fs, x = .ref a ∧ H2 a = some (.ins C dx fs) ∧ Cls K C ∧ NoAttr K C f ∧ fs.length < 1000 ∧ Q σ (upd H2 a (.ins C dx (putF f v fs)))
theorem pg_fld {X : Cx} {o : Expr} {f : Str} {pos : Pos} {to : TE} (ho : PE X o to)
    (ha : ∀ v, assign (.Attribute o f pos) X.env v = (do
      let ov ← holding [v] (eval o X.env)
      standAt pos.atName
      holding [v, ov] (setAttr ov f v)
      release [v, ov] []) := by intro _; rfl) : PG X (.Attribute o f pos) (gFld X.K to f) := by
  refine ⟨fun pins s σ H v u Q I r h => ?_⟩
  rw [ha]
  refine wpAny_bind (wpAny_holding (thn (ho.run pins s σ H _ I h) fun ov s1 ⟨x, H1, I1, r1, q1⟩ => ?_))
  obtain ⟨a, C, dx, fs, ex, ea, c, n, l, q2⟩ := q1
  subst ex
  obtain rfl : ov = Value.ref a := r1
  refine wpAny_bind (wpAny_standAt (wpAny_bind (wpAny_holding (setattr_ok I1 ea c n l r fun s2 I2 => ?_))))
  exact wpAny_release ⟨σ, _, I2, q2⟩
end Nd
namespace H2
open PySem PySem.Spec PyProof.Rows L2 Hx Nd Dun
def top (i : Nat) : Stmt := PySem.Challenge.pw_heapcode_k02_whole_lines_read.main.body.getD i (.Pass ⟨0, 0, 0, 0⟩)
abbrev sBag : Stmt := top 56
abbrev sDraw : Stmt := top 57
section
variable {P : Program} {w : World} {K : PySem.W.Frag} {mg : Str → Option Value} {base : Heap} {D : Addr}
abbrev iBadKind : Stmt := inClass (top 3) 0
theorem scBadKind : FnScope ["self", "kind"] ["self", "kind"] (defScope iBadKind) := ⟨rfl, rfl, rfl, by decide +kernel, rfl, by decide +kernel, by decide +kernel⟩
theorem okBadKind {fI : Addr} {fd : FuncData} (F : Fun K "__init__" "BadKind.__init__" iBadKind fI fd) (B : BaseT K mg D) : FnOk P w K mg base CX0 1 fI fd ["self", "kind"] (spI1 K "kind") := by
  refine F.ok scBadKind (fun vs H Q E h => ?_) (fun cdv A outer s H vs Q E hr h => ?_)
  · obtain ⟨a, C, v, rfl, _⟩ := h
    rfl
  · obtain ⟨a, C, v, rfl, T, n1, ea, q⟩ := h
    refine ⟨_, pss_cons (ps_expr (pe_binit B.gB B.rdB B.fcB (pa_cons (pv 0) (pa_cons pe_str pa_nil)))) (pss_one (ps_ost (pv 0) (pv 1))), ?_⟩
    refine ⟨_, rfl, a, C, _, rfl, (by show 1 ≤ 1000; decide), T, ea, _, rfl, _, rfl, a, C, rfl, T, n1, .inl ⟨ea, fun dx nd ne => ?_⟩⟩
    exact q dx nd ne
abbrev iBadWidth : Stmt := inClass (top 4) 0
theorem scBadWidth : FnScope ["self", "width"] ["self", "width"] (defScope iBadWidth) := ⟨rfl, rfl, rfl, by decide +kernel, rfl, by decide +kernel, by decide +kernel⟩
theorem okBadWidth {fI : Addr} {fd : FuncData} (F : Fun K "__init__" "BadWidth.__init__" iBadWidth fI fd) (B : BaseT K mg D) : FnOk P w K mg base CX0 1 fI fd ["self", "width"] (spI1 K "width") := by
  refine F.ok scBadWidth (fun vs H Q E h => ?_) (fun cdv A outer s H vs Q E hr h => ?_)
  · obtain ⟨a, C, v, rfl, _⟩ := h
    rfl
  · obtain ⟨a, C, v, rfl, T, n1, ea, q⟩ := h
    refine ⟨_, pss_cons (ps_expr (pe_binit B.gB B.rdB B.fcB (pa_cons (pv 0) (pa_cons pe_str pa_nil)))) (pss_one (ps_ost (pv 0) (pv 1))), ?_⟩
    refine ⟨_, rfl, a, C, _, rfl, (by show 1 ≤ 1000; decide), T, ea, _, rfl, _, rfl, a, C, rfl, T, n1, .inl ⟨ea, fun dx nd ne => ?_⟩⟩
    exact q dx nd ne
abbrev iBadLine : Stmt := inClass (top 5) 0
theorem scBadLine : FnScope ["self", "line"] ["self", "line"] (defScope iBadLine) := ⟨rfl, rfl, rfl, by decide +kernel, rfl, by decide +kernel, by decide +kernel⟩
theorem okBadLine {fI : Addr} {fd : FuncData} (F : Fun K "__init__" "BadLine.__init__" iBadLine fI fd) (B : BaseT K mg D) : FnOk P w K mg base CX0 1 fI fd ["self", "line"] (spI1 K "line") := by
  refine F.ok scBadLine (fun vs H Q E h => ?_) (fun cdv A outer s H vs Q E hr h => ?_)
  · obtain ⟨a, C, v, rfl, _⟩ := h
    rfl
  · obtain ⟨a, C, v, rfl, T, n1, ea, q⟩ := h
    refine ⟨_, pss_cons (ps_expr (pe_binit B.gB B.rdB B.fcB (pa_cons (pv 0) (pa_cons pe_str pa_nil)))) (pss_one (ps_ost (pv 0) (pv 1))), ?_⟩
    refine ⟨_, rfl, a, C, _, rfl, (by show 1 ≤ 1000; decide), T, ea, _, rfl, _, rfl, a, C, rfl, T, n1, .inl ⟨ea, fun dx nd ne => ?_⟩⟩
    exact q dx nd ne
abbrev iRefused : Stmt := inClass (top 6) 0
theorem scRefused : FnScope ["self", "line"] ["self", "line"] (defScope iRefused) := ⟨rfl, rfl, rfl, by decide +kernel, rfl, by decide +kernel, by decide +kernel⟩
theorem okRefused {fI : Addr} {fd : FuncData} (F : Fun K "__init__" "Refused.__init__" iRefused fI fd) (B : BaseT K mg D) : FnOk P w K mg base CX0 1 fI fd ["self", "line"] (spI1 K "line") := by
  refine F.ok scRefused (fun vs H Q E h => ?_) (fun cdv A outer s H vs Q E hr h => ?_)
  · obtain ⟨a, C, v, rfl, _⟩ := h
    rfl
  · obtain ⟨a, C, v, rfl, T, n1, ea, q⟩ := h
    refine ⟨_, pss_cons (ps_expr (pe_binit B.gB B.rdB B.fcB (pa_cons (pv 0) (pa_cons pe_str pa_nil)))) (pss_one (ps_ost (pv 0) (pv 1))), ?_⟩
    refine ⟨_, rfl, a, C, _, rfl, (by show 1 ≤ 1000; decide), T, ea, _, rfl, _, rfl, a, C, rfl, T, n1, .inl ⟨ea, fun dx nd ne => ?_⟩⟩
    exact q dx nd ne
abbrev iTooMany : Stmt := inClass (top 7) 0
theorem scTooMany : FnScope ["self", "what", "many", "most"] ["self", "what", "many", "most"] (defScope iTooMany) := ⟨rfl, rfl, rfl, by decide +kernel, rfl, by decide +kernel, by decide +kernel⟩
theorem okTooMany {fI : Addr} {fd : FuncData} (F : Fun K "__init__" "TooMany.__init__" iTooMany fI fd) (B : BaseT K mg D) : FnOk P w K mg base CX0 1 fI fd ["self", "what", "many", "most"] (spI3 K "what" "many" "most") := by
  refine F.ok scTooMany (fun vs H Q E h => ?_) (fun cdv A outer s H vs Q E hr h => ?_)
  · obtain ⟨a, C, u, v, z, rfl, _⟩ := h
    rfl
  · obtain ⟨a, C, u, v, z, rfl, T, n1, n2, n3, ea, q⟩ := h
    refine ⟨_, pss_cons (ps_expr (pe_binit B.gB B.rdB B.fcB (pa_cons (pv 0) (pa_cons pe_str pa_nil)))) (pss_cons (ps_ost (pv 0) (pv 1)) (pss_cons (ps_ost (pv 0) (pv 2)) (pss_one (ps_ost (pv 0) (pv 3))))), ?_⟩
    refine ⟨_, rfl, a, C, _, rfl, (by show 1 ≤ 1000; decide), T, ea, _, rfl, _, rfl, a, C, rfl, T, n1, .inl ⟨ea, fun dx nd ne => ?_⟩⟩
    refine ⟨_, rfl, _, rfl, a, C, rfl, T, n2, .inr ⟨dx, _, upd_same, (by rw [upd_ne ne, upd_same]), (by show 1 ≤ 900; decide), ?_⟩⟩
    refine ⟨_, rfl, _, rfl, a, C, rfl, T, n3, .inr ⟨dx, _, (by rw [upd_ne ne.symm, upd_same]), upd_same, (by show 2 ≤ 900; decide), ?_⟩⟩
    exact q dx nd ne
theorem scBag : FnScope ["_law_script", "_law_fold", "_law_cell"] ["_law_script"] (defScope sBag) := ⟨rfl, rfl, rfl, by decide +kernel, rfl, by decide +kernel, by decide +kernel⟩
theorem ok_bag {f : Addr} {fd : FuncData} (F : Fun K "_law_bag" "_law_bag" sBag f fd) (B : BltT mg) : FnOk P w K mg base CX0 1 f fd ["_law_script"] (spBag K) := by
  refine F.ok scBag (fun vs H Q E h => ?_) (fun cdv A outer s H vs Q E hr h => ?_)
  · obtain ⟨a, ns, rfl, _⟩ := h
    rfl
  · obtain ⟨a, ns, rfl, hS, hl, q⟩ := h
    refine ⟨_, pss_cons (ps_set (i := 1) scBag.nd rfl (Or.inl rfl) pe_int)
      (pss_cons (ps_for PassesOwn.never rfl (pi_list (pv 0)) (pg_name (i := 2) scBag.nd rfl (Or.inl rfl))
        (pss_one (ps_set (i := 1) scBag.nd rfl (Or.inl rfl) (pe_op op_mod (pe_callTy call_int1 (by rfl) B.int (by decide +kernel) (pa_cons (pe_op op_add (pe_op op_mul (pv 1) pe_int) (pv 2)) pa_nil)) pe_int))))
      (pss_one (ps_ret (pe_disp (pps_cons pe_str (pe_callTy call_list_of (by rfl) B.list (by decide +kernel) (pa_cons (pv 0) pa_nil)) (pps_cons pe_str pe_int (pps_cons pe_str pe_int (pps_cons pe_str pe_int (pps_cons pe_str (pv 1) pps_nil))))) (by rfl) (by rfl) (fun z => by cases z) (by decide))))), ?_⟩
    refine ⟨_, rfl, a, rfl, ⟨_, hS⟩, for_list (K := K) (a := a) (xs := ns.map V.int) (fun i σ H' => H' = H ∧ ∃ (fo : Int) (v : Option V), σ = [some (.ref a), some (.int fo), v] ∧ 0 ≤ fo ∧ fo < 1000000009)
      ⟨rfl, 0, none, rfl, by decide, by decide⟩ (fun i σ H' _ ⟨e, _⟩ => by rw [e]; exact hS) ?_ ?_⟩
    · rintro i y σ H' hi ⟨rfl, fo, v, rfl, h0, h1⟩
      obtain ⟨u, rfl⟩ : ∃ u, y = V.int u := by
        rw [List.getElem?_map] at hi
        cases e : ns[i]? with
        | none => rw [e] at hi; cases hi
        | some u => rw [e] at hi; exact ⟨u, (Option.some.inj hi).symm⟩
      refine ⟨_, rfl, _, _, rfl, rfl, .inl ⟨by omega, by omega⟩, _, rfl, _, _, rfl, rfl, .inl ⟨_, rfl, _, _, rfl, rfl, (by show (0 : Int) < 1000000009; decide), ?_⟩⟩
      exact ⟨rfl, _, _, rfl, Int.emod_nonneg _ (by decide), Int.emod_lt_of_pos _ (by decide)⟩
    · rintro σ H' ⟨rfl, fo, v, rfl, h0, h1⟩
      refine fun p hp => ?_
      refine ⟨_, rfl, a, _, rfl, .inl (L2.Same.seq (new_same hp) hS), fun l hl' => ?_⟩
      have npl : p ≠ l := fun e => by rw [e, upd_same] at hl'; cases hl'
      have lnone : H' l = none := by rw [upd_ne npl.symm] at hl'; exact hl'
      refine ⟨_, rfl, ?_, [(kC, .ref l), (kA, .int 0), (kD, .int 0), (kN, .int 0), (kF, .int fo)], rfl, (by show 5 ≤ 15; decide), ?_⟩
      · rw [upd_ne npl, upd_same]
      · have em : mergeK [] [(kC, V.ref l), (kA, .int 0), (kD, .int 0), (kN, .int 0), (kF, .int fo)] = bagK l 0 0 0 fo := by
          simp [mergeK, putK, bagK, strN nCA, strN nCD, strN nCN, strN nCF, strN nAD, strN nAN, strN nAF, strN nDN, strN nDF, strN nNF]
        refine q p _ hp (fun b o e => ?_) ⟨l, ns, 0, 0, fo, (by rw [upd_same, em]; rfl), (by rw [upd_ne npl.symm, upd_same]), hl, by decide, by decide, h0, by omega⟩
        rw [upd_ne (ne_of_none e hp), upd_ne (ne_of_none e lnone), upd_ne (ne_of_none e hp)]
        exact e
theorem scDraw : FnScope ["_law_bag_here", "_law_limit", "_law_cell", "_law_digit", "_law_base"] ["_law_bag_here", "_law_limit"] (defScope sDraw) := ⟨rfl, rfl, rfl, by decide +kernel, rfl, by decide +kernel, by decide +kernel⟩
theorem ok_draw {f : Addr} {fd : FuncData} (F : Fun K "_law_draw" "_law_draw" sDraw f fd) (B : BltT mg) : FnOk P w K mg base CX0 1 f fd ["_law_bag_here", "_law_limit"] spDraw := by
  refine F.ok scDraw (fun vs H Q E h => ?_) (fun cdv A outer s H vs Q E hr h => ?_)
  · obtain ⟨p, n, m, rfl, _⟩ := h
    rfl
  · obtain ⟨p, n, m, rfl, ⟨l, ns, i, dg, fo, hp, hl, hlen, i0, d0, f0, f1⟩, hn, m0, m1, q⟩ := h
    have hu := hu_of hr
    have npl : l ≠ p := ne_of hl hp (by intro z; cases z)
    refine ⟨_, pss_cons (ps_dput hu (pv 0) pe_str (pe_op op_add (pe_dget hu (pv 0) pe_str (fun _ _ => rfl)) pe_int) rfl)
      (Evl.pss_cut (ps_if (PW.pt (pw_and (pt_cmpR op_eq (pe_dget hu (pv 0) pe_str (fun _ _ => rfl)) pe_int (nomark _)) (pw_and1 (pt_cmpR op_lt (pe_dget hu (pv 0) pe_str (fun _ _ => rfl)) (pe_callB call_len_seq (by rfl) B.len PySem.boot_len (pa_cons (pe_dget hu (pv 0) pe_str (fun _ _ => rfl)) pa_nil)) (nomark _)))))
          (pss_cons (ps_set (i := 2) scDraw.nd rfl (Or.inl rfl) (pe_ix ix_list (pe_dget hu (pv 0) pe_str (fun _ _ => rfl)) (pe_dget hu (pv 0) pe_str (fun _ _ => rfl)) (fun _ _ => rfl)))
          (pss_cons (ps_dput hu (pv 0) pe_str (pe_op op_add (pe_dget hu (pv 0) pe_str (fun _ _ => rfl)) pe_int) rfl)
          (pss_one (ps_if (pt_cmpR op_ge (pv 2) (pe_op op_pow pe_int pe_int) (nomark _))
            (pss_one (ps_dput hu (pv 0) pe_str (pe_op op_sub (pv 2) (pe_op op_pow pe_int pe_int)) rfl))
            (pss_one (ps_dput hu (pv 0) pe_str (pe_op op_mod (pe_callTy call_int1 (by rfl) B.int (by decide +kernel) (pa_cons (pe_op op_add (pe_op op_mul (pe_dget hu (pv 0) pe_str (fun _ _ => rfl)) pe_int) (pv 2)) pa_nil)) pe_int) rfl))))))
          pss_nil)
      (pss_cons (ps_if (pt_cmpR op_gt (pe_dget hu (pv 0) pe_str (fun _ _ => rfl)) pe_int (nomark _))
          (pss_cons (ps_set (i := 3) scDraw.nd rfl (Or.inl rfl) (pe_op op_mod (pe_callTy call_int1 (by rfl) B.int (by decide +kernel) (pa_cons (pe_dget hu (pv 0) pe_str (fun _ _ => rfl)) pa_nil)) (pv 1)))
          (pss_cons (ps_dput hu (pv 0) pe_str (pe_op op_fdivW (pe_dget hu (pv 0) pe_str (fun _ _ => rfl)) (pv 1)) rfl)
          (pss_one (ps_ret (pv 3)))))
          pss_nil)
      (pss_cons (ps_set (i := 4) scDraw.nd rfl (Or.inl rfl) (pe_op op_add (pe_op op_add (pe_dget hu (pv 0) pe_str (fun _ _ => rfl)) (pe_op op_mul (pe_dget hu (pv 0) pe_str (fun _ _ => rfl)) pe_int)) pe_int))
      (pss_one (ps_ret (pe_op op_mod (pe_op op_fdiv (pe_callTy call_int1 (by rfl) B.int (by decide +kernel) (pa_cons (pe_op op_mod (pe_op op_pow (pv 4) pe_int) pe_int) pa_nil)) pe_int) (pv 1))))))), ?_⟩
    have five : ∀ {l i dg ct fo}, (bagK l i dg ct fo).length < sizeLine := fun {l i dg ct fo} => by show 5 < sizeLine; decide
    -- bag["count"] = bag["count"] + 1
    refine ⟨_, rfl, p, _, rfl, (show DGet _ _ (kV kN) _ from by rw [← gN l i dg n fo]; exact DGet.k hp), _, _, rfl, rfl, _, rfl, p, _, rfl, DPut.k (k := kN) hp five, ?_⟩
    rw [pN]
    -- Mid: a bag again, with one more
    refine ⟨fun σ G => ∃ v : Option V, σ = [some (.ref p), some (.int m), v, none, none] ∧ Bag G p (n + 1) ∧ But p H G, ?_, ?_⟩
    · have hp1 : (upd H p (.dK (bagK l i dg ((n : Int) + 1) fo))) p = some (.dK (bagK l i dg ((n : Int) + 1) fo)) := upd_same
      have hl1 : ∀ o, (upd H p o) l = some (.lst (ns.map V.int)) := fun o => by rw [upd_ne npl]; exact hl
      have en : ((n : Int) + 1) = ((n + 1 : Nat) : Int) := by omega
      have mid : ∀ (i dg fo : Int), 0 ≤ i → 0 ≤ dg → 0 ≤ fo → fo < 2147483587 → Bag (upd H p (.dK (bagK l i dg ((n : Int) + 1) fo))) p (n + 1) := fun i dg fo a b c d =>
        ⟨l, ns, i, dg, fo, (by rw [upd_same, en]), hl1 _, hlen, a, b, c, d⟩
      refine ⟨_, rfl, p, _, rfl, (show DGet _ _ (kV kD) _ from by rw [← gD l i dg ((n : Int) + 1) fo]; exact DGet.k hp1), rfl, _, rfl, ?_⟩
      refine ite2 (fun c => ?_) (fun c => ?_)
      · refine ⟨_, rfl, p, _, rfl, (show DGet _ _ (kV kA) _ from by rw [← gA l i dg ((n : Int) + 1) fo]; exact DGet.k hp1), _, rfl, p, _, rfl, (show DGet _ _ (kV kC) _ from by rw [← gC l i dg ((n : Int) + 1) fo]; exact DGet.k hp1), l, _, rfl, .inl (SqL.of (hl1 _)), _, _, rfl, rfl, _, rfl, ?_⟩
        refine ite2 (fun c2 => ?_) (fun c2 => ?_)
        · have c3 : i < (ns.length : Int) := by
            have z := of_decide_eq_true c2
            rw [List.length_map] at z
            exact z
          obtain ⟨v, hv⟩ : ∃ v, ns[i.toNat]? = some v := ⟨_, List.getElem?_eq_getElem (by omega)⟩
          have hat : atI (ns.map V.int) i = some (.int v) := at_of (j := i.toNat) (by omega) (by rw [List.getElem?_map, hv] <;> rfl)
          refine ⟨_, rfl, p, _, rfl, (show DGet _ _ (kV kC) _ from by rw [← gC l i dg ((n : Int) + 1) fo]; exact DGet.k hp1), _, rfl, p, _, rfl, (show DGet _ _ (kV kA) _ from by rw [← gA l i dg ((n : Int) + 1) fo]; exact DGet.k hp1), l, _, _, _, rfl, rfl, SqL.of (hl1 _), hat, ?_⟩
          refine ⟨_, rfl, p, _, rfl, (show DGet _ _ (kV kA) _ from by rw [← gA l i dg ((n : Int) + 1) fo]; exact DGet.k hp1), _, _, rfl, rfl, _, rfl, p, _, rfl, DPut.k (k := kA) hp1 five, ?_⟩
          rw [pA, upd_upd]
          have hp2 : (upd H p (.dK (bagK l (i + 1) dg ((n : Int) + 1) fo))) p = some (.dK (bagK l (i + 1) dg ((n : Int) + 1) fo)) := upd_same
          refine ⟨_, rfl, _, _, rfl, rfl, ⟨by decide, by decide, by decide⟩, _, _, rfl, rfl, _, rfl, ?_⟩
          refine ite2 (fun c4 => ?_) (fun c4 => ?_)
          · have c5 : v ≥ (10 : Int) ^ (18 : Int).toNat := of_decide_eq_true c4
            refine ⟨_, rfl, _, _, rfl, rfl, ⟨by decide, by decide, by decide⟩, _, _, rfl, rfl, _, rfl, p, _, rfl, DPut.k (k := kD) hp2 five, ?_⟩
            rw [pD, upd_upd]
            exact ⟨_, rfl, mid _ _ _ (by omega) (Int.sub_nonneg_of_le c5) f0 f1, But.upd⟩
          · refine ⟨_, rfl, p, _, rfl, (show DGet _ _ (kV kF) _ from by rw [← gF l (i + 1) dg ((n : Int) + 1) fo]; exact DGet.k hp2), _, _, rfl, rfl, .inl ⟨by omega, by omega⟩, _, rfl, _, _, rfl, rfl, .inl ⟨_, rfl, _, _, rfl, rfl, (by show (0 : Int) < 2147483587; decide), _, rfl, p, _, rfl, DPut.k (k := kF) hp2 five, ?_⟩⟩
            rw [pF, upd_upd]
            exact ⟨_, rfl, mid _ _ _ (by omega) d0 (Int.emod_nonneg _ (by decide)) (Int.emod_lt_of_pos _ (by decide)), But.upd⟩
        · exact ⟨_, rfl, mid _ _ _ i0 d0 f0 f1, But.upd⟩
      · exact ⟨_, rfl, mid _ _ _ i0 d0 f0 f1, But.upd⟩
    · rintro σ G ⟨v, rfl, ⟨l, ns, i, dg, fo, hp, hl, hlen, i0, d0, f0, f1⟩, hB⟩
      have npl : l ≠ p := ne_of hl hp (by intro z; cases z)
      have hc : ((n + 1 : Nat) : Int) = (n : Int) + 1 := by omega
      refine ⟨_, rfl, p, _, rfl, (show DGet _ _ (kV kD) _ from by rw [← gD l i dg ((n + 1 : Nat) : Int) fo]; exact DGet.k hp), _, _, rfl, rfl, _, rfl, ?_⟩
      refine ite2 (fun c => ?_) (fun c => ?_)
      · refine ⟨_, rfl, p, _, rfl, (show DGet _ _ (kV kD) _ from by rw [← gD l i dg ((n + 1 : Nat) : Int) fo]; exact DGet.k hp), .inl ⟨_, rfl, _, rfl, _, _, rfl, rfl, m0, ?_⟩⟩
        refine ⟨_, rfl, p, _, rfl, (show DGet _ _ (kV kD) _ from by rw [← gD l i dg ((n + 1 : Nat) : Int) fo]; exact DGet.k hp), _, rfl, _, _, rfl, rfl, wide_div m0 m1 (by decide) (by decide), _, rfl, p, _, rfl, DPut.k (k := kD) hp five, ?_⟩
        rw [pD]
        refine ⟨_, rfl, ?_⟩
        refine q _ _ (Int.emod_nonneg _ (by omega)) (Int.emod_lt_of_pos _ m0) ⟨l, ns, i, dg / m, fo, upd_same, by rw [upd_ne npl]; exact hl, hlen, i0, Int.ediv_nonneg d0 (by omega), f0, f1⟩ (hB.trans But.upd)
      · refine ⟨_, rfl, p, _, rfl, (show DGet _ _ (kV kF) _ from by rw [← gF l i dg ((n + 1 : Nat) : Int) fo]; exact DGet.k hp), _, rfl, p, _, rfl, (show DGet _ _ (kV kN) _ from by rw [← gN l i dg ((n + 1 : Nat) : Int) fo]; exact DGet.k hp), _, _, rfl, rfl, .inl ⟨by omega, by omega⟩, _, _, rfl, rfl, _, _, rfl, rfl, ?_⟩
        refine ⟨_, rfl, _, _, rfl, rfl, big17 (by omega) (by omega), _, _, rfl, rfl, (by show (0 : Int) < 2305843009213693951; decide), .inl ⟨_, rfl, _, _, rfl, rfl, ⟨by decide, by decide⟩, _, rfl, _, _, rfl, rfl, m0, ?_⟩⟩
        exact q _ _ (Int.emod_nonneg _ (by omega)) (Int.emod_lt_of_pos _ m0) ⟨l, ns, i, dg, fo, hp, hl, hlen, i0, d0, f0, f1⟩ hB
abbrev s_read_number : Stmt := top 13
abbrev n_read_number : List Str := ["word", "width"]
theorem c_read_number : FnScope n_read_number ["word", "width"] (defScope s_read_number) := ⟨rfl, rfl, rfl, by decide +kernel, rfl, by decide +kernel, by decide +kernel⟩
abbrev s_read_side : Stmt := top 14
abbrev n_read_side : List Str := ["words", "place", "width", "number"]
theorem c_read_side : FnScope n_read_side ["words", "place", "width"] (defScope s_read_side) := ⟨rfl, rfl, rfl, by decide +kernel, rfl, by decide +kernel, by decide +kernel⟩
abbrev s_read_comparison : Stmt := top 15
abbrev n_read_comparison : List Str := ["words", "place", "width", "signs", "at", "word", "left", "right"]
theorem c_read_comparison : FnScope n_read_comparison ["words", "place", "width"] (defScope s_read_comparison) := ⟨rfl, rfl, rfl, by decide +kernel, rfl, by decide +kernel, by decide +kernel⟩
abbrev s_read_has : Stmt := top 16
abbrev n_read_has : List Str := ["words", "place", "width", "number"]
theorem c_read_has : FnScope n_read_has ["words", "place", "width"] (defScope s_read_has) := ⟨rfl, rfl, rfl, by decide +kernel, rfl, by decide +kernel, by decide +kernel⟩
abbrev s_read_plain_part : Stmt := top 17
abbrev n_read_plain_part : List Str := ["text", "place", "width", "words"]
theorem c_read_plain_part : FnScope n_read_plain_part ["text", "place", "width"] (defScope s_read_plain_part) := ⟨rfl, rfl, rfl, by decide +kernel, rfl, by decide +kernel, by decide +kernel⟩
abbrev s_read_part : Stmt := top 18
abbrev n_read_part : List Str := ["text", "place", "width", "denied", "plain"]
theorem c_read_part : FnScope n_read_part ["text", "place", "width"] (defScope s_read_part) := ⟨rfl, rfl, rfl, by decide +kernel, rfl, by decide +kernel, by decide +kernel⟩
abbrev s_read_test : Stmt := top 19
abbrev n_read_test : List Str := ["text", "place", "width", "parts", "part"]
theorem c_read_test : FnScope n_read_test ["text", "place", "width"] (defScope s_read_test) := ⟨rfl, rfl, rfl, by decide +kernel, rfl, by decide +kernel, by decide +kernel⟩
abbrev s_names_given : Stmt := top 20
abbrev n_names_given : List Str := ["test", "_", "left", "right"]
theorem c_names_given : FnScope n_names_given ["test"] (defScope s_names_given) := ⟨rfl, rfl, rfl, by decide +kernel, rfl, by decide +kernel, by decide +kernel⟩
abbrev s_Row_init : Stmt := inClass (top 25) 0
abbrev n_Row_init : List Str := ["self", "word", "place", "number", "test"]
theorem c_Row_init : FnScope n_Row_init ["self", "word", "place", "number", "test"] (defScope s_Row_init) := ⟨rfl, rfl, rfl, by decide +kernel, rfl, by decide +kernel, by decide +kernel⟩
abbrev s_row_with_test : Stmt := top 26
abbrev n_row_with_test : List Str := ["word", "place", "text", "width", "test"]
theorem c_row_with_test : FnScope n_row_with_test ["word", "place", "text", "width"] (defScope s_row_with_test) := ⟨rfl, rfl, rfl, by decide +kernel, rfl, by decide +kernel, by decide +kernel⟩
abbrev s_row_of_pick : Stmt := top 27
abbrev n_row_of_pick : List Str := ["place", "text", "width", "number"]
theorem c_row_of_pick : FnScope n_row_of_pick ["place", "text", "width"] (defScope s_row_of_pick) := ⟨rfl, rfl, rfl, by decide +kernel, rfl, by decide +kernel, by decide +kernel⟩
abbrev s_row_of_block_word : Stmt := top 28
abbrev n_row_of_block_word : List Str := ["word", "place", "opened", "takers"]
theorem c_row_of_block_word : FnScope n_row_of_block_word ["word", "place", "opened"] (defScope s_row_of_block_word) := ⟨rfl, rfl, rfl, by decide +kernel, rfl, by decide +kernel, by decide +kernel⟩
abbrev s_read_row : Stmt := top 29
abbrev n_read_row : List Str := ["line", "opened", "width", "loops", "block", "place", "word", "_", "text"]
theorem c_read_row : FnScope n_read_row ["line", "opened", "width"] (defScope s_read_row) := ⟨rfl, rfl, rfl, by decide +kernel, rfl, by decide +kernel, by decide +kernel⟩
abbrev s_blocks_behind : Stmt := top 30
abbrev n_blocks_behind : List Str := ["word", "opened"]
theorem c_blocks_behind : FnScope n_blocks_behind ["word", "opened"] (defScope s_blocks_behind) := ⟨rfl, rfl, rfl, by decide +kernel, rfl, by decide +kernel, by decide +kernel⟩
abbrev s_read_rows : Stmt := top 31
abbrev n_read_rows : List Str := ["lines", "width", "rows", "opened", "number", "line", "row"]
theorem c_read_rows : FnScope n_read_rows ["lines", "width"] (defScope s_read_rows) := ⟨rfl, rfl, rfl, by decide +kernel, rfl, by decide +kernel, by decide +kernel⟩
abbrev s_match_blocks : Stmt := top 33
abbrev n_match_blocks : List Str := ["rows", "heads", "ends", "opened", "at", "row"]
theorem c_match_blocks : FnScope n_match_blocks ["rows"] (defScope s_match_blocks) := ⟨rfl, rfl, rfl, by decide +kernel, rfl, by decide +kernel, by decide +kernel⟩
abbrev s_Flow_init : Stmt := inClass (top 34) 0
abbrev n_Flow_init : List Str := ["self", "rows", "at"]
theorem c_Flow_init : FnScope n_Flow_init ["self", "rows"] (defScope s_Flow_init) := ⟨rfl, rfl, rfl, by decide +kernel, rfl, by decide +kernel, by decide +kernel⟩
abbrev s_Flow_landing : Stmt := inClass (top 34) 1
abbrev n_Flow_landing : List Str := ["self", "at", "head"]
theorem c_Flow_landing : FnScope n_Flow_landing ["self", "at"] (defScope s_Flow_landing) := ⟨rfl, rfl, rfl, by decide +kernel, rfl, by decide +kernel, by decide +kernel⟩
abbrev s_Flow_way_past : Stmt := inClass (top 34) 2
abbrev n_Flow_way_past : List Str := ["self", "at", "place", "head"]
theorem c_Flow_way_past : FnScope n_Flow_way_past ["self", "at"] (defScope s_Flow_way_past) := ⟨rfl, rfl, rfl, by decide +kernel, rfl, by decide +kernel, by decide +kernel⟩
abbrev s_Flow_find_loops : Stmt := inClass (top 34) 3
abbrev n_Flow_find_loops : List Str := ["self", "found", "head", "end", "at"]
theorem c_Flow_find_loops : FnScope n_Flow_find_loops ["self"] (defScope s_Flow_find_loops) := ⟨rfl, rfl, rfl, by decide +kernel, rfl, by decide +kernel, by decide +kernel⟩
abbrev s_is_kind : Stmt := top 39
abbrev n_is_kind : List Str := ["value"]
theorem c_is_kind : FnScope n_is_kind ["value"] (defScope s_is_kind) := ⟨rfl, rfl, rfl, by decide +kernel, rfl, by decide +kernel, by decide +kernel⟩
abbrev s_is_width : Stmt := top 40
abbrev n_is_width : List Str := ["value"]
theorem c_is_width : FnScope n_is_width ["value"] (defScope s_is_width) := ⟨rfl, rfl, rfl, by decide +kernel, rfl, by decide +kernel, by decide +kernel⟩
abbrev s_allows : Stmt := top 41
abbrev n_allows : List Str := ["kind", "word"]
theorem c_allows : FnScope n_allows ["kind", "word"] (defScope s_allows) := ⟨rfl, rfl, rfl, by decide +kernel, rfl, by decide +kernel, by decide +kernel⟩
abbrev s_keeps_order : Stmt := top 46
abbrev n_keeps_order : List Str := ["way", "word", "loops", "home", "_", "once"]
theorem c_keeps_order : FnScope n_keeps_order ["way", "word"] (defScope s_keeps_order) := ⟨rfl, rfl, rfl, by decide +kernel, rfl, by decide +kernel, by decide +kernel⟩
abbrev s_way_behind : Stmt := top 47
abbrev n_way_behind : List Str := ["way", "line", "word", "loops", "home", "cut", "once", "known"]
theorem c_way_behind : FnScope n_way_behind ["way", "line", "word"] (defScope s_way_behind) := ⟨rfl, rfl, rfl, by decide +kernel, rfl, by decide +kernel, by decide +kernel⟩
abbrev s_is_turn : Stmt := top 48
abbrev n_is_turn : List Str := ["way", "word", "loops", "home", "_"]
theorem c_is_turn : FnScope n_is_turn ["way", "word"] (defScope s_is_turn) := ⟨rfl, rfl, rfl, by decide +kernel, rfl, by decide +kernel, by decide +kernel⟩
abbrev s_may_begin : Stmt := top 49
abbrev n_may_begin : List Str := ["way", "word", "loops", "home", "_"]
theorem c_may_begin : FnScope n_may_begin ["way", "word"] (defScope s_may_begin) := ⟨rfl, rfl, rfl, by decide +kernel, rfl, by decide +kernel, by decide +kernel⟩
abbrev s_Walk_init : Stmt := inClass (top 50) 0
abbrev n_Walk_init : List Str := ["self", "kind"]
theorem c_Walk_init : FnScope n_Walk_init ["self", "kind"] (defScope s_Walk_init) := ⟨rfl, rfl, rfl, by decide +kernel, rfl, by decide +kernel, by decide +kernel⟩
abbrev s_Walk_step : Stmt := inClass (top 50) 1
abbrev n_Walk_step : List Str := ["self", "line", "row"]
theorem c_Walk_step : FnScope n_Walk_step ["self", "line", "row"] (defScope s_Walk_step) := ⟨rfl, rfl, rfl, by decide +kernel, rfl, by decide +kernel, by decide +kernel⟩
abbrev s_Walk_begin_loop : Stmt := inClass (top 50) 2
abbrev n_Walk_begin_loop : List Str := ["self", "line", "word", "way", "behind", "loops", "_", "cut", "once"]
theorem c_Walk_begin_loop : FnScope n_Walk_begin_loop ["self", "line", "word"] (defScope s_Walk_begin_loop) := ⟨rfl, rfl, rfl, by decide +kernel, rfl, by decide +kernel, by decide +kernel⟩
abbrev s_Walk_stay_in_loop : Stmt := inClass (top 50) 3
abbrev n_Walk_stay_in_loop : List Str := ["self", "line", "word"]
theorem c_Walk_stay_in_loop : FnScope n_Walk_stay_in_loop ["self", "line", "word"] (defScope s_Walk_stay_in_loop) := ⟨rfl, rfl, rfl, by decide +kernel, rfl, by decide +kernel, by decide +kernel⟩
abbrev s_Walk_fork : Stmt := inClass (top 50) 4
abbrev n_Walk_fork : List Str := ["self", "line", "row", "ahead", "_", "way", "first"]
theorem c_Walk_fork : FnScope n_Walk_fork ["self", "line", "row"] (defScope s_Walk_fork) := ⟨rfl, rfl, rfl, by decide +kernel, rfl, by decide +kernel, by decide +kernel⟩
abbrev s_Walk_pass_line : Stmt := inClass (top 50) 5
abbrev n_Walk_pass_line : List Str := ["self", "line", "word", "way"]
theorem c_Walk_pass_line : FnScope n_Walk_pass_line ["self", "line", "word"] (defScope s_Walk_pass_line) := ⟨rfl, rfl, rfl, by decide +kernel, rfl, by decide +kernel, by decide +kernel⟩
abbrev s_Walk_end_ways : Stmt := inClass (top 50) 6
abbrev n_Walk_end_ways : List Str := ["self", "_", "home"]
theorem c_Walk_end_ways : FnScope n_Walk_end_ways ["self"] (defScope s_Walk_end_ways) := ⟨rfl, rfl, rfl, by decide +kernel, rfl, by decide +kernel, by decide +kernel⟩
abbrev s_least_break : Stmt := top 51
abbrev n_least_break : List Str := ["kind", "rows", "walk", "line", "row"]
theorem c_least_break : FnScope n_least_break ["kind", "rows"] (defScope s_least_break) := ⟨rfl, rfl, rfl, by decide +kernel, rfl, by decide +kernel, by decide +kernel⟩
abbrev s_Code_init : Stmt := inClass (top 54) 0
abbrev n_Code_init : List Str := ["self", "kind", "width", "text", "lines", "rows", "broken"]
theorem c_Code_init : FnScope n_Code_init ["self", "kind", "width", "text"] (defScope s_Code_init) := ⟨rfl, rfl, rfl, by decide +kernel, rfl, by decide +kernel, by decide +kernel⟩
abbrev s_Code_len : Stmt := inClass (top 54) 1
abbrev n_Code_len : List Str := ["self"]
theorem c_Code_len : FnScope n_Code_len ["self"] (defScope s_Code_len) := ⟨rfl, rfl, rfl, by decide +kernel, rfl, by decide +kernel, by decide +kernel⟩
abbrev s_Code_getitem : Stmt := inClass (top 54) 2
abbrev n_Code_getitem : List Str := ["self", "at"]
theorem c_Code_getitem : FnScope n_Code_getitem ["self", "at"] (defScope s_Code_getitem) := ⟨rfl, rfl, rfl, by decide +kernel, rfl, by decide +kernel, by decide +kernel⟩
abbrev s_Code_iter : Stmt := inClass (top 54) 3
abbrev n_Code_iter : List Str := ["self"]
theorem c_Code_iter : FnScope n_Code_iter ["self"] (defScope s_Code_iter) := ⟨rfl, rfl, rfl, by decide +kernel, rfl, by decide +kernel, by decide +kernel⟩
abbrev s_Code_eq : Stmt := inClass (top 54) 4
abbrev n_Code_eq : List Str := ["self", "other"]
theorem c_Code_eq : FnScope n_Code_eq ["self", "other"] (defScope s_Code_eq) := ⟨rfl, rfl, rfl, by decide +kernel, rfl, by decide +kernel, by decide +kernel⟩
abbrev s_Code_as_kind : Stmt := inClass (top 54) 5
abbrev n_Code_as_kind : List Str := ["self", "kind"]
theorem c_Code_as_kind : FnScope n_Code_as_kind ["self", "kind"] (defScope s_Code_as_kind) := ⟨rfl, rfl, rfl, by decide +kernel, rfl, by decide +kernel, by decide +kernel⟩
abbrev s_Ltest : Stmt := top 58
abbrev n_Ltest : List Str := ["_law_bag_here", "_law_place", "_law_width", "_law_kid", "_law_sides", "_law_found", "_law_k", "_law_pick", "_law_one", "_law_other", "_law_part"]
theorem c_Ltest : FnScope n_Ltest ["_law_bag_here", "_law_place", "_law_width"] (defScope s_Ltest) := ⟨rfl, rfl, rfl, by decide +kernel, rfl, by decide +kernel, by decide +kernel⟩
abbrev s_Llines : Stmt := top 59
abbrev n_Llines : List Str := ["_law_bag_here", "_law_place", "_law_deep", "_law_width", "_law_left", "_law_words", "_law_found", "_law_k", "_law_pick", "_law_way"]
theorem c_Llines : FnScope n_Llines ["_law_bag_here", "_law_place", "_law_deep", "_law_width", "_law_left"] (defScope s_Llines) := ⟨rfl, rfl, rfl, by decide +kernel, rfl, by decide +kernel, by decide +kernel⟩
abbrev s_Lbad : Stmt := top 60
abbrev n_Lbad : List Str := ["_law_bag_here", "_law_place", "_law_width", "_law_more", "_law_text", "_law_pool"]
theorem c_Lbad : FnScope n_Lbad ["_law_bag_here", "_law_place", "_law_width"] (defScope s_Lbad) := ⟨rfl, rfl, rfl, by decide +kernel, rfl, by decide +kernel, by decide +kernel⟩
abbrev s_Lopen : Stmt := top 61
abbrev n_Lopen : List Str := ["_law_row", "_law_line", "_law_place", "_law_deep"]
theorem c_Lopen : FnScope n_Lopen ["_law_row"] (defScope s_Lopen) := ⟨rfl, rfl, rfl, by decide +kernel, rfl, by decide +kernel, by decide +kernel⟩
abbrev s_Ltold : Stmt := top 62
abbrev n_Ltold : List Str := ["_law_kind", "_law_width", "_law_lines_here", "e"]
theorem c_Ltold : FnScope n_Ltold ["_law_kind", "_law_width", "_law_lines_here"] (defScope s_Ltold) := ⟨rfl, rfl, rfl, by decide +kernel, rfl, by decide +kernel, by decide +kernel⟩
abbrev s_law : Stmt := top 63
abbrev n_law : List Str := ["_law_script", "_law_bag_here", "_law_width", "_law_kind", "_law_told_here", "_law_lines_here", "_law_line", "_law_place", "_law_deep", "_law_k", "_law_at", "_law_bad_here", "_law_more"]
theorem c_law : FnScope n_law ["_law_script"] (defScope s_law) := ⟨rfl, rfl, rfl, by decide +kernel, rfl, by decide +kernel, by decide +kernel⟩
end
end H2
namespace H2
open PySem PySem.Spec PyProof.Rows L2 Hx Nd Dun
section
variable {P : Program} {w : World} {K : PySem.W.Frag} {mg : Str → Option Value} {base : Heap} {D : Addr}
/-! ### facts of the top -/
structure FT (K : PySem.W.Frag) (mg : Str → Option Value) (x : Str) (st : Stmt) (ps : List Str) (f : Addr) : Prop where
  g : mg x = some (.ref f)
  fn : ∃ fd, Fun K x x st f fd ∧ Binds K fd ps []
structure MT (K : PySem.W.Frag) (C : Addr) (nm qual : Str) (st : Stmt) (ps : List Str) (f : Addr) : Prop where
  m : Meth K C nm f
  fn : ∃ fd, Fun K nm qual st f fd ∧ Binds K fd ps []
structure TupT (K : PySem.W.Frag) (mg : Str → Option Value) (x : Str) (a : Addr) (xs : List V) : Prop where
  g : mg x = some (.ref a)
  s : ∀ H, SqT K H a xs
def kindsV : List V := [.str "put", .str "take", .str "top", .str "out", .str "either", .str "above", .str "below", .str "tree"]
def widthsV : List V := [.int 2, .int 3, .int 4]
/-! ### is_kind, is_width, allows -/
def spIs (K : PySem.W.Frag) (ty : String) (xs : List V) : Sp := fun vs H Q _ => ∃ (v : V) (t : Value) (b : Bool), vs = [v] ∧ TyX K H v t ∧ PySem.W.kitOne K t (.type ty) = some b ∧ (b = true → flatV v = true) ∧ Q (.bl (b && inV v xs)) H
theorem ok_is_kind {f k : Addr} (T : FT K mg "is_kind" s_is_kind ["value"] f) (isi : mg "isinstance" = none) (st : mg "str" = none) (C : TupT K mg "KINDS" k kindsV) : ∃ fd, Fun K "is_kind" "is_kind" s_is_kind f fd ∧ Binds K fd ["value"] [] ∧ FnOk P w K mg base CX0 1 f fd ["value"] (spIs K "str" kindsV) := by
  obtain ⟨fd, F, b⟩ := T.fn
  refine ⟨fd, F, b, F.ok c_is_kind (fun vs H Q E h => ?_) (fun cdv A outer s H vs Q E hr h => ?_)⟩
  · obtain ⟨v, t, b, rfl, _⟩ := h
    rfl
  obtain ⟨v, t, b, rfl, ty, hk, hf, q⟩ := h
  refine ⟨_, pss_one (ps_ret (pe_and (pe_callB call_isi (by rfl) isi (by decide +kernel) (pa_cons (pv 0) (pa_cons (pe_bltn (x := "str") (v := .ty "str") rfl st (by decide +kernel) rfl) pa_nil))) (pe_one (pe_cmpR op_in_seq (pv 0) (pe_glob (v := .ref k) rfl C.g rfl) rfl)))), ?_⟩
  refine ⟨_, rfl, v, .ty "str", t, .type "str", b, rfl, .ty _, ty, hk, b, rfl, ?_⟩
  cases b with
  | false => exact q
  | true => exact ⟨_, rfl, k, kindsV, rfl, .inr (C.s H), hf rfl, rfl, q⟩
theorem ok_is_width {f k : Addr} (T : FT K mg "is_width" s_is_width ["value"] f) (isi : mg "isinstance" = none) (st : mg "int" = none) (C : TupT K mg "WIDTHS" k widthsV) : ∃ fd, Fun K "is_width" "is_width" s_is_width f fd ∧ Binds K fd ["value"] [] ∧ FnOk P w K mg base CX0 1 f fd ["value"] (spIs K "int" widthsV) := by
  obtain ⟨fd, F, b⟩ := T.fn
  refine ⟨fd, F, b, F.ok c_is_width (fun vs H Q E h => ?_) (fun cdv A outer s H vs Q E hr h => ?_)⟩
  · obtain ⟨v, t, b, rfl, _⟩ := h
    rfl
  obtain ⟨v, t, b, rfl, ty, hk, hf, q⟩ := h
  refine ⟨_, pss_one (ps_ret (pe_and (pe_callB call_isi (by rfl) isi (by decide +kernel) (pa_cons (pv 0) (pa_cons (pe_bltn (x := "int") (v := .ty "int") rfl st (by decide +kernel) rfl) pa_nil))) (pe_one (pe_cmpR op_in_seq (pv 0) (pe_glob (v := .ref k) rfl C.g rfl) rfl)))), ?_⟩
  refine ⟨_, rfl, v, .ty "int", t, .type "int", b, rfl, .ty _, ty, hk, b, rfl, ?_⟩
  cases b with
  | false => exact q
  | true => exact ⟨_, rfl, k, widthsV, rfl, .inr (C.s H), hf rfl, rfl, q⟩
/-- the words that stand in every kind -/
def freeW : List Str := ["tell", "grab", "note", "quit"]
structure AllT (K : PySem.W.Frag) (w : World) (mg : Str → Option Value) (d : Addr) : Prop where
  g : mg "ALLOWED" = some (.ref d)
  kd : ∃ es n, KDict K w d es n
  no : ∀ x ∈ freeW, PySem.W.nsIn K d x = some none
def spAllows : Sp := fun vs H Q _ => ∃ (v : V) (x : Str), vs = [v, .str x] ∧ x ∈ freeW ∧ Q (.bl true) H
theorem ok_allows {f d : Addr} (T : FT K mg "allows" s_allows ["kind", "word"] f) (C : AllT K w mg d) : ∃ fd, Fun K "allows" "allows" s_allows f fd ∧ Binds K fd ["kind", "word"] [] ∧ FnOk P w K mg base CX0 1 f fd ["kind", "word"] spAllows := by
  obtain ⟨fd, F, b⟩ := T.fn
  refine ⟨fd, F, b, F.ok c_allows (fun vs H Q E h => ?_) (fun cdv A outer s H vs Q E hr h => ?_)⟩
  · obtain ⟨v, x, rfl, _⟩ := h
    rfl
  obtain ⟨v, x, rfl, hx, q⟩ := h
  obtain ⟨es, n, kd⟩ := C.kd
  refine ⟨_, pss_one (ps_ret (pe_or (pe_cmpR (op_notIn_kd kd) (pv 1) (pe_glob (v := .ref d) rfl C.g rfl) rfl) (pe_one pe_no))), ?_⟩
  exact ⟨_, rfl, x, none, rfl, rfl, C.no x hx, true, rfl, q⟩
end
end H2
namespace H2
open PySem PySem.Spec PyProof.Rows L2 Hx Nd Dun
section
variable {P : Program} {w : World} {K : PySem.W.Frag} {mg : Str → Option Value} {base : Heap} {D : Addr}
/-! ### numbers and sides -/
theorem u65 {k : Nat} {A : Around} (r : Room k A) : A.units + 65 < cLine := by have := r.un; omega
theorem pt_no {X : Cx} {e : Expr} : PT X e (fun _ _ _ => False) := ⟨fun _ _ _ _ _ _ h => h.elim⟩
theorem op_in_seqk {X : Cx} {K' : PySem.W.Frag} (hk : X.K = K') : OpR X (compareOp .In) (rIn K' false) := by subst hk; exact op_in_seq
theorem op_inDTk {X : Cx} {K' : PySem.W.Frag} (hk : X.K = K') (hu : X.A.units + 65 < cLine) : OpR X (compareOp .In) (rInDT K') := by subst hk; exact op_inDT hu
theorem iteBT {b : Bool} {A B : Prop} (h : b = true) (x : A) : if b = true then A else B := by rw [if_pos h]; exact x
theorem iteBF {b : Bool} {A B : Prop} (h : b = false) (x : B) : if b = true then A else B := by rw [h]; exact iteF x
theorem iteB {b : Bool} {A B : Prop} (h1 : b = true → A) (h2 : b = false → B) : if b = true then A else B := by
  cases b with
  | true => exact iteT (h1 rfl)
  | false => exact iteF (h2 rfl)
theorem sIx_pos {n d k : Nat} : HT.sIx n d (some (k : Int)) = min k n := HT.sIx_nat n d k
theorem cut_take (xs : List V) (i : Nat) : cutV xs none (some (i : Int)) = xs.take i := by
  unfold cutV
  rw [HT.sIx_nat, HT.sIx_none, List.drop_zero, Nat.sub_zero]
  rcases Nat.le_total i xs.length with h | h
  · rw [Nat.min_eq_left h]
  · rw [Nat.min_eq_right h, List.take_length, List.take_of_length_le h]
theorem cut_drop (xs : List V) (i : Nat) : cutV xs (some (i : Int)) none = xs.drop i := by
  unfold cutV
  rw [HT.sIx_nat, HT.sIx_none]
  rcases Nat.le_total i xs.length with h | h
  · rw [Nat.min_eq_left h, List.take_of_length_le (by rw [List.length_drop] <;> omega)]
  · rw [Nat.min_eq_right h, List.drop_length, List.drop_of_length_le h, List.take_nil]
def numsV : List V := [.str "1", .str "2", .str "3", .str "4"]
def Wd (wd : Int) : Prop := wd = 2 ∨ wd = 3 ∨ wd = 4
def okNum (x : Str) (wd : Int) : Bool := inV (.str x) (numsV.take wd.toNat)
def numOf (x : Str) : Int := if x = "1" then 1 else if x = "2" then 2 else if x = "3" then 3 else 4
theorem okNum_mem {x : Str} {wd : Int} (h : okNum x wd = true) : x = "1" ∨ x = "2" ∨ x = "3" ∨ x = "4" := by
  unfold okNum inV at h
  rw [List.any_eq_true] at h
  obtain ⟨y, hy, e⟩ := h
  have hy' := List.mem_of_mem_take hy
  unfold numsV at hy'
  have fin : ∀ z : Str, y = .str z → z = x := fun z ez => by
    rw [ez] at e
    simpa [eqV] using e
  simp only [List.mem_cons, List.not_mem_nil, or_false] at hy'
  rcases hy' with h | h | h | h
  · exact .inl (fin _ h).symm
  · exact .inr (.inl (fin _ h).symm)
  · exact .inr (.inr (.inl (fin _ h).symm))
  · exact .inr (.inr (.inr (fin _ h).symm))
theorem numOf_text {x : Str} {wd : Int} (h : okNum x wd = true) : PySem.intText? x = some (numOf x) ∧ x.length ≤ 640 := by
  rcases okNum_mem h with rfl | rfl | rfl | rfl
  · exact ⟨by decide +kernel, by decide +kernel⟩
  · exact ⟨by decide +kernel, by decide +kernel⟩
  · exact ⟨by decide +kernel, by decide +kernel⟩
  · exact ⟨by decide +kernel, by decide +kernel⟩
theorem nums_cut {H : Hp} {aN : Addr} {wd : Int} {R : V → Hp → Prop} (hN : ∀ H, SqT K H aN numsV) (hw : Wd wd) (h : ∀ t G, Same H G → SqT K G t (numsV.take wd.toNat) → R (.ref t) G) : rSlA K (.ref aN) none (some wd) H R := by
  have part : ∀ p, H p = none → SqT K (upd H p (.tup (cutV numsV none (some wd)))) p (numsV.take wd.toNat) := fun p np => by
    have e : cutV numsV none (some wd) = numsV.take wd.toNat := by rcases hw with rfl | rfl | rfl <;> rfl
    rw [← e]
    exact SqT.of upd_same
  refine ⟨aN, numsV, rfl, hN H, fun hh => ?_, fun _ p np => h p _ (new_same np) (part p np)⟩
  have e : numsV.take wd.toNat = numsV := by
    rcases hw with rfl | rfl | rfl
    · exact absurd hh.2 (by decide)
    · exact absurd hh.2 (by decide)
    · rfl
  refine h aN H (Same.refl H) ?_
  rw [e]
  exact hN H
theorem flat_nums (wd : Int) : (numsV.take wd.toNat).all flatV = true := by
  rw [List.all_eq_true]
  intro y hy
  have := List.mem_of_mem_take hy
  unfold numsV at this
  simp only [List.mem_cons, List.not_mem_nil, or_false] at this
  rcases this with rfl | rfl | rfl | rfl <;> rfl
def spNum : Sp := fun vs H Q _ => ∃ (x : Str) (wd : Int), vs = [.str x, .int wd] ∧ Wd wd ∧ ∀ H', Same H H' → Q (if okNum x wd = true then .int (numOf x) else .non) H'
theorem ok_num {f aN : Addr} (T : FT K mg "read_number" s_read_number ["word", "width"] f) (int : mg "int" = none) (C : TupT K mg "NUMBERS" aN numsV) : ∃ fd, Fun K "read_number" "read_number" s_read_number f fd ∧ Binds K fd ["word", "width"] [] ∧ FnOk P w K mg base CX0 1 f fd ["word", "width"] spNum := by
  obtain ⟨fd, F, b⟩ := T.fn
  refine ⟨fd, F, b, F.ok c_read_number (fun vs H Q E h => ?_) (fun cdv A outer s H vs Q E hr h => ?_)⟩
  · obtain ⟨x, wd, rfl, _⟩ := h
    rfl
  obtain ⟨x, wd, rfl, hw, q⟩ := h
  refine ⟨_, pss_cons (ps_if (pt_cmpR op_in_seq (pv 0) (pe_slice sl_tupA (pe_glob (v := .ref aN) rfl C.g rfl) po_none (po_some (pv 1))) rfl) (pss_one (ps_ret (pe_callTy call_int_str (by rfl) int (by decide +kernel) (pa_cons (pv 0) pa_nil)))) pss_nil) (pss_one (ps_ret pe_non)), ?_⟩
  refine ⟨_, rfl, _, rfl, _, rfl, nums_cut (R := fun y G => _) C.s hw fun t G sG et => ?_⟩
  refine ⟨t, _, rfl, .inr et, rfl, flat_nums wd, _, rfl, iteB (fun hh => ?_) (fun hh => ?_)⟩
  · have hk : okNum x wd = true := hh
    obtain ⟨e1, e2⟩ := numOf_text hk
    have z := q G sG
    rw [if_pos hk] at z
    exact ⟨_, rfl, x, numOf x, rfl, e1, e2, z⟩
  · have hk : okNum x wd = false := hh
    have z := q G sG
    rw [hk] at z
    exact z
end
end H2
namespace H2
open PySem PySem.Spec PyProof.Rows L2 Hx Nd Dun
section
variable {P : Program} {w : World} {K : PySem.W.Frag} {mg : Str → Option Value} {base : Heap} {D : Addr}
/-! ### sides -/
inductive Pl | top | down | up
def Pl.str : Pl → Str
  | .top => "top" | .down => "down" | .up => "up"
def sidesV : Pl → List V
  | .top => [.str "hand", .str "at", .str "given"] | .down => [.str "hand", .str "at", .str "mate"] | .up => [.str "hand", .str "at", .str "mate"]
structure SidesT (K : PySem.W.Frag) (w : World) (mg : Str → Option Value) (d : Addr) : Prop where
  g : mg "SIDES" = some (.ref d)
  kd : ∃ es n, K.lookup d = some ⟨.type "dict", none, .dict es n, #[]⟩ ∧ PySem.W.KeysLit w.params es.toList
  at_ : ∀ pl : Pl, ∃ t, PySem.W.nsIn K d pl.str = some (some (.ref t)) ∧ ∀ H, SqT K H t (sidesV pl)
def isDown : Pl → Bool
  | .down => true | _ => false
/-- the side that the words name -/
def sideOf (ws : List Str) (pl : Pl) (wd : Int) : Option (Str × Int) := match ws with
  | [a] => if inV (.str a) (sidesV pl) = true then some (a, 0) else none
  | [a, b] => if isDown pl = true ∧ a = "kid" ∧ okNum b wd = true then some ("kid", numOf b) else none
  | _ => none
def SideV (K : PySem.W.Frag) (H : Hp) (v : V) : Option (Str × Int) → Prop
  | none => v = .non
  | some s => ∃ t, v = .ref t ∧ SqT K H t [.str s.1, .int s.2]
theorem SideV.keep {H H' : Hp} {v : V} {s : Option (Str × Int)} (h : SideV K H v s) (e : Same H H') : SideV K H' v s := by
  cases s with
  | none => exact h
  | some s =>
    obtain ⟨t, h1, h2⟩ := h
    exact ⟨t, h1, sqt_same e h2⟩
theorem side_in (pl : Pl) : (sidesV pl).all flatV = true := by cases pl <;> rfl
theorem side_names {a : Str} {pl : Pl} (h : inV (.str a) (sidesV pl) = true) : a = "hand" ∨ a = "at" ∨ a = "given" ∨ a = "mate" := by
  cases pl <;> (simp [inV, sidesV, eqV] at h; rcases h with h | h | h <;> simp [← h])
abbrev psSD : List Str := ["words", "place", "width"]
def spSide (K : PySem.W.Frag) : Sp := fun vs H Q _ => ∃ (a : Addr) (ws : List Str) (pl : Pl) (wd : Int), vs = [.ref a, .str pl.str, .int wd] ∧ SqL K H a (ws.map V.str) ∧ Wd wd ∧ ∀ H' v, Same H H' → SideV K H' v (sideOf ws pl wd) → Q v H'
theorem down_eq (pl : Pl) : decide (V.str pl.str = V.str "down") = isDown pl := by cases pl <;> decide +kernel
theorem ok_side {f g d : Addr} (T : FT K mg "read_side" s_read_side psSD f) (S : SidesT K w mg d) (len : mg "len" = none) {nd : FuncData} (FN : Fun K "read_number" "read_number" s_read_number g nd) (bN : Binds K nd ["word", "width"] []) (mN : mg "read_number" = some (.ref g)) (GN : FnOk P w K mg base CX0 1 g nd ["word", "width"] spNum) :
    ∃ fd, Fun K "read_side" "read_side" s_read_side f fd ∧ Binds K fd psSD [] ∧ FnOk P w K mg base CX0 2 f fd psSD (spSide K) := by
  obtain ⟨fd, F, b⟩ := T.fn
  refine ⟨fd, F, b, F.ok c_read_side (fun vs H Q E h => ?_) (fun cdv A outer s H vs Q E hr h => ?_)⟩
  · obtain ⟨a, ws, pl, wd, rfl, _⟩ := h
    rfl
  obtain ⟨a, ws, pl, wd, rfl, ha, hw, q⟩ := h
  refine ⟨_, pss_cons (ps_if (PW.pt (pw_and (pt_cmpR op_eq (pe_callB call_len_seq (by rfl) len PySem.boot_len (pa_cons (pv 0) pa_nil)) pe_int (nomark _)) (pw_and1 (pt_cmpR op_in_seq (pe_ix ix_list (pv 0) pe_int (fun _ _ => rfl)) (pe_ix ix_kdict (pe_glob (v := .ref d) rfl S.g rfl) (pv 1) (fun _ _ => rfl)) rfl))))
      (pss_one (ps_ret (pe_tup (pa_cons (pe_ix ix_list (pv 0) pe_int (fun _ _ => rfl)) (pa_cons pe_int pa_nil))))) pss_nil)
    (pss_cons (ps_if (PW.pt (pw_and (pt_cmpR op_eq (pv 1) pe_str (nomark _)) (pw_and (pt_cmpR op_eq (pe_callB call_len_seq (by rfl) len PySem.boot_len (pa_cons (pv 0) pa_nil)) pe_int (nomark _)) (pw_and1 (pt_cmpR op_eq (pe_ix ix_list (pv 0) pe_int (fun _ _ => rfl)) pe_str (nomark _))))))
      (pss_cons (ps_set (i := 3) c_read_side.nd rfl (Or.inl rfl) (pe_call GN hr rfl mN FN.kp bN .nil pass0 (pa_cons (pe_ix ix_list (pv 0) pe_int (fun _ _ => rfl)) (pa_cons (pv 2) pa_nil))))
        (pss_one (ps_ret (pe_ifExp (pt_cmp (pc_isN (pv 3))) pe_non (pe_tup (pa_cons pe_str (pa_cons (pv 3) pa_nil))))))) pss_nil)
    (pss_one (ps_ret pe_non))), ?_⟩
  refine ⟨_, rfl, a, _, rfl, .inl ha, rfl, _, rfl, ?_⟩
  rw [List.length_map]
  match ws, ha, q with
  | [], ha, q =>
    refine iteF (iteF ?_)
    refine ⟨_, rfl, rfl, _, rfl, ?_⟩
    rw [down_eq]
    refine iteB (fun _ => ?_) (fun _ => ?_)
    · exact ⟨_, rfl, a, _, rfl, .inl ha, rfl, _, rfl, iteF (iteF (q H _ (Same.refl H) rfl))⟩
    · exact iteF (q H _ (Same.refl H) rfl)
  | [x], ha, q =>
    obtain ⟨es, n, lk, lit⟩ := S.kd
    obtain ⟨t, nt, st⟩ := S.at_ pl
    refine iteT ?_
    refine ⟨_, rfl, a, _, 0, .str x, rfl, rfl, ha, at_of (j := 0) rfl rfl, ?_⟩
    refine ⟨_, rfl, d, pl.str, .ref t, rfl, rfl, ⟨es, n, .ref t, lk, lit, nt, rfl⟩, t, _, rfl, .inr (st H), rfl, side_in pl, _, rfl, iteB (fun hh => ?_) (fun hh => ?_)⟩
    · have hin : inV (.str x) (sidesV pl) = true := hh
      refine ⟨_, rfl, a, _, 0, .str x, rfl, rfl, ha, at_of (j := 0) rfl rfl, (by show 2 ≤ sizeLine; decide), fun u nu => ?_⟩
      refine q _ (.ref u) (new_same nu) ?_
      have e : sideOf [x] pl wd = some (x, 0) := if_pos hin
      rw [e]
      exact ⟨u, rfl, SqT.of upd_same⟩
    · have hin : inV (.str x) (sidesV pl) = false := hh
      have e : sideOf [x] pl wd = none := if_neg (by rw [hin]; exact Bool.false_ne_true)
      refine ⟨_, rfl, rfl, _, rfl, ?_⟩
      rw [down_eq]
      refine iteB (fun _ => ?_) (fun _ => ?_)
      · exact ⟨_, rfl, a, _, rfl, .inl ha, rfl, _, rfl, iteF (iteF (q H _ (Same.refl H) (by rw [e]; rfl)))⟩
      · exact iteF (q H _ (Same.refl H) (by rw [e]; rfl))
  | [x, y], ha, q =>
    refine iteF (iteF ?_)
    refine ⟨_, rfl, rfl, _, rfl, ?_⟩
    rw [down_eq]
    have no : (isDown pl = true → x = "kid" → okNum y wd = false) → Q .non H := fun z => q H _ (Same.refl H) (by
      have e : sideOf [x, y] pl wd = none := if_neg (fun ⟨h1, h2, h3⟩ => by rw [z h1 h2] at h3; cases h3)
      rw [e]
      rfl)
    refine iteB (fun hd => ?_) (fun hd => ?_)
    · refine ⟨_, rfl, a, _, rfl, .inl ha, rfl, _, rfl, iteT ?_⟩
      refine ⟨_, rfl, a, _, 0, .str x, rfl, rfl, ha, at_of (j := 0) rfl rfl, rfl, _, rfl, ite2 (fun hx => ?_) (fun hx => ?_)⟩
      · have ex : x = "kid" := V.str.inj (of_decide_eq_true hx)
        refine ⟨_, rfl, a, _, 1, .str y, rfl, rfl, ha, at_of (j := 1) rfl rfl, _, rfl, y, wd, rfl, hw, fun G sG => ?_⟩
        by_cases hn : okNum y wd = true
        · rw [if_pos hn]
          refine ⟨_, rfl, _, rfl, iteF ?_⟩
          refine ⟨_, rfl, (by show 2 ≤ sizeLine; decide), fun u nu => ?_⟩
          refine q _ (.ref u) (sG.trans (new_same nu)) ?_
          have e : sideOf [x, y] pl wd = some (("kid" : Str), numOf y) := if_pos ⟨hd, ex, hn⟩
          rw [e]
          exact ⟨u, rfl, SqT.of upd_same⟩
        · rw [if_neg hn]
          refine ⟨_, rfl, _, rfl, iteBT (by decide) ?_⟩
          have e : sideOf [x, y] pl wd = none := if_neg (fun ⟨_, _, h3⟩ => hn h3)
          exact q _ _ sG (by rw [e]; rfl)
      · exact no fun _ z => absurd (decide_eq_true (by rw [z])) hx
    · exact iteF (no fun z => by rw [hd] at z; cases z)
  | x :: y :: z :: r, ha, q =>
    have l1 : decide (V.int ((x :: y :: z :: r).length : Nat) = V.int 1) = false := decide_eq_false (fun e => by
      have := V.int.inj e
      simp at this
      omega)
    have l2 : decide (V.int ((x :: y :: z :: r).length : Nat) = V.int 2) = false := decide_eq_false (fun e => by
      have := V.int.inj e
      simp at this
      omega)
    refine iteBF l1 (iteF ?_)
    refine ⟨_, rfl, rfl, _, rfl, ?_⟩
    rw [down_eq]
    refine iteB (fun _ => ?_) (fun _ => ?_)
    · refine ⟨_, rfl, a, _, rfl, .inl ha, rfl, _, rfl, ?_⟩
      rw [List.length_map]
      exact iteBF l2 (iteF (q H _ (Same.refl H) rfl))
    · exact iteF (q H _ (Same.refl H) rfl)
end
end H2
namespace H2
open PySem PySem.Spec PyProof.Rows L2 Hx Nd Dun
section
variable {P : Program} {w : World} {K : PySem.W.Frag} {mg : Str → Option Value} {base : Heap} {D : Addr}
/-! ### comparisons -/
/-- [.. for n, x in enumerate(xs) if ..] -/
theorem lc_enum {K : PySem.W.Frag} {a : Addr} {xs : List V} {g : TG} {tt : TT} {te : TE} {vs : List Nat} {σ : L2.St} {H1 : Hp} {D : Addr} {Qd : Hp → Prop} (Pv : Nat → Hp → Prop) (h0 : Pv 0 (upd H1 D (.lst []))) (hl : ∀ i H, i ≤ xs.length → Pv i H → SqL K H a xs)
    (hs : ∀ i x H T, xs[i]? = some x → Pv i H → H T = none → g (.ref T) (wipe σ vs) (upd H T (.tup [.int (i : Nat), x])) fun σ2 H2 => wipe σ2 vs = wipe σ vs ∧ tt σ2 H2 fun b H3 =>
      if b = true then te σ2 H3 fun y H4 => ∃ acc, H4 D = some (.lst acc) ∧ acc.length < sizeLine ∧ Pv (i + 1) (upd H4 D (.lst (acc ++ [y]))) else Pv (i + 1) H3) (hd : ∀ H, Pv xs.length H → Qd H) :
    ∃ W : Nat → Nat → Hp → Prop, (∃ m, W 0 m (upd H1 D (.lst []))) ∧ ∀ i m H, W i m H →
      ((Ite K a).stop i H ∧ Qd H) ∨ ((Ite K a).go i H ∧ ∃ Nx : Hp → Prop, (∀ H', Nx H' → ∃ m', m' < m ∧ W (i + 1) m' H') ∧ ∀ x H', (Ite K a).yld i H x H' → g x (wipe σ vs) H' fun σ2 H2 => wipe σ2 vs = wipe σ vs ∧ tt σ2 H2 fun b H3 =>
        if b = true then te σ2 H3 fun y H4 => ∃ acc, H4 D = some (.lst acc) ∧ acc.length < sizeLine ∧ Nx (upd H4 D (.lst (acc ++ [y]))) else Nx H3) := by
  refine ⟨fun i m H => m = xs.length - i ∧ i ≤ xs.length ∧ Pv i H, ⟨_, rfl, Nat.zero_le _, h0⟩, ?_⟩
  rintro i m H ⟨rfl, hi, p⟩
  have q := hl i H hi p
  rcases Nat.lt_or_ge i xs.length with hlt | hge
  · refine .inr ⟨⟨xs, xs[i], q, List.getElem?_eq_getElem hlt⟩, Pv (i + 1), fun H' p' => ⟨xs.length - (i + 1), by omega, rfl, hlt, p'⟩, fun x H' y => ?_⟩
    obtain ⟨T, z, rfl, nT, rfl, y⟩ := y
    exact hs i z H T (y xs q) p nT
  · have e : i = xs.length := Nat.le_antisymm hi hge
    subst e
    exact .inl ⟨⟨xs, q, Nat.le_refl _⟩, hd H p⟩
def signsV : List V := [.str "<", .str "<="]
def isSg (x : Str) : Bool := inV (.str x) signsV
/-- the places of the signs -/
def sgs (ws : List Str) (n : Nat) : List Nat := (List.range n).filter fun j => isSg (ws.getD j "")
def cmpOf (ws : List Str) (pl : Pl) (wd : Int) : Option (Str × (Str × Int) × (Str × Int)) := match sgs ws ws.length with
  | [i] => (match sideOf (ws.take i) pl wd, sideOf (ws.drop (i + 1)) pl wd with
    | some l, some r => if l = r then none else some (ws.getD i "", l, r)
    | _, _ => none)
  | _ => none
theorem tups_of_new {H : Hp} {a : Addr} {o : HO} (h : H a = none) : Tups H (upd H a o) := Tups.of (new_same h)
/-- a value within a part -/
def Lf (K : PySem.W.Frag) (H : Hp) (v : V) (d : PyData) : Prop := (∀ H', Tups H H' → Dp K H' v d) ∧ d.canLay0 = true ∧ d.depth ≤ 1
theorem Lf.keep {H H' : Hp} {v : V} {d : PyData} (h : Lf K H v d) (e : Tups H H') : Lf K H' v d := ⟨fun G t => h.1 G (e.trans t), h.2⟩
theorem lf_non {H : Hp} : Lf K H .non .none := ⟨fun _ _ => .non, by decide +kernel, by decide +kernel⟩
theorem lf_int {H : Hp} {i : Int} : Lf K H (.int i) (.int i) := ⟨fun _ _ => .int i, by simp [PyData.canLay0], by simp [PyData.depth]⟩
theorem lf_str {H : Hp} {x : Str} (h : PyData.strOk x = true) : Lf K H (.str x) (.str x) := ⟨fun _ _ => .str x, by simp [PyData.canLay0, h], by simp [PyData.depth]⟩
/-- the word, left and right of a part -/
def TriV (K : PySem.W.Frag) (H : Hp) (v : V) (ok : Bool) : Prop := if ok = true then ∃ t b l r dl dr, v = .ref t ∧ SqT K H t [.str b, l, r] ∧ PyData.strOk b = true ∧ Lf K H l dl ∧ Lf K H r dr else v = .non
theorem side_ok {ws : List Str} {pl : Pl} {wd : Int} {s : Str × Int} (h : sideOf ws pl wd = some s) : PyData.strOk s.1 = true := by
  unfold sideOf at h
  split at h
  · split at h
    · rename_i a hin
      injection h with h
      rw [← h]
      rcases side_names hin with rfl | rfl | rfl | rfl <;> decide +kernel
    · cases h
  · split at h
    · injection h with h
      rw [← h]
      show PyData.strOk ("kid" : Str) = true
      decide +kernel
    · cases h
  · cases h
theorem side_data {H : Hp} {v : V} {s : Str × Int} (h : SideV K H v (some s)) (ok : PyData.strOk s.1 = true) : ∃ d, d = PyData.tuple [.str s.1, .int s.2] ∧ Dp K H v d ∧ Lf K H v d ∧ SeqAt.shaped d = true := by
  obtain ⟨t, rfl, ht⟩ := h
  refine ⟨_, rfl, .tup ht (.cons (.str _) (.cons (.int _) .nil)), ⟨fun G e => .tup (sqt_tups e ht) (.cons (.str _) (.cons (.int _) .nil)), ?_, ?_⟩, ?_⟩
  · simp [PyData.canLay0, PyData.canLayAll0, ok]
  · simp [PyData.depth, PyData.depthAll]
  · simp [SeqAt.shaped, PyData.canLay0, PyData.canLayAll0, PyData.depth, PyData.depthAll, ok]
theorem side_eqv (a b : Str × Int) : PyData.eqv (.tuple [.str a.1, .int a.2]) (.tuple [.str b.1, .int b.2]) = decide (a = b) := by
  obtain ⟨x, i⟩ := a
  obtain ⟨y, j⟩ := b
  simp only [PyData.eqv, PyData.eqvAll, Bool.and_true]
  by_cases h1 : x = y <;> by_cases h2 : i = j <;> simp [h1, h2]
def spCmp (K : PySem.W.Frag) : Sp := fun vs H Q _ => ∃ (a : Addr) (ws : List Str) (pl : Pl) (wd : Int), vs = [.ref a, .str pl.str, .int wd] ∧ SqL K H a (ws.map V.str) ∧ ws.length ≤ 1000 ∧ Wd wd ∧ ∀ H' v, Same H H' → TriV K H' v (cmpOf ws pl wd).isSome → Q v H'
theorem ok_cmp {f g aS : Addr} (T : FT K mg "read_comparison" s_read_comparison psSD f) (S : TupT K mg "SIGNS" aS signsV) (len : mg "len" = none) (enu : mg "enumerate" = none) {nd : FuncData} (FN : Fun K "read_side" "read_side" s_read_side g nd) (bN : Binds K nd psSD []) (mN : mg "read_side" = some (.ref g)) (GN : FnOk P w K mg base CX0 2 g nd psSD (spSide K)) :
    ∃ fd, Fun K "read_comparison" "read_comparison" s_read_comparison f fd ∧ Binds K fd psSD [] ∧ FnOk P w K mg base CX0 3 f fd psSD (spCmp K) := by
  obtain ⟨fd, F, b⟩ := T.fn
  refine ⟨fd, F, b, F.ok c_read_comparison (fun vs H Q E h => ?_) (fun cdv A outer s H vs Q E hr h => ?_)⟩
  · obtain ⟨a, ws, pl, wd, rfl, _⟩ := h
    rfl
  obtain ⟨a, ws, pl, wd, rfl, ha, hn, hw, q⟩ := h
  refine ⟨_, pss_cons (ps_setLc (i := 3) (own := [("at", 4), ("word", 5)]) (g := gTup K 2 (gCons (gName 4) (gCons (gName 5) gNil))) rfl c_read_comparison.nd rfl rfl (sw_true rfl rfl rfl (by decide +kernel)) (pi_enum (by rfl) enu (pa_cons (pv 0) pa_nil)) (blkOk_by (own := [("at", 4), ("word", 5)]) (N := n_read_comparison) (sc := defScope s_read_comparison) (by decide +kernel))
      (fun _ _ _ _ _ => pg_tup rfl (pgs_cons (pg_name (i := 4) c_read_comparison.nd rfl (Or.inl rfl)) (pgs_cons (pg_name (i := 5) c_read_comparison.nd rfl (Or.inl rfl)) pgs_nil))) (fun _ _ _ _ _ => pts_one (pt_cmpR (op_in_seqk (K' := K) rfl) (pv 5) (pe_glob (v := .ref aS) rfl S.g rfl) rfl)) (fun _ _ _ _ _ => pv 4))
    (pss_cons (ps_if (pt_cmpR op_ne (pe_callB call_len_seq (by rfl) len PySem.boot_len (pa_cons (pv 3) pa_nil)) pe_int (nomark _)) (pss_one (ps_ret pe_non)) pss_nil)
    (pss_cons (ps_set (i := 6) c_read_comparison.nd rfl (Or.inl rfl) (pe_call GN hr rfl mN FN.kp bN .nil pass0 (pa_cons (pe_slice sl_list (pv 0) po_none (po_some (pe_ix ix_list (pv 3) pe_int (fun _ _ => rfl)))) (pa_cons (pv 1) (pa_cons (pv 2) pa_nil)))))
    (pss_cons (ps_set (i := 7) c_read_comparison.nd rfl (Or.inl rfl) (pe_call GN hr rfl mN FN.kp bN .nil pass0 (pa_cons (pe_slice sl_list (pv 0) (po_some (pe_op op_add (pe_ix ix_list (pv 3) pe_int (fun _ _ => rfl)) pe_int)) po_none) (pa_cons (pv 1) (pa_cons (pv 2) pa_nil)))))
    (pss_cons (ps_if (PW.pt (pw_or (pt_cmp (pc_isN (pv 6))) (pw_or (pt_cmp (pc_isN (pv 7))) (pw_or1 (pt_cmpR (op_eqD hr.units) (pv 6) (pv 7) (nomark _)))))) (pss_one (ps_ret pe_non)) pss_nil)
    (pss_one (ps_ret (pe_tup (pa_cons (pe_ix ix_list (pv 0) (pe_ix ix_list (pv 3) pe_int (fun _ _ => rfl)) (fun _ _ => rfl)) (pa_cons (pv 6) (pa_cons (pv 7) pa_nil)))))))))), ?_⟩
  have sgs_succ : ∀ i, sgs ws (i + 1) = sgs ws i ++ if isSg (ws.getD i "") = true then [i] else [] := fun i => by
    unfold sgs
    rw [List.range_succ, List.filter_append]
    congr 1
    by_cases h : isSg (ws.getD i "") = true
    · rw [if_pos h]
      simpa using h
    · rw [if_neg h]
      simpa using h
  have sgs_len : ∀ i, (sgs ws i).length ≤ i := fun i => by
    unfold sgs
    exact Nat.le_trans (List.length_filter_le _ _) (by rw [List.length_range]; exact Nat.le_refl _)
  refine ⟨_, rfl, a, _, rfl, ha, fun L nL => lc_enum (K := K) (a := a) (xs := ws.map V.str) (fun i G => Same H G ∧ G L = some (.lst ((sgs ws i).map fun j => V.int (j : Nat)))) ⟨new_same nL, upd_same⟩ ?_ ?_ ?_⟩
  · rintro i G _ ⟨sG, _⟩
    exact sqt_list_same ha sG
  · rintro i x G Tp hi ⟨sG, eL⟩ nT
    rw [List.getElem?_map] at hi
    cases hwi : ws[i]? with
    | none => rw [hwi] at hi; cases hi
    | some y =>
      rw [hwi] at hi
      cases hi
      have hil : i < ws.length := (List.getElem?_eq_some_iff.mp hwi).1
      have hg : ws.getD i "" = y := by rw [List.getD_eq_getElem?_getD, hwi]; rfl
      have sT := new_same (o := .tup [.int (i : Nat), .str y]) nT
      refine ⟨Tp, _, rfl, SqT.of upd_same, rfl, _, _, rfl, _, _, rfl, rfl, rfl, ?_⟩
      refine ⟨_, rfl, aS, _, rfl, .inr (S.s _), rfl, rfl, _, rfl, iteB (fun hh => ?_) (fun hh => ?_)⟩
      · have hs : isSg (ws.getD i "") = true := by rw [hg]; exact hh
        refine ⟨_, rfl, _, sT _ _ eL, ?_, same_out (sG.trans sT) nL, ?_⟩
        · rw [List.length_map]
          exact Nat.lt_of_le_of_lt (sgs_len i) (Nat.lt_of_lt_of_le hil (Nat.le_trans hn (by decide)))
        · rw [upd_same, sgs_succ, if_pos hs, List.map_append]
          rfl
      · have hs : ¬ isSg (ws.getD i "") = true := by
          rw [hg]
          intro z
          have z' : (if false = true then !inV (V.str y) signsV else inV (V.str y) signsV) = true := z
          rw [z'] at hh
          cases hh
        refine ⟨sG.trans sT, ?_⟩
        rw [sgs_succ, if_neg hs, List.append_nil]
        exact sT _ _ eL
  · rintro G ⟨sG, eL⟩
    rw [List.length_map] at eL
    have no : cmpOf ws pl wd = none → Q .non G := fun e => q G _ sG (by unfold TriV; rw [e]; rfl)
    refine ⟨_, rfl, L, _, rfl, .inl (SqL.of eL), rfl, _, rfl, ?_⟩
    rw [List.length_map]
    have hall : ∀ j ∈ sgs ws ws.length, j < ws.length ∧ isSg (ws.getD j "") = true := fun j hj => by
      unfold sgs at hj
      rw [List.mem_filter, List.mem_range] at hj
      exact hj
    cases hss : sgs ws ws.length with
    | nil =>
      refine iteBT (by rfl) (no ?_)
      unfold cmpOf
      rw [hss]
    | cons i r =>
      cases r with
      | cons j r =>
        refine iteBT ?_ (no ?_)
        · have e : decide (V.int ((i :: j :: r).length : Nat) = V.int 1) = false := decide_eq_false fun z => by
            have := V.int.inj z
            simp at this
            omega
          rw [e]
          rfl
        · unfold cmpOf
          rw [hss]
      | nil =>
        rw [hss] at eL
        obtain ⟨hi, hsg⟩ := hall i (by rw [hss]; exact List.mem_cons_self)
        have hwi : ws[i]? = some (ws.getD i "") := by rw [List.getD_eq_getElem?_getD, List.getElem?_eq_getElem hi]; rfl
        refine iteBF (by rfl) ?_
        refine ⟨_, rfl, _, rfl, L, _, 0, .int (i : Nat), rfl, rfl, SqL.of eL, at_of (j := 0) rfl rfl, _, rfl, a, _, rfl, sqt_list_same ha sG, fun p np => ?_⟩
        rw [cut_take, ← List.map_take]
        have sp := new_same (o := .lst ((ws.take i).map V.str)) np
        refine ⟨_, rfl, _, rfl, p, ws.take i, pl, wd, rfl, SqL.of upd_same, hw, fun G2 lv s2 hl => ?_⟩
        have sG2 := (sG.trans sp).trans s2
        have eL2 := s2 _ _ (sp _ _ eL)
        refine ⟨_, rfl, _, rfl, L, _, 0, .int (i : Nat), rfl, rfl, SqL.of eL2, at_of (j := 0) rfl rfl, _, _, rfl, rfl, _, rfl, a, _, rfl, sqt_list_same ha sG2, fun p2 np2 => ?_⟩
        have ec : cutV (ws.map V.str) (some ((i : Nat) + 1 : Int)) none = (ws.drop (i + 1)).map V.str := by
          rw [show ((i : Nat) + 1 : Int) = ((i + 1 : Nat) : Int) by omega, cut_drop, ← List.map_drop]
        rw [ec]
        have sp2 := new_same (o := .lst ((ws.drop (i + 1)).map V.str)) np2
        refine ⟨_, rfl, _, rfl, p2, ws.drop (i + 1), pl, wd, rfl, SqL.of upd_same, hw, fun G3 rv s3 hr3 => ?_⟩
        have sG3 := (sG2.trans sp2).trans s3
        have hl3 := (hl.keep sp2).keep s3
        have eL3 := s3 _ _ (sp2 _ _ eL2)
        have no3 : cmpOf ws pl wd = none → Q .non G3 := fun e => q G3 _ sG3 (by unfold TriV; rw [e]; rfl)
        have hcmp : cmpOf ws pl wd = (match sideOf (ws.take i) pl wd, sideOf (ws.drop (i + 1)) pl wd with
          | some l, some r => if l = r then none else some (ws.getD i "", l, r)
          | _, _ => none) := by unfold cmpOf; rw [hss]
        refine ⟨_, rfl, _, rfl, ?_⟩
        cases hls : sideOf (ws.take i) pl wd with
        | none =>
          rw [hls] at hl3 hcmp
          have e : lv = .non := hl3
          subst e
          exact iteBT (by decide) (iteT (no3 hcmp))
        | some ls =>
          rw [hls] at hl3 hcmp
          obtain ⟨tl, rfl, htl⟩ := id hl3
          refine iteF ?_
          refine ⟨_, rfl, _, rfl, ?_⟩
          cases hrs : sideOf (ws.drop (i + 1)) pl wd with
          | none =>
            rw [hrs] at hr3 hcmp
            have e : rv = .non := hr3
            subst e
            exact iteBT (by decide) (iteT (no3 hcmp))
          | some rs =>
            rw [hrs] at hr3 hcmp
            obtain ⟨tr, rfl, htr⟩ := id hr3
            refine iteF ?_
            obtain ⟨dl, edl, hdl, ldl, sdl⟩ := side_data hl3 (side_ok hls)
            obtain ⟨dr, edr, hdr, ldr, sdr⟩ := side_data hr3 (side_ok hrs)
            refine ⟨_, rfl, _, rfl, dl, dr, hdl, hdr, sdl, sdr, _, rfl, ?_⟩
            rw [edl, edr, side_eqv]
            refine iteB (fun hh => ?_) (fun hh => ?_)
            · refine no3 ?_
              rw [hcmp]
              exact if_pos (of_decide_eq_true hh)
            · have hne : ¬ ls = rs := of_decide_eq_false hh
              refine ⟨_, rfl, _, rfl, L, _, 0, .int (i : Nat), rfl, rfl, SqL.of eL3, at_of (j := 0) rfl rfl, a, _, _, .str (ws.getD i ""), rfl, rfl, sqt_list_same ha sG3, at_of (j := i) rfl (by rw [List.getElem?_map, hwi] <;> rfl), ?_⟩
              refine ⟨_, rfl, _, rfl, (by show 3 ≤ sizeLine; decide), fun t nt => ?_⟩
              refine q _ (.ref t) (sG3.trans (new_same nt)) ?_
              have e : (cmpOf ws pl wd).isSome = true := by rw [hcmp]; dsimp only; rw [if_neg hne]; rfl
              unfold TriV
              rw [if_pos e]
              have hb : PyData.strOk (ws.getD i "") = true := by
                have z : ws.getD i "" = "<" ∨ ws.getD i "" = "<=" := by
                  have := hsg
                  simp [isSg, inV, signsV, eqV] at this
                  rcases this with h | h
                  · exact .inl h.symm
                  · exact .inr h.symm
                rcases z with z | z <;> rw [z] <;> decide +kernel
              have tn := tups_of_new (o := .tup [.str (ws.getD i ""), .ref tl, .ref tr]) nt
              exact ⟨t, _, _, _, dl, dr, rfl, SqT.of upd_same, hb, ldl.keep tn, ldr.keep tn⟩
end
end H2
namespace H2
open PySem PySem.Spec PyProof.Rows L2 Hx Nd Dun
section
variable {P : Program} {w : World} {K : PySem.W.Frag} {mg : Str → Option Value} {base : Heap} {D : Addr}
/-! ### has -/
theorem op_notInDTk {X : Cx} {K' : PySem.W.Frag} (hk : X.K = K') (hu : X.A.units + 65 < cLine) : OpR X (compareOp .NotIn) (fun x y H Q => ∃ d ds, Dp K' H x d ∧ Dp K' H y (.tuple ds) ∧ SeqAt.shaped d = true ∧ SeqAt.shaped (.tuple ds) = true ∧ Q (.bl (!ds.any fun z => PyData.eqv z d)) H) := by
  subst hk
  intro pins s σ H x y v u Q I rx ry h
  obtain ⟨d, ds, hd, he, sd, se, q⟩ := h
  obtain ⟨as, r1⟩ := Dp.reads I d x v hd rx
  obtain ⟨bs, r2⟩ := Dp.reads I (.tuple ds) y u he ry
  exact SeqAt.notIn_tuple_reads r2 r1 (SeqAt.canLay_of_shaped se) (SeqAt.canLay_of_shaped sd) (room_in_shaped sd hu) ⟨.bl _, H, I, rfl, q⟩
def moreOk (r : List Str) : Bool := decide (r = []) || (decide (r = [("less" : Str)]) || decide (r = [("more" : Str)]))
def hasOf (ws : List Str) (pl : Pl) (wd : Int) : Bool := isDown pl && (decide (2 ≤ ws.length) && (moreOk (ws.drop 2) && okNum (ws.getD 1 "") wd))
theorem lay_strs {xs : List Str} (h : ∀ x ∈ xs, PyData.strOk x = true) : PyData.canLayAll0 (xs.map PyData.str) = true := by
  induction xs with
  | nil => rw [List.map_nil, PyData.canLayAll0]
  | cons x r ih =>
    rw [List.map_cons, PyData.canLayAll0, ih fun y hy => h y (List.mem_cons_of_mem _ hy), PyData.canLay0, h x List.mem_cons_self]
    rfl
theorem deep_strs (xs : List Str) : PyData.depthAll (xs.map PyData.str) = 0 := by
  induction xs with
  | nil => rw [List.map_nil, PyData.depthAll]
  | cons x r ih => rw [List.map_cons, PyData.depthAll, ih, PyData.depth]; rfl
theorem shaped_strs {xs : List Str} (h : ∀ x ∈ xs, PyData.strOk x = true) : SeqAt.shaped (.list (xs.map PyData.str)) = true := by
  unfold SeqAt.shaped
  rw [Bool.and_eq_true]
  refine ⟨by rw [PyData.canLay0]; exact lay_strs h, decide_eq_true ?_⟩
  rw [PyData.depth, deep_strs]
  decide
theorem dp_strs {H : Hp} (xs : List Str) : DpAll K H (xs.map V.str) (xs.map PyData.str) := by
  induction xs with
  | nil => exact .nil
  | cons x r ih => exact .cons (.str x) ih
theorem eqv_strs : ∀ a b : List Str, PyData.eqvAll (a.map PyData.str) (b.map PyData.str) = decide (a = b)
  | [], [] => rfl
  | [], b :: r => by simp [PyData.eqvAll]
  | a :: r, [] => by simp [PyData.eqvAll]
  | a :: r, b :: s => by
    rw [List.map_cons, List.map_cons, PyData.eqvAll, PyData.eqv, eqv_strs r s]
    by_cases h1 : a = b <;> by_cases h2 : r = s <;> simp [h1, h2]
theorem more_any (r : List Str) : ([PyData.list [], PyData.list [.str "less"], PyData.list [.str "more"]].any fun z => PyData.eqv z (.list (r.map PyData.str))) = moreOk r := by
  have e0 := eqv_strs [] r
  have e1 := eqv_strs ["less"] r
  have e2 := eqv_strs ["more"] r
  simp only [List.any_cons, List.any_nil, Bool.or_false, PyData.eqv]
  rw [List.map_nil] at e0
  rw [List.map_cons, List.map_nil] at e1 e2
  rw [e0, e1, e2]
  unfold moreOk
  congr 1
  · exact decide_eq_decide.mpr eq_comm
  · congr 1
    · exact decide_eq_decide.mpr eq_comm
    · exact decide_eq_decide.mpr eq_comm
theorem more_cases {r : List Str} (h : moreOk r = true) : r = [] ∨ r = [("less" : Str)] ∨ r = [("more" : Str)] := by
  unfold moreOk at h
  simpa using h
def spHas (K : PySem.W.Frag) : Sp := fun vs H Q _ => ∃ (a : Addr) (ws : List Str) (pl : Pl) (wd : Int), vs = [.ref a, .str pl.str, .int wd] ∧ SqL K H a (ws.map V.str) ∧ (∀ x ∈ ws, PyData.strOk x = true) ∧ ws.length ≤ 1000 ∧ Wd wd ∧ ∀ H' v, Same H H' → TriV K H' v (hasOf ws pl wd) → Q v H'
theorem ok_has {f g : Addr} (T : FT K mg "read_has" s_read_has psSD f) (len : mg "len" = none) {nd : FuncData} (FN : Fun K "read_number" "read_number" s_read_number g nd) (bN : Binds K nd ["word", "width"] []) (mN : mg "read_number" = some (.ref g)) (GN : FnOk P w K mg base CX0 1 g nd ["word", "width"] spNum) :
    ∃ fd, Fun K "read_has" "read_has" s_read_has f fd ∧ Binds K fd psSD [] ∧ FnOk P w K mg base CX0 2 f fd psSD (spHas K) := by
  obtain ⟨fd, F, b⟩ := T.fn
  refine ⟨fd, F, b, F.ok c_read_has (fun vs H Q E h => ?_) (fun cdv A outer s H vs Q E hr h => ?_)⟩
  · obtain ⟨a, ws, pl, wd, rfl, _⟩ := h
    rfl
  obtain ⟨a, ws, pl, wd, rfl, ha, hok, hn, hw, q⟩ := h
  refine ⟨_, pss_cons (ps_if (PW.pt (pw_or (pt_cmpR op_ne (pv 1) pe_str (nomark _)) (pw_or (pt_cmpR op_lt (pe_callB call_len_seq (by rfl) len PySem.boot_len (pa_cons (pv 0) pa_nil)) pe_int (nomark _))
      (pw_or1 (pt_cmpR (op_notInDTk (K' := K) rfl (u65 hr)) (pe_slice sl_list (pv 0) (po_some pe_int) po_none) (pe_tup (pa_cons (pe_lst pa_nil) (pa_cons (pe_lst (pa_cons pe_str pa_nil)) (pa_cons (pe_lst (pa_cons pe_str pa_nil)) pa_nil)))) rfl))))) (pss_one (ps_ret pe_non)) pss_nil)
    (pss_cons (ps_set (i := 3) c_read_has.nd rfl (Or.inl rfl) (pe_call GN hr rfl mN FN.kp bN .nil pass0 (pa_cons (pe_ix ix_list (pv 0) pe_int (fun _ _ => rfl)) (pa_cons (pv 2) pa_nil))))
    (pss_one (ps_ret (pe_ifExp (pt_cmp (pc_isN (pv 3))) pe_non (pe_tup (pa_cons pe_str (pa_cons (pv 3) (pa_cons (pe_join pe_str (pe_slice sl_list (pv 0) (po_some pe_int) po_none)) pa_nil)))))))), ?_⟩
  have no : ∀ {G}, Same H G → hasOf ws pl wd = false → Q .non G := fun sG e => q _ _ sG (by unfold TriV; rw [e]; rfl)
  refine ⟨_, rfl, rfl, _, rfl, ?_⟩
  rw [down_eq]
  refine iteB (fun hd => iteT ?_) (fun hd => ?_)
  · have hd' : isDown pl = false := by cases h : isDown pl with
      | false => rfl
      | true => rw [h] at hd; cases hd
    exact no (Same.refl H) (by unfold hasOf; rw [hd']; rfl)
  have hd' : isDown pl = true := by cases h : isDown pl with
    | true => rfl
    | false => rw [h] at hd; cases hd
  refine ⟨_, rfl, a, _, rfl, .inl ha, _, _, rfl, rfl, _, rfl, ?_⟩
  rw [List.length_map]
  refine iteB (fun hl => iteT ?_) (fun hl => ?_)
  · have hl' : ¬ 2 ≤ ws.length := by
      have := of_decide_eq_true hl
      omega
    exact no (Same.refl H) (by unfold hasOf; rw [decide_eq_false hl']; simp)
  have hl' : 2 ≤ ws.length := by
    have := of_decide_eq_false hl
    omega
  refine ⟨_, rfl, _, rfl, a, _, rfl, ha, fun p np => ?_⟩
  have ec : cutV (ws.map V.str) (some 2) none = (ws.drop 2).map V.str := by
    rw [show (2 : Int) = ((2 : Nat) : Int) by rfl, cut_drop, ← List.map_drop]
  rw [ec]
  have sp := new_same (o := .lst ((ws.drop 2).map V.str)) np
  refine ⟨Nat.zero_le _, fun l0 n0 => ⟨(by show 1 ≤ sizeLine; decide), fun l1 n1 => ⟨(by show 1 ≤ sizeLine; decide), fun l2 n2 => ⟨(by show 3 ≤ sizeLine; decide), fun t nt => ?_⟩⟩⟩⟩
  have s0 := same_new (o := .lst []) sp n0
  have s1 := same_new (o := .lst [.str "less"]) s0 n1
  have s2 := same_new (o := .lst [.str "more"]) s1 n2
  have s3 := same_new (o := .tup [.ref l0, .ref l1, .ref l2]) s2 nt
  have okr : ∀ x ∈ ws.drop 2, PyData.strOk x = true := fun x hx => hok x (List.mem_of_mem_drop hx)
  have shr := shaped_strs okr
  refine ⟨.list ((ws.drop 2).map PyData.str), [.list [], .list [.str "less"], .list [.str "more"]], .lst (SqL.of ((new_same nt) _ _ ((new_same n2) _ _ ((new_same n1) _ _ ((new_same n0) _ _ upd_same))))) (dp_strs _),
    .tup (SqT.of upd_same) (.cons (.lst (SqL.of ((new_same nt) _ _ ((new_same n2) _ _ ((new_same n1) _ _ upd_same)))) .nil) (.cons (.lst (SqL.of ((new_same nt) _ _ ((new_same n2) _ _ upd_same))) (.cons (.str _) .nil)) (.cons (.lst (SqL.of ((new_same nt) _ _ upd_same)) (.cons (.str _) .nil)) .nil))), shr, by decide +kernel, _, rfl, ?_⟩
  rw [more_any]
  refine iteB (fun hm => ?_) (fun hm => ?_)
  · have hm' : moreOk (ws.drop 2) = false := by cases h : moreOk (ws.drop 2) with
      | false => rfl
      | true => rw [h] at hm; cases hm
    exact no s3 (by unfold hasOf; rw [hm']; simp)
  have hm' : moreOk (ws.drop 2) = true := by cases h : moreOk (ws.drop 2) with
    | true => rfl
    | false => rw [h] at hm; cases hm
  have hw1 : ws[1]? = some (ws.getD 1 "") := by rw [List.getD_eq_getElem?_getD, List.getElem?_eq_getElem (by omega)]; rfl
  refine ⟨_, rfl, a, _, 1, .str (ws.getD 1 ""), rfl, rfl, sqt_list_same ha s3, at_of (j := 1) rfl (by rw [List.getElem?_map, hw1] <;> rfl), _, rfl, ws.getD 1 "", wd, rfl, hw, fun G sG => ?_⟩
  have s4 := s3.trans sG
  by_cases hk : okNum (ws.getD 1 "") wd = true
  · rw [if_pos hk]
    refine ⟨_, rfl, _, rfl, iteF ?_⟩
    refine ⟨_, rfl, ⟨_, rfl⟩, _, rfl, _, rfl, a, _, rfl, sqt_list_same ha s4, fun p2 np2 => ?_⟩
    rw [ec]
    have s5 := same_new (o := .lst ((ws.drop 2).map V.str)) s4 np2
    have hj : ((ws.drop 2).map (·.length)).sum + (ws.drop 2).length * (("" : Str)).length ≤ 16777216 ∧ PyData.strOk (Txt.join "" (ws.drop 2)) = true := by
      rcases more_cases hm' with e | e | e <;> rw [e] <;> exact ⟨by decide +kernel, by decide +kernel⟩
    refine ⟨"", p2, ws.drop 2, rfl, rfl, .inl (SqL.of upd_same), hj.1, (by show 3 ≤ sizeLine; decide), fun u nu => ?_⟩
    refine q _ (.ref u) (same_new s5 nu) ?_
    have e : hasOf ws pl wd = true := by unfold hasOf; rw [hd', hm', hk, decide_eq_true hl']; rfl
    unfold TriV
    rw [if_pos e]
    exact ⟨u, "has", _, _, _, _, rfl, SqT.of upd_same, by decide +kernel, lf_int, lf_str hj.2⟩
  · rw [if_neg hk]
    refine ⟨_, rfl, _, rfl, iteBT (by decide) ?_⟩
    exact no s4 (by unfold hasOf; cases h : okNum (ws.getD 1 "") wd with
      | true => exact absurd h hk
      | false => simp)
end
end H2
namespace H2
open PySem PySem.Spec PyProof.Rows L2 Hx Nd Dun
section
variable {P : Program} {w : World} {K : PySem.W.Frag} {mg : Str → Option Value} {base : Heap} {D : Addr}
/-! ### parts -/
def plainV : List V := [.str "inside", .str "below root", .str "below start"]
/-- what is asked of a text that is cut into words -/
structure OkW (x : Str) : Prop where
  len : x.length + 2 ≤ sizeLine
  ne : Txt.split x " " ≠ []
  le : (Txt.split x " ").length ≤ 1000
  ok : ∀ y ∈ Txt.split x " ", PyData.strOk y = true
def plainOf (x : Str) (pl : Pl) (wd : Int) : Bool := inV (.str x) plainV || (if (Txt.split x " ").getD 0 "" = "has" then hasOf (Txt.split x " ") pl wd else (cmpOf (Txt.split x " ") pl wd).isSome)
def spPlain (K : PySem.W.Frag) : Sp := fun vs H Q _ => ∃ (x : Str) (pl : Pl) (wd : Int), vs = [.str x, .str pl.str, .int wd] ∧ OkW x ∧ Wd wd ∧ ∀ H' v, Same H H' → TriV K H' v (plainOf x pl wd) → Q v H'
abbrev psTX : List Str := ["text", "place", "width"]
theorem ok_plain {f g1 g2 : Addr} (T : FT K mg "read_plain_part" s_read_plain_part psTX f) {d1 d2 : FuncData} (F1 : Fun K "read_has" "read_has" s_read_has g1 d1) (b1 : Binds K d1 psSD []) (m1 : mg "read_has" = some (.ref g1)) (G1 : FnOk P w K mg base CX0 2 g1 d1 psSD (spHas K))
    (F2 : Fun K "read_comparison" "read_comparison" s_read_comparison g2 d2) (b2 : Binds K d2 psSD []) (m2 : mg "read_comparison" = some (.ref g2)) (G2 : FnOk P w K mg base CX0 3 g2 d2 psSD (spCmp K)) :
    ∃ fd, Fun K "read_plain_part" "read_plain_part" s_read_plain_part f fd ∧ Binds K fd psTX [] ∧ FnOk P w K mg base CX0 4 f fd psTX (spPlain K) := by
  obtain ⟨fd, F, b⟩ := T.fn
  refine ⟨fd, F, b, F.ok c_read_plain_part (fun vs H Q E h => ?_) (fun cdv A outer s H vs Q E hr h => ?_)⟩
  · obtain ⟨x, pl, wd, rfl, _⟩ := h
    rfl
  obtain ⟨x, pl, wd, rfl, hx, hw, q⟩ := h
  refine ⟨_, pss_cons (ps_if (pt_cmpR op_in_seq (pv 0) (pe_tup (pa_cons pe_str (pa_cons pe_str (pa_cons pe_str pa_nil)))) rfl) (pss_one (ps_ret (pe_tup (pa_cons (pv 0) (pa_cons pe_non (pa_cons pe_non pa_nil)))))) pss_nil)
    (pss_cons (ps_set (i := 3) c_read_plain_part.nd rfl (Or.inl rfl) (pe_split (pv 0) pe_str))
    (pss_cons (ps_if (pt_cmpR op_eq (pe_ix ix_list (pv 3) pe_int (fun _ _ => rfl)) pe_str (nomark _)) (pss_one (ps_ret (pe_call G1 (hr.mono (by decide)) rfl m1 F1.kp b1 .nil pass0 (pa_cons (pv 3) (pa_cons (pv 1) (pa_cons (pv 2) pa_nil)))))) pss_nil)
    (pss_one (ps_ret (pe_call G2 hr rfl m2 F2.kp b2 .nil pass0 (pa_cons (pv 3) (pa_cons (pv 1) (pa_cons (pv 2) pa_nil)))))))), ?_⟩
  refine ⟨_, rfl, (by show 3 ≤ sizeLine; decide), fun t nt => ⟨t, _, rfl, .inr (SqT.of upd_same), rfl, rfl, _, rfl, iteB (fun hh => ?_) (fun hh => ?_)⟩⟩
  · have hp : inV (.str x) plainV = true := hh
    refine ⟨_, rfl, (by show 3 ≤ sizeLine; decide), fun p np => ?_⟩
    refine q _ (.ref p) ((new_same nt).trans (new_same np)) ?_
    have e : plainOf x pl wd = true := by unfold plainOf; rw [hp]; rfl
    unfold TriV
    rw [if_pos e]
    have hb : PyData.strOk x = true := by
      have z : x = "inside" ∨ x = "below root" ∨ x = "below start" := by
        simp [inV, plainV, eqV] at hp
        rcases hp with h | h | h
        · exact .inl h.symm
        · exact .inr (.inl h.symm)
        · exact .inr (.inr h.symm)
      rcases z with z | z | z <;> rw [z] <;> decide +kernel
    exact ⟨p, x, _, _, _, _, rfl, SqT.of upd_same, hb, lf_non, lf_non⟩
  · have hp : inV (.str x) plainV = false := hh
    have e : plainOf x pl wd = (if (Txt.split x " ").getD 0 "" = "has" then hasOf (Txt.split x " ") pl wd else (cmpOf (Txt.split x " ") pl wd).isSome) := by unfold plainOf; rw [hp]; rfl
    refine ⟨_, rfl, ⟨_, rfl⟩, x, _, rfl, rfl, by decide +kernel, hx.len, fun l nl => ?_⟩
    have sl := (new_same (o := .tup plainV) nt).trans (new_same (o := .lst ((Txt.split x " ").map V.str)) nl)
    have h0 : (Txt.split x " ")[0]? = some ((Txt.split x " ").getD 0 "") := by
      rw [List.getD_eq_getElem?_getD]
      cases h : (Txt.split x " ")[0]? with
      | some y => rfl
      | none =>
        have := List.getElem?_eq_none_iff.mp h
        exact absurd (List.length_eq_zero_iff.mp (by omega)) hx.ne
    refine ⟨_, rfl, l, _, 0, .str ((Txt.split x " ").getD 0 ""), rfl, rfl, SqL.of upd_same, at_of (j := 0) rfl (by rw [List.getElem?_map, h0] <;> rfl), rfl, _, rfl, ite2 (fun hh => ?_) (fun hh => ?_)⟩
    · have eh : (Txt.split x " ").getD 0 "" = "has" := V.str.inj (of_decide_eq_true hh)
      rw [if_pos eh] at e
      refine ⟨_, rfl, _, rfl, _, rfl, l, Txt.split x " ", pl, wd, rfl, SqL.of upd_same, hx.ok, hx.le, hw, fun G v sG hv => ?_⟩
      exact q G v (sl.trans sG) (by rw [e]; exact hv)
    · have eh : ¬ (Txt.split x " ").getD 0 "" = "has" := fun z => hh (decide_eq_true (by rw [z]))
      rw [if_neg eh] at e
      refine ⟨_, rfl, _, rfl, _, rfl, l, Txt.split x " ", pl, wd, rfl, SqL.of upd_same, hx.le, hw, fun G v sG hv => ?_⟩
      exact q G v (sl.trans sG) (by rw [e]; exact hv)
/-- the text behind a `not` -/
def notOf (x : Str) : Str := if Txt.startswith x "not " = true then cutS x (some 4) none else x
def partOf (x : Str) (pl : Pl) (wd : Int) : Bool := plainOf (notOf x) pl wd
structure OkP (x : Str) : Prop where
  len : x.length ≤ sizeLine
  w : OkW (notOf x)
/-- a part as a value -/
def QuaV (K : PySem.W.Frag) (H : Hp) (v : V) (ok : Bool) : Prop := if ok = true then ∃ t c b l r dl dr, v = .ref t ∧ SqT K H t [.bl c, .str b, l, r] ∧ PyData.strOk b = true ∧ Lf K H l dl ∧ Lf K H r dr else v = .non
theorem QuaV.keep {H H' : Hp} {v : V} {ok : Bool} (h : QuaV K H v ok) (e : Tups H H') : QuaV K H' v ok := by
  unfold QuaV at h ⊢
  split
  · rename_i ho
    rw [if_pos ho] at h
    obtain ⟨t, c, b, l, r, dl, dr, h1, h2, h3, h4, h5⟩ := h
    exact ⟨t, c, b, l, r, dl, dr, h1, sqt_tups e h2, h3, h4.keep e, h5.keep e⟩
  · rename_i ho
    rw [if_neg ho] at h
    exact h
def spPart (K : PySem.W.Frag) : Sp := fun vs H Q _ => ∃ (x : Str) (pl : Pl) (wd : Int), vs = [.str x, .str pl.str, .int wd] ∧ OkP x ∧ Wd wd ∧ ∀ H' v, Same H H' → QuaV K H' v (partOf x pl wd) → Q v H'
theorem ok_part {f g : Addr} (T : FT K mg "read_part" s_read_part psTX f) (len : mg "len" = none) {d1 : FuncData} (F1 : Fun K "read_plain_part" "read_plain_part" s_read_plain_part g d1) (b1 : Binds K d1 psTX []) (m1 : mg "read_plain_part" = some (.ref g)) (G1 : FnOk P w K mg base CX0 4 g d1 psTX (spPlain K)) :
    ∃ fd, Fun K "read_part" "read_part" s_read_part f fd ∧ Binds K fd psTX [] ∧ FnOk P w K mg base CX0 5 f fd psTX (spPart K) := by
  obtain ⟨fd, F, b⟩ := T.fn
  refine ⟨fd, F, b, F.ok c_read_part (fun vs H Q E h => ?_) (fun cdv A outer s H vs Q E hr h => ?_)⟩
  · obtain ⟨x, pl, wd, rfl, _⟩ := h
    rfl
  obtain ⟨x, pl, wd, rfl, hx, hw, q⟩ := h
  refine ⟨_, pss_cons (ps_set (i := 3) c_read_part.nd rfl (Or.inl rfl) (pe_m1 PySem.F.slot_str_startswith PySem.F.type_str_startswith mt_startswith (pv 0) pe_str))
    (pss_cons (ps_set (i := 4) c_read_part.nd rfl (Or.inl rfl) (pe_call G1 hr rfl m1 F1.kp b1 .nil pass0 (pa_cons (pe_ifExp (pt_val (pv 3)) (pe_slice sl_str (pv 0) (po_some (pe_callB call_len_str (by rfl) len PySem.boot_len (pa_cons pe_str pa_nil))) po_none) (pv 0)) (pa_cons (pv 1) (pa_cons (pv 2) pa_nil)))))
    (pss_one (ps_ret (pe_ifExp (pt_cmp (pc_isN (pv 4))) pe_non (pe_tup (pa_cons (pe_not (pv 3)) (StX.pa_star (pv 4) pa_nil))))))), ?_⟩
  refine ⟨_, rfl, ⟨_, rfl⟩, x, _, rfl, rfl, ?_⟩
  have fin : ∀ (G : Hp) (v : V), Same H G → TriV K G v (partOf x pl wd) → tRet (tIf (tB (tIsN (tVar 4))) (tC .non) (tTup (tCons (fun σ H Q => tVar 3 σ H fun x G => ∃ c, x = .bl c ∧ Q (.bl (!c)) G) (StX.tStar K (tVar 4) tNil)))) { nx := fun _ H' => Q .non H', rt := Q } [some (.str x), some (.str pl.str), some (.int wd), some (.bl (Txt.startswith x "not ")), some v] G := fun G v sG hv => by
    unfold TriV at hv
    split at hv
    · rename_i ho
      obtain ⟨t, b, l, r, dl, dr, rfl, ht, hb, ll, lr⟩ := hv
      refine ⟨_, rfl, _, rfl, iteF ?_⟩
      refine ⟨_, rfl, _, rfl, _, rfl, t, _, rfl, .inl ht, (by show 4 ≤ sizeLine; decide), fun u nu => ?_⟩
      refine q _ (.ref u) (same_new sG nu) ?_
      unfold QuaV
      rw [if_pos ho]
      exact ⟨u, _, b, l, r, dl, dr, rfl, SqT.of upd_same, hb, ll.keep (tups_of_new nu), lr.keep (tups_of_new nu)⟩
    · rename_i ho
      subst hv
      refine ⟨_, rfl, _, rfl, iteBT (by decide) ?_⟩
      refine q G _ sG ?_
      unfold QuaV
      rw [if_neg ho]
  cases hb : Txt.startswith x "not " with
  | true =>
    rw [hb] at fin
    have en : notOf x = cutS x (some 4) none := by unfold notOf; rw [if_pos hb]
    refine ⟨_, rfl, _, rfl, iteT ?_⟩
    refine ⟨_, rfl, "not ", rfl, by decide +kernel, _, rfl, x, rfl, hx.len, _, rfl, _, rfl, notOf x, pl, wd, ?_, hx.w, hw, fun G v sG hv => fin G v sG hv⟩
    rw [en]
    rfl
  | false =>
    rw [hb] at fin
    have en : notOf x = x := by unfold notOf; rw [hb]; rfl
    refine ⟨_, rfl, _, rfl, iteF ?_⟩
    exact ⟨_, rfl, _, rfl, _, rfl, notOf x, pl, wd, by rw [en]; rfl, hx.w, hw, fun G v sG hv => fin G v sG hv⟩
end
end H2
namespace H2
open PySem PySem.Spec PyProof.Rows L2 Hx Nd Dun
section
variable {P : Program} {w : World} {K : PySem.W.Frag} {mg : Str → Option Value} {base : Heap} {D : Addr}
/-! ### tests -/
inductive QAll (K : PySem.W.Frag) (H : Hp) : List V → List Bool → Prop
  | nil : QAll K H [] []
  | cons {v : V} {vs : List V} {b : Bool} {bs : List Bool} : QuaV K H v b → QAll K H vs bs → QAll K H (v :: vs) (b :: bs)
theorem QAll.keep {H H' : Hp} (e : Tups H H') : ∀ {vs : List V} {bs : List Bool}, QAll K H vs bs → QAll K H' vs bs
  | _, _, .nil => .nil
  | _, _, .cons a b => .cons (a.keep e) (b.keep e)
theorem QAll.snoc {H : Hp} {v : V} {b : Bool} (h : QuaV K H v b) : ∀ {vs : List V} {bs : List Bool}, QAll K H vs bs → QAll K H (vs ++ [v]) (bs ++ [b])
  | _, _, .nil => .cons h .nil
  | _, _, .cons a r => .cons a (r.snoc h)
theorem qua_data {H : Hp} {v : V} {b : Bool} (h : QuaV K H v b) : ∃ d, Dp K H v d ∧ d.canLay0 = true ∧ d.depth ≤ 2 ∧ PyData.eqv d .none = !b := by
  unfold QuaV at h
  split at h
  · rename_i ho
    obtain ⟨t, c, w, l, r, dl, dr, rfl, ht, hw, ll, lr⟩ := h
    refine ⟨.tuple [.bool c, .str w, dl, dr], .tup ht (.cons (.bl c) (.cons (.str w) (.cons (ll.1 H (Tups.refl H)) (.cons (lr.1 H (Tups.refl H)) .nil)))), ?_, ?_, ?_⟩
    · simp [PyData.canLay0, PyData.canLayAll0, hw, ll.2.1, lr.2.1]
    · have a := ll.2.2
      have b := lr.2.2
      simp only [PyData.depth, PyData.depthAll]
      omega
    · rw [ho]
      simp [PyData.eqv]
  · rename_i ho
    subst h
    refine ⟨.none, .non, by decide +kernel, by decide +kernel, ?_⟩
    have : b = false := by cases b with
      | true => exact absurd rfl ho
      | false => rfl
    rw [this]
    simp [PyData.eqv]
theorem qall_data {H : Hp} : ∀ {vs : List V} {bs : List Bool}, QAll K H vs bs → ∃ ds, DpAll K H vs ds ∧ PyData.canLayAll0 ds = true ∧ PyData.depthAll ds ≤ 2 ∧ (ds.any fun z => PyData.eqv z .none) = !(bs.all id)
  | _, _, .nil => ⟨[], .nil, by rw [PyData.canLayAll0], by rw [PyData.depthAll]; decide, rfl⟩
  | _, _, .cons a r => by
    obtain ⟨d, h1, h2, h3, h4⟩ := qua_data a
    obtain ⟨ds, k1, k2, k3, k4⟩ := qall_data r
    refine ⟨d :: ds, .cons h1 k1, ?_, ?_, ?_⟩
    · rw [PyData.canLayAll0, h2, k2]
      rfl
    · rw [PyData.depthAll]
      omega
    · rw [List.any_cons, h4, k4, List.all_cons]
      exact (Bool.not_and _ _).symm
/-- a test that is read -/
def TestV (K : PySem.W.Frag) (H : Hp) (t : Addr) : Prop := ∃ vs bs, SqT K H t vs ∧ QAll K H vs bs ∧ bs.all id = true ∧ vs.length ≤ 1000
theorem TestV.keep {H H' : Hp} {t : Addr} (h : TestV K H t) (e : Tups H H') : TestV K H' t := by
  obtain ⟨vs, bs, h1, h2, h3, h4⟩ := h
  exact ⟨vs, bs, sqt_tups e h1, h2.keep e, h3, h4⟩
def testOf (x : Str) (pl : Pl) (wd : Int) : Bool := ((Txt.split x " and ").map fun p => partOf p pl wd).all id
structure OkT (x : Str) : Prop where
  len : x.length + 2 ≤ sizeLine
  le : (Txt.split x " and ").length ≤ 1000
  p : ∀ y ∈ Txt.split x " and ", OkP y
def TestR (K : PySem.W.Frag) (H : Hp) (v : V) (ok : Bool) : Prop := if ok = true then ∃ t, v = .ref t ∧ TestV K H t else v = .non
def spTest (K : PySem.W.Frag) : Sp := fun vs H Q _ => ∃ (x : Str) (pl : Pl) (wd : Int), vs = [.str x, .str pl.str, .int wd] ∧ OkT x ∧ Wd wd ∧ ∀ H' v, Same H H' → TestR K H' v (testOf x pl wd) → Q v H'
theorem ok_test {f g : Addr} (T : FT K mg "read_test" s_read_test psTX f) (tup : mg "tuple" = none) {d1 : FuncData} (F1 : Fun K "read_part" "read_part" s_read_part g d1) (b1 : Binds K d1 psTX []) (m1 : mg "read_part" = some (.ref g)) (G1 : FnOk P w K mg base CX0 5 g d1 psTX (spPart K)) :
    ∃ fd, Fun K "read_test" "read_test" s_read_test f fd ∧ Binds K fd psTX [] ∧ FnOk P w K mg base CX0 6 f fd psTX (spTest K) := by
  obtain ⟨fd, F, b⟩ := T.fn
  refine ⟨fd, F, b, F.ok c_read_test (fun vs H Q E h => ?_) (fun cdv A outer s H vs Q E hr h => ?_)⟩
  · obtain ⟨x, pl, wd, rfl, _⟩ := h
    rfl
  obtain ⟨x, pl, wd, rfl, hx, hw, q⟩ := h
  refine ⟨_, pss_cons (ps_setLc (i := 3) (own := [("part", 4)]) (g := gName 4) (tt := tYes) rfl c_read_test.nd rfl rfl (sw_true rfl rfl rfl (by decide +kernel)) (pi_list (pe_split (pv 0) pe_str)) (blkOk_by (own := [("part", 4)]) (N := n_read_test) (sc := defScope s_read_test) (by decide +kernel))
      (fun _ _ _ _ _ => pg_name (i := 4) c_read_test.nd rfl (Or.inl rfl)) (fun _ _ _ _ _ => pts_nil) (fun _ _ _ _ _ => pe_call G1 hr rfl m1 F1.kp b1 .nil pass0 (pa_cons (pv 4) (pa_cons (pv 1) (pa_cons (pv 2) pa_nil)))))
    (pss_one (ps_ret (pe_ifExp (pt_cmpR (op_inD (u65 hr)) pe_non (pv 3) rfl) pe_non (pe_callTy call_tuple_of (by rfl) tup (by decide +kernel) (pa_cons (pv 3) pa_nil))))), ?_⟩
  refine ⟨_, rfl, ⟨_, rfl⟩, x, _, rfl, rfl, by decide +kernel, hx.len, ?_⟩
  refine fun l nl => ⟨l, rfl, ⟨_, SqL.of upd_same⟩, fun L nL => lc_list (K := K) (a := l) (xs := (Txt.split x " and ").map V.str) (fun i G => ∃ acc, Same (upd H l (.lst ((Txt.split x " and ").map V.str))) G ∧ G L = some (.lst acc) ∧ acc.length = i ∧ QAll K G acc (((Txt.split x " and ").take i).map fun p => partOf p pl wd)) ⟨[], new_same nL, upd_same, rfl, .nil⟩ ?_ ?_ ?_⟩
  · rintro i G _ ⟨acc, sG, _⟩
    exact SqL.of (sG _ _ upd_same)
  · rintro i v G hi ⟨acc, sG, eL, hacc, hq⟩
    rw [List.getElem?_map] at hi
    cases hyi : (Txt.split x " and ")[i]? with
    | none => rw [hyi] at hi; cases hi
    | some y =>
      rw [hyi] at hi
      cases hi
      have hil : i < (Txt.split x " and ").length := (List.getElem?_eq_some_iff.mp hyi).1
      refine ⟨rfl, ?_⟩
      unfold tYes
      dsimp only
      rw [if_pos rfl]
      refine ⟨_, rfl, _, rfl, _, rfl, y, pl, wd, rfl, hx.p y (List.mem_of_getElem? hyi), hw, fun G2 v s2 hv => ?_⟩
      have eL2 := s2 _ _ eL
      have tL := tups_lst (o := .lst (acc ++ [v])) eL2
      refine ⟨acc, eL2, ?_, acc ++ [v], same_out (sG.trans s2) nL, upd_same, by rw [List.length_append, hacc]; rfl, ?_⟩
      · rw [hacc]
        exact Nat.lt_of_lt_of_le hil (Nat.le_trans hx.le (by decide))
      · have et : (Txt.split x " and ").take (i + 1) = (Txt.split x " and ").take i ++ [y] := by rw [List.take_add_one, hyi]; rfl
        rw [et, List.map_append]
        exact ((hq.keep (Tups.of s2)).snoc hv).keep tL
  · rintro G ⟨acc, sG, eL, hacc, hq⟩
    rw [List.length_map, List.take_length] at hq
    have sHG : Same H G := (new_same nl).trans sG
    obtain ⟨ds, k1, k2, k3, k4⟩ := qall_data hq
    have sh : SeqAt.shaped (.list ds) = true := by
      unfold SeqAt.shaped
      rw [Bool.and_eq_true]
      refine ⟨by rw [PyData.canLay0]; exact k2, decide_eq_true ?_⟩
      rw [PyData.depth]
      omega
    refine ⟨_, rfl, .none, ds, .non, .lst (SqL.of eL) k1, by decide +kernel, sh, _, rfl, ?_⟩
    rw [k4]
    refine iteB (fun hh => ?_) (fun hh => ?_)
    · have ht : testOf x pl wd = false := by
        unfold testOf
        cases h : ((Txt.split x " and ").map fun p => partOf p pl wd).all id with
        | false => rfl
        | true => rw [h] at hh; cases hh
      refine q G _ sHG ?_
      unfold TestR
      rw [ht]
      rfl
    · have ht : testOf x pl wd = true := by
        unfold testOf
        cases h : ((Txt.split x " and ").map fun p => partOf p pl wd).all id with
        | true => rfl
        | false => rw [h] at hh; cases hh
      refine ⟨_, rfl, L, _, rfl, .inl ⟨SqL.of eL, fun r nr => ?_⟩⟩
      refine q _ (.ref r) (same_new sHG nr) ?_
      unfold TestR
      rw [if_pos ht]
      exact ⟨r, rfl, acc, _, SqT.of upd_same, hq.keep (tups_of_new nr), ht, by rw [hacc, List.length_map]; exact hx.le⟩
end
end H2
namespace H2
open PySem PySem.Spec PyProof.Rows L2 Hx Nd Dun
section
variable {P : Program} {w : World} {K : PySem.W.Frag} {mg : Str → Option Value} {base : Heap} {D : Addr}
/-! ### Row -/
abbrev psRow : List Str := ["self", "word", "place", "number", "test"]
structure RowT (K : PySem.W.Frag) (mg : Str → Option Value) (C fI tt : Addr) : Prop where
  g : mg "Row" = some (.ref C)
  mak : Mk K C fI
  cl : Cls K C
  nw : NoAttr K C "word"
  np : NoAttr K C "place"
  nn : NoAttr K C "number"
  nt : NoAttr K C "test"
  fn : ∃ fd, FunD K "__init__" "Row.__init__" (defArgs s_Row_init) (defBody s_Row_init) (defScope s_Row_init) [.non, .ref tt] [] fI fd
def rowF (a b c d : V) : List (Str × V) := [("word", a), ("place", b), ("number", c), ("test", d)]
def spRow (C : Addr) : Sp := fun vs H Q _ => ∃ (p dx : Addr) (a b c d : V), vs = [.ref p, a, b, c, d] ∧ H p = some (.ins C dx []) ∧ Q .non (upd H p (.ins C dx (rowF a b c d)))
theorem ok_Row {C fI tt : Addr} (T : RowT K mg C fI tt) {fd : FuncData} (F : FunD K "__init__" "Row.__init__" (defArgs s_Row_init) (defBody s_Row_init) (defScope s_Row_init) [.non, .ref tt] [] fI fd) : FnOk P w K mg base CX0 1 fI fd psRow (spRow C) := by
  refine F.ok (CX := CX0) c_Row_init (fun vs H Q E h => ?_) (fun cdv A outer s H vs Q E hr h => ?_)
  · obtain ⟨p, dx, a, b, c, d, rfl, _⟩ := h
    rfl
  obtain ⟨p, dx, a, b, c, d, rfl, hp, q⟩ := h
  refine ⟨_, (pss_cons (ps_fld (pv 0) (pv 1) rfl) (pss_cons (ps_fld (pv 0) (pv 2) rfl) (pss_cons (ps_fld (pv 0) (pv 3) rfl) (pss_one (ps_fld (pv 0) (pv 4) rfl))))), ?_⟩
  refine ⟨_, rfl, _, rfl, p, C, dx, _, rfl, hp, T.cl, T.nw, (by show 0 < 1000; decide), ?_⟩
  refine ⟨_, rfl, _, rfl, p, C, dx, _, rfl, upd_same, T.cl, T.np, (by show 1 < 1000; decide), ?_⟩
  refine ⟨_, rfl, _, rfl, p, C, dx, _, rfl, upd_same, T.cl, T.nn, (by show 2 < 1000; decide), ?_⟩
  refine ⟨_, rfl, _, rfl, p, C, dx, _, rfl, upd_same, T.cl, T.nt, (by show 3 < 1000; decide), ?_⟩
  rw [upd_upd, upd_upd, upd_upd]
  exact q
theorem row_kb {fI tt : Addr} {fd : FuncData} (F : FunD K "__init__" "Row.__init__" (defArgs s_Row_init) (defBody s_Row_init) (defScope s_Row_init) [.non, .ref tt] [] fI fd) :
    ∃ its : List Value, KBn K fd psRow 3 ["test"] (fun us ws => us ++ (its.take 1 ++ ws)) (fun vs zs => vs ++ (([.non, .ref tt] : List V).take 1 ++ zs)) :=
  FunD.kbindsD (ps := psRow) F 3 ["test"] (fun us its ws => us ++ (its.take 1 ++ ws)) (by simp) (fun r1 r2 r3 => by
    exact r1.append ((r2.take 1).append r3)) (fun T kV doc pm an cdv ct us its ws l1 l2 l3 => by
    match us, its, ws, l1, l2, l3 with
    | [a, b, c], [d, e], [f], _, _, _ => exact ⟨_, rfl, rfl⟩)
theorem row_b {fI tt : Addr} {fd : FuncData} (F : FunD K "__init__" "Row.__init__" (defArgs s_Row_init) (defBody s_Row_init) (defScope s_Row_init) [.non, .ref tt] [] fI fd) : ∃ ds, Vals [.non, .ref tt] ds ∧ Binds K fd psRow ds :=
  FunD.binds1 (ps := psRow) F 3 0 (by simp) rfl (fun T kV doc pm an cdv ct us its l1 l2 => by
    match us, its, l1, l2 with
    | [a, b, c], [d, e], _, _ => exact ⟨_, rfl, rfl⟩)
theorem row_b1 {fI tt : Addr} {fd : FuncData} (F : FunD K "__init__" "Row.__init__" (defArgs s_Row_init) (defBody s_Row_init) (defScope s_Row_init) [.non, .ref tt] [] fI fd) : ∃ ds, Vals [.ref tt] ds ∧ Binds K fd psRow ds :=
  FunD.binds1 (ps := psRow) F 4 1 (by simp) rfl (fun T kV doc pm an cdv ct us its l1 l2 => by
    match us, its, l1, l2 with
    | [a, b, c, g], [d, e], _, _ => exact ⟨_, rfl, rfl⟩)
/-! ### names_given -/
def spNames (K : PySem.W.Frag) : Sp := fun vs H Q _ => ∃ (t : Addr), vs = [.ref t] ∧ TestV K H t ∧ ∀ H' b, Same H H' → Q (.bl b) H'
theorem qall_get {H : Hp} : ∀ {vs : List V} {bs : List Bool}, QAll K H vs bs → bs.all id = true → ∀ v ∈ vs, QuaV K H v true
  | _, _, .nil, _, v, hv => by cases hv
  | _, _, .cons (b := b) a r, hb, v, hv => by
    rw [List.all_cons, Bool.and_eq_true] at hb
    rcases List.mem_cons.mp hv with rfl | hv
    · have e : b = true := hb.1
      rw [e] at a
      exact a
    · exact qall_get r hb.2 v hv
theorem ok_names {f a : Addr} (T : FT K mg "names_given" s_names_given ["test"] f) (C : TupT K mg "GIVEN" a [.str "given", .int 0]) (any : mg "any" = none) : ∃ fd, Fun K "names_given" "names_given" s_names_given f fd ∧ Binds K fd ["test"] [] ∧ FnOk P w K mg base CX0 1 f fd ["test"] (spNames K) := by
  obtain ⟨fd, F, b⟩ := T.fn
  refine ⟨fd, F, b, F.ok c_names_given (fun vs H Q E h => ?_) (fun cdv A outer s H vs Q E hr h => ?_)⟩
  · obtain ⟨t, rfl, _⟩ := h
    rfl
  obtain ⟨t, rfl, ⟨vs, bs, ht, hq, hall, hvl⟩, q⟩ := h
  refine ⟨_, pss_one (ps_ret (pe_callB (cr_any rfl) (by rfl) any (by decide +kernel) (pa_cons (pe_lc (own := [("_", 1), ("left", 2), ("right", 3)]) (g := gTup K 4 (gCons (gName 1) (gCons (gName 1) (gCons (gName 2) (gCons (gName 3) gNil))))) (tt := tYes) rfl c_names_given.nd (pi_tup (pv 0)) (blkOk_by (own := [("_", 1), ("left", 2), ("right", 3)]) (N := n_names_given) (sc := defScope s_names_given) (by decide +kernel))
      (fun _ _ _ _ _ => pg_tup rfl (pgs_cons (pg_name (i := 1) c_names_given.nd rfl (Or.inl rfl)) (pgs_cons (pg_name (i := 1) c_names_given.nd rfl (Or.inl rfl)) (pgs_cons (pg_name (i := 2) c_names_given.nd rfl (Or.inl rfl)) (pgs_cons (pg_name (i := 3) c_names_given.nd rfl (Or.inl rfl)) pgs_nil))))) (fun _ _ _ _ _ => pts_nil)
      (fun _ _ _ _ _ => pe_cmpR (op_inDTk (K' := K) rfl (by exact u65 hr)) (pe_glob (v := .ref a) rfl C.g rfl) (pe_tup (pa_cons (pv 2) (pa_cons (pv 3) pa_nil))) rfl)) pa_nil))), ?_⟩
  refine ⟨_, rfl, t, rfl, ⟨_, ht⟩, fun L nL => lc_tup (K := K) (a := t) (xs := vs) (fun i G => ∃ cs : List Bool, Same H G ∧ G L = some (.lst (cs.map V.bl)) ∧ cs.length = i) ⟨[], new_same nL, upd_same, rfl⟩ ?_ ?_ ?_⟩
  · rintro i G _ ⟨cs, sG, _⟩
    exact sqt_same sG ht
  · rintro i v G hi ⟨cs, sG, eL, hc⟩
    have hv := (qall_get hq hall v (List.mem_of_getElem? hi)).keep (Tups.of sG)
    unfold QuaV at hv
    rw [if_pos rfl] at hv
    obtain ⟨p, c, b, l, r, dl, dr, rfl, hp, hb, ll, lr⟩ := hv
    refine ⟨p, _, rfl, hp, rfl, _, _, rfl, _, _, rfl, _, _, rfl, _, _, rfl, rfl, rfl, ?_⟩
    unfold tYes
    dsimp only
    rw [if_pos rfl]
    refine ⟨_, rfl, _, rfl, (by show 2 ≤ sizeLine; decide), fun u nu => ?_⟩
    have tu := tups_of_new (o := .tup [l, r]) nu
    refine ⟨.tuple [.str "given", .int 0], [dl, dr], .tup (C.s _) (.cons (.str _) (.cons (.int _) .nil)), .tup (SqT.of upd_same) (.cons (ll.1 _ tu) (.cons (lr.1 _ tu) .nil)), ?_, ?_, ?_⟩
    · decide +kernel
    · unfold SeqAt.shaped
      rw [Bool.and_eq_true]
      refine ⟨by simp [PyData.canLay0, PyData.canLayAll0, ll.2.1, lr.2.1], decide_eq_true ?_⟩
      have a := ll.2.2
      have b := lr.2.2
      simp only [PyData.depth, PyData.depthAll]
      omega
    · refine ⟨_, (new_same nu) _ _ eL, ?_, cs ++ [_], same_out (same_new sG nu) nL, by rw [upd_same, List.map_append]; rfl, by rw [List.length_append, hc]; rfl⟩
      rw [List.length_map, hc]
      exact Nat.lt_of_lt_of_le (List.getElem?_eq_some_iff.mp hi).1 (Nat.le_trans hvl (by decide))
  · rintro G ⟨cs, sG, eL, hc⟩
    exact ⟨L, cs, rfl, SqL.of eL, q _ _ sG⟩
end
end H2
namespace H2
open PySem PySem.Spec PyProof.Rows L2 Hx Nd Dun
section
variable {P : Program} {w : World} {K : PySem.W.Frag} {mg : Str → Option Value} {base : Heap} {D : Addr}
/-! ### rows -/
/-- a row: its word, its place -/
def RowG (K : PySem.W.Frag) (C : Addr) (H : Hp) (r : Addr) (wd : Str) (pl : Pl) : Prop := ∃ (dx tt : Addr) (nu : V), H r = some (.ins C dx (rowF (.str wd) (.str pl.str) nu (.ref tt))) ∧ (wd = "if" → TestV K H tt)
theorem RowG.keep {C r : Addr} {wd : Str} {pl : Pl} {H H' : Hp} (h : RowG K C H r wd pl) (e : Same H H') : RowG K C H' r wd pl := by
  obtain ⟨dx, tt, nu, h1, h2⟩ := h
  exact ⟨dx, tt, nu, e _ _ h1, fun z => (h2 z).keep (Tups.of e)⟩
theorem RowG.lst {C r a : Addr} {wd : Str} {pl : Pl} {H : Hp} {ys : List V} {o : HO} (h : RowG K C H r wd pl) (e : H a = some (.lst ys)) : RowG K C (upd H a o) r wd pl := by
  obtain ⟨dx, tt, nu, h1, h2⟩ := h
  refine ⟨dx, tt, nu, ?_, fun z => (h2 z).keep (tups_lst e)⟩
  rw [upd_ne (ne_of h1 e (by intro z; cases z))]
  exact h1
def RowR (K : PySem.W.Frag) (C : Addr) (H0 H : Hp) (v : V) : Option (Str × Pl) → Prop
  | none => v = .non
  | some s => ∃ r, v = .ref r ∧ H0 r = none ∧ RowG K C H r s.1 s.2
abbrev psRT : List Str := ["word", "place", "text", "width"]
theorem made_row {H G : Hp} {C p dx : Addr} (s : Same H G) (np : G p = none) (nd : G dx = none) (ne : dx ≠ p) {o : HO} : Same H (upd (upd G dx (.own p)) p o) := same_new (same_new s nd) (by rw [upd_ne ne.symm]; exact np)
def spRT (K : PySem.W.Frag) (C : Addr) : Sp := fun vs H Q _ => ∃ (a x : Str) (pl : Pl) (wd : Int), vs = [.str a, .str pl.str, .str x, .int wd] ∧ OkT x ∧ Wd wd ∧ ∀ H' v, Same H H' → RowR K C H H' v (if testOf x pl wd = true then some (a, pl) else none) → Q v H'
theorem ok_rowTest {f g C fI tt : Addr} (T : FT K mg "row_with_test" s_row_with_test psRT f) {td : FuncData} (TF : Fun K "read_test" "read_test" s_read_test g td) (tb : Binds K td psTX []) (tg : mg "read_test" = some (.ref g)) (TG : FnOk P w K mg base CX0 6 g td psTX (spTest K)) (R : RowT K mg C fI tt) :
    ∃ fd, Fun K "row_with_test" "row_with_test" s_row_with_test f fd ∧ Binds K fd psRT [] ∧ FnOk P w K mg base CX0 7 f fd psRT (spRT K C) := by
  obtain ⟨fd, F, b⟩ := T.fn
  refine ⟨fd, F, b, F.ok c_row_with_test (fun vs H Q E h => ?_) (fun cdv A outer s H vs Q E hr h => ?_)⟩
  · obtain ⟨a, x, pl, wd, rfl, _⟩ := h
    rfl
  obtain ⟨a, x, pl, wd, rfl, hx, hw, q⟩ := h
  obtain ⟨rd, RF⟩ := R.fn
  obtain ⟨its, kb⟩ := row_kb RF
  refine ⟨_, pss_cons (ps_set (i := 4) c_row_with_test.nd rfl (Or.inl rfl) (pe_call TG hr rfl tg TF.kp tb .nil pass0 (pa_cons (pv 2) (pa_cons (pv 1) (pa_cons (pv 3) pa_nil)))))
    (pss_one (ps_ret (pe_ifExp (pt_cmp (pc_isN (pv 4))) pe_non (pe_makeN (n := 2) R.mak (ok_Row R RF) (hr.mono (by decide)) rfl R.g kb pass0 (pa_cons (pv 0) (pa_cons (pv 1) pa_nil)) (pk_cons (pv 4) pk_nil))))), ?_⟩
  refine ⟨_, rfl, _, rfl, _, rfl, x, pl, wd, rfl, hx, hw, fun G v sG hv => ?_⟩
  unfold TestR at hv
  by_cases ht : testOf x pl wd = true
  · rw [if_pos ht] at hv q
    obtain ⟨t, rfl, htv⟩ := hv
    refine ⟨_, rfl, _, rfl, iteF ?_⟩
    refine ⟨_, rfl, _, rfl, _, rfl, rfl, rfl, fun p dx np nd ne => ?_⟩
    refine ⟨p, dx, .str a, .str pl.str, .non, .ref t, rfl, upd_same, rfl, ?_⟩
    rw [upd_upd]
    have sE := made_row (C := C) (o := .ins C dx (rowF (.str a) (.str pl.str) .non (.ref t))) (Same.refl G) np nd ne
    exact q _ (.ref p) (sG.trans sE) ⟨p, rfl, free_same sG np, dx, t, .non, upd_same, fun _ => htv.keep (Tups.of sE)⟩
  · rw [if_neg ht] at hv q
    subst hv
    exact ⟨_, rfl, _, rfl, iteBT (by decide) (q G _ sG rfl)⟩
abbrev psPK : List Str := ["place", "text", "width"]
def spPK (K : PySem.W.Frag) (C : Addr) : Sp := fun vs H Q _ => ∃ (x : Str) (pl : Pl) (wd : Int), vs = [.str pl.str, .str x, .int wd] ∧ Wd wd ∧ ∀ H' v, Same H H' → RowR K C H H' v (if (isDown pl && okNum x wd) = true then some ("pick", pl) else none) → Q v H'
theorem ok_pick {f g C fI tt : Addr} (T : FT K mg "row_of_pick" s_row_of_pick psPK f) {nd : FuncData} (FN : Fun K "read_number" "read_number" s_read_number g nd) (bN : Binds K nd ["word", "width"] []) (mN : mg "read_number" = some (.ref g)) (GN : FnOk P w K mg base CX0 1 g nd ["word", "width"] spNum) (R : RowT K mg C fI tt) :
    ∃ fd, Fun K "row_of_pick" "row_of_pick" s_row_of_pick f fd ∧ Binds K fd psPK [] ∧ FnOk P w K mg base CX0 3 f fd psPK (spPK K C) := by
  obtain ⟨fd, F, b⟩ := T.fn
  refine ⟨fd, F, b, F.ok c_row_of_pick (fun vs H Q E h => ?_) (fun cdv A outer s H vs Q E hr h => ?_)⟩
  · obtain ⟨x, pl, wd, rfl, _⟩ := h
    rfl
  obtain ⟨x, pl, wd, rfl, hw, q⟩ := h
  obtain ⟨rd, RF⟩ := R.fn
  obtain ⟨ds, rds, rb⟩ := row_b1 RF
  refine ⟨_, pss_cons (ps_set (i := 3) c_row_of_pick.nd rfl (Or.inl rfl) (pe_call GN (hr.mono (by decide)) rfl mN FN.kp bN .nil pass0 (pa_cons (pv 1) (pa_cons (pv 2) pa_nil))))
    (pss_one (ps_ret (pe_ifExp (PW.pt (pw_or (pt_cmpR op_ne (pv 0) pe_str (nomark _)) (pw_or1 (pt_cmp (pc_isN (pv 3)))))) pe_non (pe_make R.mak (ok_Row R RF) (hr.mono (by decide)) rfl R.g rb rds pass0 (pa_cons pe_str (pa_cons (pv 0) (pa_cons (pv 3) pa_nil))))))), ?_⟩
  refine ⟨_, rfl, _, rfl, x, wd, rfl, hw, fun G sG => ?_⟩
  refine ⟨_, rfl, rfl, _, rfl, ?_⟩
  rw [down_eq]
  cases hd : isDown pl with
  | false =>
    rw [hd] at q
    exact iteT (iteT (q G _ sG rfl))
  | true =>
    rw [hd] at q
    refine iteF ?_
    cases hk : okNum x wd with
    | false =>
      rw [hk] at q
      exact ⟨_, rfl, _, rfl, iteBT (by show decide (V.non = V.non) = true; decide) (q G _ sG rfl)⟩
    | true =>
      rw [hk] at q
      refine ⟨_, rfl, _, rfl, iteF ?_⟩
      refine ⟨_, rfl, _, rfl, fun p dx np nd ne => ⟨p, dx, .str "pick", .str pl.str, .int (numOf x), .ref tt, rfl, upd_same, rfl, ?_⟩⟩
      rw [upd_upd]
      exact q _ (.ref p) (made_row (C := C) sG np nd ne) ⟨p, rfl, free_same sG np, dx, tt, .int (numOf x), upd_same, fun z => absurd z (by show ¬ ("pick" : Str) = "if"; decide +kernel)⟩
abbrev psBW : List Str := ["word", "place", "opened"]
def takersV (a : Str) : List V := if a = "else" then [.str "if"] else [.str "if", .str "else", .str "down", .str "up"]
def blockOf (a : Str) (os : List Str) : Bool := match os.getLast? with
  | none => false
  | some l => inV (.str l) (takersV a)
def spBW (K : PySem.W.Frag) (C : Addr) : Sp := fun vs H Q _ => ∃ (a : Str) (pl : Pl) (op : Addr) (os : List Str), vs = [.str a, .str pl.str, .ref op] ∧ H op = some (.lst (os.map V.str)) ∧ a ≠ "if" ∧ ∀ H' v, Same H H' → RowR K C H H' v (if blockOf a os = true then some (a, pl) else none) → Q v H'
theorem last_at {os : List Str} {l : Str} (h : os.getLast? = some l) : atI (os.map V.str) (-1) = some (.str l) := by
  obtain ⟨ys, rfl⟩ := List.getLast?_eq_some_iff.mp h
  rw [List.map_append]
  exact atI_last _ _
theorem flat_takers (a : Str) : (takersV a).all flatV = true := by
  unfold takersV
  split <;> rfl
theorem ok_block {f C fI tt : Addr} (T : FT K mg "row_of_block_word" s_row_of_block_word psBW f) (R : RowT K mg C fI tt) :
    ∃ fd, Fun K "row_of_block_word" "row_of_block_word" s_row_of_block_word f fd ∧ Binds K fd psBW [] ∧ FnOk P w K mg base CX0 3 f fd psBW (spBW K C) := by
  obtain ⟨fd, F, b⟩ := T.fn
  refine ⟨fd, F, b, F.ok c_row_of_block_word (fun vs H Q E h => ?_) (fun cdv A outer s H vs Q E hr h => ?_)⟩
  · obtain ⟨a, pl, op, os, rfl, _⟩ := h
    rfl
  obtain ⟨a, pl, op, os, rfl, ho, hif, q⟩ := h
  obtain ⟨rd, RF⟩ := R.fn
  obtain ⟨ds, rds, rb⟩ := row_b RF
  refine ⟨_, Evl.pss_cut (ps_set (i := 3) c_row_of_block_word.nd rfl (Or.inl rfl) (pe_ifExp (pt_cmpR op_eq (pv 0) pe_str (nomark _)) (pe_tup (pa_cons pe_str pa_nil)) (pe_tup (pa_cons pe_str (pa_cons pe_str (pa_cons pe_str (pa_cons pe_str pa_nil)))))))
    (pss_one (ps_ret (pe_ifExp (PW.pt (pw_and (pt_truth (pv 2) (by intro _; rfl)) (pw_and1 (pt_cmpR op_in_seq (pe_ix ix_list (pv 2) (pe_un un_neg pe_int) (fun _ _ => rfl)) (pv 3) rfl)))) (pe_make R.mak (ok_Row R RF) (hr.mono (by decide)) rfl R.g rb rds pass0 (pa_cons (pv 0) (pa_cons (pv 1) pa_nil))) pe_non))), ?_⟩
  refine ⟨fun σ G => ∃ u, σ = [some (.str a), some (.str pl.str), some (.ref op), some (.ref u)] ∧ Same H G ∧ SqT K G u (takersV a), ?_, ?_⟩
  · refine ⟨_, rfl, rfl, _, rfl, ite2 (fun hh => ?_) (fun hh => ?_)⟩
    · have ea : a = "else" := V.str.inj (of_decide_eq_true hh)
      refine ⟨(by show 1 ≤ sizeLine; decide), fun u nu => ⟨u, rfl, new_same nu, ?_⟩⟩
      unfold takersV
      rw [if_pos ea]
      exact SqT.of upd_same
    · have ea : ¬ a = "else" := fun z => hh (decide_eq_true (by rw [z]))
      refine ⟨(by show 4 ≤ sizeLine; decide), fun u nu => ⟨u, rfl, new_same nu, ?_⟩⟩
      unfold takersV
      rw [if_neg ea]
      exact SqT.of upd_same
  · rintro σ G ⟨u, rfl, sG, eu⟩
    have no : blockOf a os = false → Q .non G := fun e => q G _ sG (by rw [e]; rfl)
    refine ⟨_, rfl, !(os.map V.str).isEmpty, .inl ⟨_, SqL.of (sG _ _ ho), rfl⟩, ?_⟩
    cases hl : os.getLast? with
    | none =>
      have e : os = [] := List.getLast?_eq_none_iff.mp hl
      subst e
      exact iteF (iteF (no rfl))
    | some l =>
      have hne : (!(os.map V.str).isEmpty) = true := by
        obtain ⟨ys, rfl⟩ := List.getLast?_eq_some_iff.mp hl
        simp
      refine iteBT hne ?_
      refine ⟨_, rfl, _, rfl, op, _, _, _, rfl, rfl, SqL.of (sG _ _ ho), last_at hl, _, rfl, u, _, rfl, .inr eu, rfl, flat_takers a, _, rfl, iteB (fun hh => ?_) (fun hh => ?_)⟩
      · have hb : blockOf a os = true := by unfold blockOf; rw [hl]; exact hh
        rw [if_pos hb] at q
        refine ⟨_, rfl, _, rfl, fun p dx np nd ne => ⟨p, dx, .str a, .str pl.str, .non, .ref tt, rfl, upd_same, rfl, ?_⟩⟩
        rw [upd_upd]
        exact q _ (.ref p) (made_row (C := C) sG np nd ne) ⟨p, rfl, free_same sG np, dx, tt, .non, upd_same, fun z => absurd z hif⟩
      · have hb : blockOf a os = false := by unfold blockOf; rw [hl]; exact hh
        exact no hb
end
end H2
namespace H2
open PySem PySem.Spec PyProof.Rows L2 Hx Nd Dun
section
variable {P : Program} {w : World} {K : PySem.W.Frag} {mg : Str → Option Value} {base : Heap} {D : Addr}
/-! ### read_row -/
def loopsV : List V := [.str "down", .str "up"]
def topV : List V := [.str "tell", .str "grab", .str "grab last", .str "grab given", .str "lay", .str "longer", .str "shorter", .str "trade", .str "to start", .str "note", .str "quit"]
def inLoopV : List V := [.str "go", .str "pull", .str "swap", .str "lay", .str "note", .str "note mate", .str "stop", .str "quit"]
def blocksV : List V := [.str "else", .str "end"]
def isLoop (x : Str) : Bool := inV (.str x) loopsV
def loopsOf (os : List Str) : List Str := os.filter isLoop
def plOf (a : Str) : Pl := if a = "down" then .down else .up
def placeOf (os : List Str) : Pl := match loopsOf os with
  | [] => .top
  | l :: _ => plOf l
theorem loop_cases {x : Str} (h : isLoop x = true) : x = "down" ∨ x = "up" := by
  unfold isLoop at h
  simp [inV, loopsV, eqV] at h
  rcases h with h | h
  · exact .inl h.symm
  · exact .inr h.symm
theorem plOf_str {x : Str} (h : isLoop x = true) : (plOf x).str = x := by
  rcases loop_cases h with rfl | rfl <;> decide +kernel
/-- the row that a line is, by the open blocks: its word, its place -/
def rowOf (line : Str) (os : List Str) (wd : Int) : Option (Str × Pl) :=
  if inV (.str line) blocksV = true then (if blockOf line os = true then some (line, placeOf os) else none)
  else if inV (.str line) (if (loopsOf os).isEmpty = true then topV else inLoopV) = true then some (line, placeOf os)
  else if (Txt.partition line " ").1 = "if" then (if testOf (Txt.partition line " ").2.2 (placeOf os) wd = true then some ((Txt.partition line " ").1, placeOf os) else none)
  else if (isLoop (Txt.partition line " ").1 && (loopsOf os).isEmpty) = true then (if testOf (Txt.partition line " ").2.2 (plOf (Txt.partition line " ").1) wd = true then some ((Txt.partition line " ").1, plOf (Txt.partition line " ").1) else none)
  else if (Txt.partition line " ").1 = "pick" then (if (isDown (placeOf os) && okNum (Txt.partition line " ").2.2 wd) = true then some ("pick", placeOf os) else none)
  else none
structure OkL (x : Str) : Prop where
  len : x.length ≤ sizeLine
  t : OkT (Txt.partition x " ").2.2
theorem RowR.back {C : Addr} {H G G2 : Hp} {v : V} {o : Option (Str × Pl)} (h : RowR K C G G2 v o) (s : Same H G) : RowR K C H G2 v o := by
  cases o with
  | none => exact h
  | some p =>
    obtain ⟨r, h1, h2, h3⟩ := h
    exact ⟨r, h1, free_same s h2, h3⟩
abbrev psRR : List Str := ["line", "opened", "width"]
def spRR (K : PySem.W.Frag) (C : Addr) : Sp := fun vs H Q _ => ∃ (x : Str) (op : Addr) (wd : Int) (os : List Str), vs = [.str x, .ref op, .int wd] ∧ H op = some (.lst (os.map V.str)) ∧ os.length ≤ 1000 ∧ OkL x ∧ Wd wd ∧ ∀ H' v, Same H H' → RowR K C H H' v (rowOf x os wd) → Q v H'
theorem ok_read_row {f g1 g2 g3 C fI tt aL aT aI : Addr} (T : FT K mg "read_row" s_read_row psRR f) {d1 d2 d3 : FuncData}
    (F1 : Fun K "row_with_test" "row_with_test" s_row_with_test g1 d1) (b1 : Binds K d1 psRT []) (m1 : mg "row_with_test" = some (.ref g1)) (G1 : FnOk P w K mg base CX0 7 g1 d1 psRT (spRT K C))
    (F2 : Fun K "row_of_block_word" "row_of_block_word" s_row_of_block_word g2 d2) (b2 : Binds K d2 psBW []) (m2 : mg "row_of_block_word" = some (.ref g2)) (G2 : FnOk P w K mg base CX0 3 g2 d2 psBW (spBW K C))
    (F3 : Fun K "row_of_pick" "row_of_pick" s_row_of_pick g3 d3) (b3 : Binds K d3 psPK []) (m3 : mg "row_of_pick" = some (.ref g3)) (G3 : FnOk P w K mg base CX0 3 g3 d3 psPK (spPK K C))
    (R : RowT K mg C fI tt) (cL : TupT K mg "LOOPS" aL loopsV) (cT : TupT K mg "TOP_WORDS" aT topV) (cI : TupT K mg "LOOP_WORDS" aI inLoopV) :
    ∃ fd, Fun K "read_row" "read_row" s_read_row f fd ∧ Binds K fd psRR [] ∧ FnOk P w K mg base CX0 8 f fd psRR (spRR K C) := by
  obtain ⟨fd, F, b⟩ := T.fn
  refine ⟨fd, F, b, F.ok c_read_row (fun vs H Q E h => ?_) (fun cdv A outer s H vs Q E hr h => ?_)⟩
  · obtain ⟨x, op, wd, os, rfl, _⟩ := h
    rfl
  obtain ⟨x, op, wd, os, rfl, ho, hos, hx, hw, q⟩ := h
  obtain ⟨rd, RF⟩ := R.fn
  obtain ⟨ds, rds, rb⟩ := row_b RF
  refine ⟨_, pss_cons (ps_setLc (i := 3) (own := [("block", 4)]) (g := gName 4) rfl c_read_row.nd rfl rfl (sw_true rfl rfl rfl (by decide +kernel)) (pi_list (pv 1)) (blkOk_by (own := [("block", 4)]) (N := n_read_row) (sc := defScope s_read_row) (by decide +kernel))
      (fun _ _ _ _ _ => pg_name (i := 4) c_read_row.nd rfl (Or.inl rfl)) (fun _ _ _ _ _ => pts_one (pt_cmpR (op_in_seqk (K' := K) rfl) (pv 4) (pe_glob (v := .ref aL) rfl cL.g rfl) rfl)) (fun _ _ _ _ _ => pv 4))
    (Evl.pss_cut (ps_set (i := 5) c_read_row.nd rfl (Or.inl rfl) (pe_ifExp (pt_truth (pv 3) (by intro _; rfl)) (pe_ix ix_list (pv 3) pe_int (fun _ _ => rfl)) pe_str))
    (pss_cons (ps_if (pt_cmpR op_in_seq (pv 0) (pe_tup (pa_cons pe_str (pa_cons pe_str pa_nil))) rfl) (pss_one (ps_ret (pe_call G2 (hr.mono (by decide)) rfl m2 F2.kp b2 .nil pass0 (pa_cons (pv 0) (pa_cons (pv 5) (pa_cons (pv 1) pa_nil)))))) pss_nil)
    (Evl.pss_cut (ps_if (pt_cmpR op_in_seq (pv 0) (pe_ifExp (pt_truth (pv 3) (by intro _; rfl)) (pe_glob (v := .ref aI) rfl cI.g rfl) (pe_glob (v := .ref aT) rfl cT.g rfl)) rfl) (pss_one (ps_ret (pe_make R.mak (ok_Row R RF) (hr.mono (by decide)) rfl R.g rb rds pass0 (pa_cons (pv 0) (pa_cons (pv 5) pa_nil))))) pss_nil)
    (pss_cons (ps_asg (pe_partition (pv 0) pe_str) (pg_tup rfl (pgs_cons (pg_name (i := 6) c_read_row.nd rfl (Or.inl rfl)) (pgs_cons (pg_name (i := 7) c_read_row.nd rfl (Or.inl rfl)) (pgs_cons (pg_name (i := 8) c_read_row.nd rfl (Or.inl rfl)) pgs_nil)))))
    (pss_cons (ps_if (pt_cmpR op_eq (pv 6) pe_str (nomark _)) (pss_one (ps_ret (pe_call G1 hr rfl m1 F1.kp b1 .nil pass0 (pa_cons (pv 6) (pa_cons (pv 5) (pa_cons (pv 8) (pa_cons (pv 2) pa_nil))))))) pss_nil)
    (pss_cons (ps_if (PW.pt (pw_and (pt_cmpR op_in_seq (pv 6) (pe_glob (v := .ref aL) rfl cL.g rfl) rfl) (pw_and1 (pt_not (pt_truth (pv 3) (by intro _; rfl)))))) (pss_one (ps_ret (pe_call G1 hr rfl m1 F1.kp b1 .nil pass0 (pa_cons (pv 6) (pa_cons (pv 6) (pa_cons (pv 8) (pa_cons (pv 2) pa_nil))))))) pss_nil)
    (pss_one (ps_ret (pe_ifExp (pt_cmpR op_eq (pv 6) pe_str (nomark _)) (pe_call G3 (hr.mono (by decide)) rfl m3 F3.kp b3 .nil pass0 (pa_cons (pv 5) (pa_cons (pv 8) (pa_cons (pv 2) pa_nil)))) pe_non))))))))), ?_⟩
  refine ⟨_, rfl, op, rfl, ⟨_, SqL.of ho⟩, fun L nL => lc_list (K := K) (a := op) (xs := os.map V.str) (fun i G => Same H G ∧ G L = some (.lst ((loopsOf (os.take i)).map V.str))) ⟨new_same nL, upd_same⟩ ?_ ?_ ?_⟩
  · rintro i G _ ⟨sG, _⟩
    exact SqL.of (sG _ _ ho)
  · rintro i v G hi ⟨sG, eL⟩
    rw [List.getElem?_map] at hi
    cases hyi : os[i]? with
    | none => rw [hyi] at hi; cases hi
    | some y =>
      rw [hyi] at hi
      cases hi
      have hil : i < os.length := (List.getElem?_eq_some_iff.mp hyi).1
      have et : loopsOf (os.take (i + 1)) = loopsOf (os.take i) ++ (if isLoop y = true then [y] else []) := by
        unfold loopsOf
        rw [List.take_add_one, hyi, List.filter_append]
        congr 1
        by_cases h : isLoop y = true
        · rw [if_pos h]; simp [h]
        · rw [if_neg h]; simp [h]
      refine ⟨rfl, ?_⟩
      refine ⟨_, rfl, aL, _, rfl, .inr (cL.s _), rfl, rfl, _, rfl, iteB (fun hh => ?_) (fun hh => ?_)⟩
      · have hl : isLoop y = true := hh
        refine ⟨_, rfl, _, eL, ?_, same_out sG nL, ?_⟩
        · rw [List.length_map]
          exact Nat.lt_of_le_of_lt (Nat.le_trans (List.length_filter_le _ _) (by rw [List.length_take]; exact Nat.min_le_left _ _)) (Nat.lt_of_lt_of_le hil (Nat.le_trans hos (by decide)))
        · rw [upd_same, et, if_pos hl, List.map_append]
          rfl
      · have hl : isLoop y = false := hh
        refine ⟨sG, ?_⟩
        rw [et, hl, if_neg Bool.false_ne_true, List.append_nil]
        exact eL
  rintro G ⟨sG, eL⟩
  rw [List.length_map, List.take_length] at eL
  have hloop : ∀ y ∈ loopsOf os, isLoop y = true := fun y hy => (List.mem_filter.mp hy).2
  refine ⟨fun σ G => σ = [some (.str x), some (.ref op), some (.int wd), some (.ref L), none, some (.str (placeOf os).str), none, none, none] ∧ Same H G ∧ G L = some (.lst ((loopsOf os).map V.str)), ?_, ?_⟩
  · refine ⟨_, rfl, !((loopsOf os).map V.str).isEmpty, .inl ⟨_, SqL.of eL, rfl⟩, ?_⟩
    cases hl : loopsOf os with
    | nil =>
      refine iteF ⟨?_, sG, ?_⟩
      · have e : placeOf os = .top := by unfold placeOf; rw [hl]
        rw [e]
        rfl
      · rw [hl] at eL
        exact eL
    | cons y r =>
      rw [hl] at eL
      refine iteT ⟨_, rfl, L, _, 0, .str y, rfl, rfl, SqL.of eL, at_of (j := 0) rfl rfl, ?_, sG, eL⟩
      have e : (placeOf os).str = y := by
        unfold placeOf
        rw [hl]
        exact plOf_str (hloop y (by rw [hl]; exact List.mem_cons_self))
      rw [e]
      rfl
  · rintro σ G ⟨rfl, sG, eL⟩
    refine ⟨_, rfl, (by show 2 ≤ sizeLine; decide), fun u nu => ⟨u, _, rfl, .inr (SqT.of upd_same), rfl, rfl, _, rfl, iteB (fun hb => ?_) (fun hb => ?_)⟩⟩
    · have hb' : inV (.str x) blocksV = true := hb
      have e : rowOf x os wd = if blockOf x os = true then some (x, placeOf os) else none := by unfold rowOf; rw [if_pos hb']
      have sU := same_new (o := .tup [.str "else", .str "end"]) sG nu
      refine ⟨_, rfl, _, rfl, _, rfl, x, placeOf os, op, os, rfl, sU _ _ ho, fun z => ?_, fun G2 v s2 hv => ?_⟩
      · rw [z] at hb'
        exact absurd hb' (by decide +kernel)
      · exact q G2 v (sU.trans s2) (by rw [e]; exact hv.back sU)
    have hb' : inV (.str x) blocksV = false := hb
    have sU := same_new (o := .tup [.str "else", .str "end"]) sG nu
    have eL2 := (new_same (o := .tup [.str "else", .str "end"]) nu) _ _ eL
    generalize upd G u (.tup [.str "else", .str "end"]) = G1 at sU eL2 ⊢
    refine ⟨fun σ G => σ = [some (.str x), some (.ref op), some (.int wd), some (.ref L), none, some (.str (placeOf os).str), none, none, none] ∧ Same H G ∧ G L = some (.lst ((loopsOf os).map V.str)) ∧ inV (.str x) (if (loopsOf os).isEmpty = true then topV else inLoopV) = false, ?_, ?_⟩
    · have plain : inV (.str x) (if (loopsOf os).isEmpty = true then topV else inLoopV) = true → ∀ p dx, G1 p = none → G1 dx = none → dx ≠ p → spRow C (.ref p :: ([.str x, .str (placeOf os).str] ++ [.non, .ref tt])) (upd (upd G1 dx (.own p)) p (.ins C dx [])) (fun v H2 => v = .non ∧ Q (.ref p) H2) E0 := fun hp p dx np nd ne => by
        refine ⟨p, dx, .str x, .str (placeOf os).str, .non, .ref tt, rfl, upd_same, rfl, ?_⟩
        rw [upd_upd]
        have e : rowOf x os wd = some (x, placeOf os) := by unfold rowOf; rw [hb', if_neg Bool.false_ne_true, if_pos hp]
        refine q _ (.ref p) (made_row (C := C) sU np nd ne) ?_
        rw [e]
        refine ⟨p, rfl, free_same sU np, dx, tt, .non, upd_same, fun z => ?_⟩
        have z' : x = "if" := z
        rw [z'] at hp
        split at hp
        · exact absurd hp (by decide +kernel)
        · exact absurd hp (by decide +kernel)
      refine ⟨_, rfl, _, rfl, !((loopsOf os).map V.str).isEmpty, .inl ⟨_, SqL.of eL2, rfl⟩, ?_⟩
      have em : ((loopsOf os).map V.str).isEmpty = (loopsOf os).isEmpty := by cases loopsOf os <;> rfl
      rw [em]
      cases hE : (loopsOf os).isEmpty with
      | true =>
        rw [hE, if_pos rfl] at plain
        refine iteF ⟨aT, topV, rfl, .inr (cT.s _), rfl, rfl, _, rfl, iteB (fun hh => ?_) (fun hh => ?_)⟩
        · exact ⟨_, rfl, _, rfl, plain hh⟩
        · exact ⟨rfl, sU, eL2, hh⟩
      | false =>
        rw [hE, if_neg Bool.false_ne_true] at plain
        refine iteT ⟨aI, inLoopV, rfl, .inr (cI.s _), rfl, rfl, _, rfl, iteB (fun hh => ?_) (fun hh => ?_)⟩
        · exact ⟨_, rfl, _, rfl, plain hh⟩
        · exact ⟨rfl, sU, eL2, hh⟩
    · rintro σ G2 ⟨rfl, s2, eL3, hw2⟩
      have e1 : rowOf x os wd = (if (Txt.partition x " ").1 = "if" then (if testOf (Txt.partition x " ").2.2 (placeOf os) wd = true then some ((Txt.partition x " ").1, placeOf os) else none)
        else if (isLoop (Txt.partition x " ").1 && (loopsOf os).isEmpty) = true then (if testOf (Txt.partition x " ").2.2 (plOf (Txt.partition x " ").1) wd = true then some ((Txt.partition x " ").1, plOf (Txt.partition x " ").1) else none)
        else if (Txt.partition x " ").1 = "pick" then (if (isDown (placeOf os) && okNum (Txt.partition x " ").2.2 wd) = true then some ("pick", placeOf os) else none) else none) := by
        unfold rowOf
        rw [hb', if_neg Bool.false_ne_true, hw2, if_neg Bool.false_ne_true]
      refine ⟨_, rfl, ⟨_, rfl⟩, x, _, rfl, rfl, by decide +kernel, hx.len, fun T' nT => ⟨T', _, rfl, SqT.of upd_same, rfl, _, _, rfl, _, _, rfl, _, _, rfl, rfl, ?_⟩⟩
      have sT := same_new (o := .tup [.str (Txt.partition x " ").1, .str (Txt.partition x " ").2.1, .str (Txt.partition x " ").2.2]) s2 nT
      have eL4 := (new_same (o := .tup [.str (Txt.partition x " ").1, .str (Txt.partition x " ").2.1, .str (Txt.partition x " ").2.2]) nT) _ _ eL3
      refine ⟨_, rfl, rfl, _, rfl, ite2 (fun hh => ?_) (fun hh => ?_)⟩
      · have ha : (Txt.partition x " ").1 = "if" := V.str.inj (of_decide_eq_true hh)
        rw [if_pos ha] at e1
        exact ⟨_, rfl, _, rfl, _, rfl, _, rfl, _, _, placeOf os, wd, rfl, hx.t, hw, fun G3 v s3 hv => q G3 v (sT.trans s3) (by rw [e1]; exact hv.back sT)⟩
      have ha : ¬ (Txt.partition x " ").1 = "if" := fun z => hh (decide_eq_true (by rw [z]))
      rw [if_neg ha] at e1
      have em : ((loopsOf os).map V.str).isEmpty = (loopsOf os).isEmpty := by cases loopsOf os <;> rfl
      have last : (isLoop (Txt.partition x " ").1 && (loopsOf os).isEmpty) = false → tRet (tIf (tTest (tOp rEq (tVar 6) (tC (V.str "pick")))) (tCall (spPK K C) [] E0 (tCons (tVar 5) (tCons (tVar 8) (tCons (tVar 2) tNil)))) (tC .non)) { nx := fun _ H' => Q .non H', rt := Q } [some (.str x), some (.ref op), some (.int wd), some (.ref L), none, some (.str (placeOf os).str), some (.str (Txt.partition x " ").1), some (.str (Txt.partition x " ").2.1), some (.str (Txt.partition x " ").2.2)] _ := fun hn => by
        rw [hn, if_neg Bool.false_ne_true] at e1
        refine ⟨_, rfl, rfl, _, rfl, ite2 (fun hh => ?_) (fun hh => ?_)⟩
        · have hp : (Txt.partition x " ").1 = "pick" := V.str.inj (of_decide_eq_true hh)
          rw [if_pos hp] at e1
          exact ⟨_, rfl, _, rfl, _, rfl, _, placeOf os, wd, rfl, hw, fun G3 v s3 hv => q G3 v (sT.trans s3) (by rw [e1]; exact hv.back sT)⟩
        · have hp : ¬ (Txt.partition x " ").1 = "pick" := fun z => hh (decide_eq_true (by rw [z]))
          rw [if_neg hp] at e1
          exact q _ _ sT (by rw [e1]; rfl)
      refine ⟨_, rfl, aL, _, rfl, .inr (cL.s _), rfl, rfl, _, rfl, iteB (fun hl => ?_) (fun hl => ?_)⟩
      · have hl' : isLoop (Txt.partition x " ").1 = true := hl
        refine ⟨_, rfl, !((loopsOf os).map V.str).isEmpty, .inl ⟨_, SqL.of eL4, rfl⟩, ?_⟩
        rw [em]
        cases hE : (loopsOf os).isEmpty with
        | true =>
          rw [hl', hE] at e1
          refine iteT ?_
          exact ⟨_, rfl, _, rfl, _, rfl, _, rfl, _, _, plOf (Txt.partition x " ").1, wd, by rw [plOf_str hl']; rfl, hx.t, hw, fun G3 v s3 hv => q G3 v (sT.trans s3) (by rw [e1]; exact hv.back sT)⟩
        | false => exact iteF (last (by rw [hE, Bool.and_false]))
      · have hl' : isLoop (Txt.partition x " ").1 = false := hl
        exact iteF (last (by rw [hl', Bool.false_and]))
end
end H2
namespace H2
open PySem PySem.Spec PyProof.Rows L2 Hx Nd Dun
section
variable {P : Program} {w : World} {K : PySem.W.Frag} {mg : Str → Option Value} {base : Heap} {D : Addr}
/-! ### blocks_behind, read_rows -/
theorem cut_last (xs : List V) : cutV xs none (some (-1)) = xs.dropLast := by
  unfold cutV
  rw [HT.sIx_none, List.drop_zero, Nat.sub_zero, List.dropLast_eq_take]
  have e : HT.sIx xs.length xs.length (some (-1)) = xs.length - 1 := by
    show (if (-1 : Int) < 0 then ((-1 : Int) + (xs.length : Int)).toNat else min (-1 : Int).toNat xs.length) = _
    rw [if_pos (by decide)]
    omega
  rw [e]
def behindOf (a : Str) (os : List Str) : List Str := if (decide (a = "if") || isLoop a) = true then os ++ [a] else if a = "else" then os.dropLast ++ [a] else if a = "end" then os.dropLast else os
def spBB : Sp := fun vs H Q _ => ∃ (op : Addr) (os : List Str) (a : Str), vs = [.str a, .ref op] ∧ H op = some (.lst (os.map V.str)) ∧ os.length ≤ 1000 ∧ ∀ H' p, Same H H' → (p = op ∨ H p = none) → H' p = some (.lst ((behindOf a os).map V.str)) → Q (.ref p) H'
theorem ok_blocks {f aL : Addr} (T : FT K mg "blocks_behind" s_blocks_behind ["word", "opened"] f) (cL : TupT K mg "LOOPS" aL loopsV) : ∃ fd, Fun K "blocks_behind" "blocks_behind" s_blocks_behind f fd ∧ Binds K fd ["word", "opened"] [] ∧ FnOk P w K mg base CX0 1 f fd ["word", "opened"] spBB := by
  obtain ⟨fd, F, b⟩ := T.fn
  refine ⟨fd, F, b, F.ok c_blocks_behind (fun vs H Q E h => ?_) (fun cdv A outer s H vs Q E hr h => ?_)⟩
  · obtain ⟨op, os, a, rfl, _⟩ := h
    rfl
  obtain ⟨op, os, a, rfl, ho, hos, q⟩ := h
  refine ⟨_, pss_cons (ps_if (PW.pt (pw_or (pt_cmpR op_eq (pv 0) pe_str (nomark _)) (pw_or1 (pt_cmpR op_in_seq (pv 0) (pe_glob (v := .ref aL) rfl cL.g rfl) rfl)))) (pss_one (ps_ret (pe_op op_cat (pv 1) (pe_lst (pa_cons (pv 0) pa_nil))))) pss_nil)
    (pss_cons (ps_if (pt_cmpR op_eq (pv 0) pe_str (nomark _)) (pss_one (ps_ret (pe_op op_cat (pe_slice sl_list (pv 1) po_none (po_some (pe_un un_neg pe_int))) (pe_lst (pa_cons (pv 0) pa_nil))))) pss_nil)
    (pss_one (ps_ret (pe_ifExp (pt_cmpR op_eq (pv 0) pe_str (nomark _)) (pe_slice sl_list (pv 1) po_none (po_some (pe_un un_neg pe_int))) (pv 1))))), ?_⟩
  have big : ∀ n, n ≤ 1000 → n + 1 ≤ sizeLine := fun n hn => Nat.le_trans (Nat.succ_le_succ hn) (by decide)
  have cat : ∀ {G : Hp} {c : Addr} {ys : List Str}, Same H G → G c = some (.lst (ys.map V.str)) → ys.length ≤ 1000 → behindOf a os = ys ++ [a] → (1 ≤ sizeLine) ∧ ∀ l, G l = none → rCat (.ref c) (.ref l) (upd G l (.lst [.str a])) fun v G2 => Q v G2 := fun {G c ys} sG ec hy e => ⟨by decide, fun l nl => by
    refine ⟨c, l, _, _, rfl, rfl, (new_same nl) _ _ ec, upd_same, (by rw [List.length_map]; exact big _ hy), fun p np => ?_⟩
    have sP := same_new (o := .lst (ys.map V.str ++ [.str a])) (same_new sG nl) np
    refine q _ p sP (.inr (free_same (same_new sG nl) np)) ?_
    rw [upd_same, e, List.map_append]
    rfl⟩
  refine ⟨_, rfl, rfl, _, rfl, ite2 (fun hh => ?_) (fun hh => ?_)⟩
  · have ea : a = "if" := V.str.inj (of_decide_eq_true hh)
    have e : behindOf a os = os ++ [a] := by unfold behindOf; rw [decide_eq_true ea]; rfl
    exact iteT ⟨_, rfl, _, rfl, cat (Same.refl H) ho hos e⟩
  have ea : ¬ a = "if" := fun z => hh (decide_eq_true (by rw [z]))
  refine ⟨_, rfl, aL, _, rfl, .inr (cL.s _), rfl, rfl, _, rfl, iteB (fun hl => ?_) (fun hl => ?_)⟩
  · have hl' : isLoop a = true := hl
    have e : behindOf a os = os ++ [a] := by unfold behindOf; rw [hl', Bool.or_true]; rfl
    exact ⟨_, rfl, _, rfl, cat (Same.refl H) ho hos e⟩
  have hl' : isLoop a = false := hl
  have e1 : behindOf a os = if a = "else" then os.dropLast ++ [a] else if a = "end" then os.dropLast else os := by unfold behindOf; rw [decide_eq_false ea, hl']; rfl
  refine ⟨_, rfl, rfl, _, rfl, ite2 (fun hh => ?_) (fun hh => ?_)⟩
  · have eb : a = "else" := V.str.inj (of_decide_eq_true hh)
    rw [if_pos eb] at e1
    refine ⟨_, rfl, _, rfl, _, rfl, op, _, rfl, SqL.of ho, fun c nc => ?_⟩
    have sC := new_same (o := .lst (cutV (os.map V.str) none (some (-1)))) nc
    have ec : upd H c (.lst (cutV (os.map V.str) none (some (-1)))) c = some (.lst (os.dropLast.map V.str)) := by rw [upd_same, cut_last, List.map_dropLast]
    exact ⟨_, rfl, cat sC ec (Nat.le_trans (by rw [List.length_dropLast]; omega) hos) e1⟩
  have eb : ¬ a = "else" := fun z => hh (decide_eq_true (by rw [z]))
  rw [if_neg eb] at e1
  refine ⟨_, rfl, rfl, _, rfl, ite2 (fun hh => ?_) (fun hh => ?_)⟩
  · have eb : a = "end" := V.str.inj (of_decide_eq_true hh)
    rw [if_pos eb] at e1
    refine ⟨_, rfl, _, rfl, _, rfl, op, _, rfl, SqL.of ho, fun c nc => ?_⟩
    refine q _ c (new_same nc) (.inr nc) ?_
    rw [upd_same, cut_last, e1, List.map_dropLast]
  · have eb : ¬ a = "end" := fun z => hh (decide_eq_true (by rw [z]))
    rw [if_neg eb] at e1
    exact ⟨_, rfl, q H op (Same.refl H) (.inl rfl) (by rw [e1]; exact ho)⟩
structure ErrT (K : PySem.W.Frag) (mg : Str → Option Value) (D : Addr) (C I : Nat → Addr) : Prop where
  base : BaseT K mg D
  t0 : ClT K mg "BadKind" "BadKind.__init__" iBadKind ["self", "kind"] ["kind"] (C 0) (I 0)
  t1 : ClT K mg "BadWidth" "BadWidth.__init__" iBadWidth ["self", "width"] ["width"] (C 1) (I 1)
  t2 : ClT K mg "BadLine" "BadLine.__init__" iBadLine ["self", "line"] ["line"] (C 2) (I 2)
  t3 : ClT K mg "Refused" "Refused.__init__" iRefused ["self", "line"] ["line"] (C 3) (I 3)
  t4 : ClT K mg "TooMany" "TooMany.__init__" iTooMany ["self", "what", "many", "most"] ["what", "many", "most"] (C 4) (I 4)
/-- the rows of the lines behind open blocks, and the blocks behind them; or the first line that is none -/
def rowsFrom (wd : Int) : List Str → List Str → Nat → Nat ⊕ (List (Str × Pl) × List Str)
  | os, [], _ => .inr ([], os)
  | os, l :: r, k => match rowOf l os wd with
    | none => .inl k
    | some p => (match rowsFrom wd (behindOf p.1 os) r (k + 1) with
      | .inl j => .inl j
      | .inr (ps, e) => .inr (p :: ps, e))
/-- the number of BadLine, or the rows -/
def linesOf (ls : List Str) (wd : Int) : Nat ⊕ List (Str × Pl) := match rowsFrom wd [] ls 1 with
  | .inl k => .inl k
  | .inr (ps, []) => .inr ps
  | .inr (_, _ :: _) => .inl (ls.length + 1)
def RowsG (K : PySem.W.Frag) (C : Addr) (H : Hp) (rs : List Addr) (ps : List (Str × Pl)) : Prop := rs.length = ps.length ∧ ∀ (i : Nat) (r : Addr) (p : Str × Pl), rs[i]? = some r → ps[i]? = some p → RowG K C H r p.1 p.2
abbrev psLW : List Str := ["lines", "width"]
def spRows (K : PySem.W.Frag) (C CB : Addr) : Sp := fun vs H Q E => ∃ (l : Addr) (wd : Int) (ls : List Str), vs = [.ref l, .int wd] ∧ SqL K H l (ls.map V.str) ∧ ls.length ≤ 900 ∧ (∀ x ∈ ls, OkL x) ∧ Wd wd ∧
  match linesOf ls wd with
  | .inl k => ∀ H', Same H H' → err1 CB "line" (.int k) H' E
  | .inr ps => ∀ H' r rs, Same H H' → H' r = some (.lst (rs.map V.ref)) → RowsG K C H' rs ps → Q (.ref r) H'
theorem behind_len (a : Str) (os : List Str) : (behindOf a os).length ≤ os.length + 1 := by
  unfold behindOf
  split
  · rw [List.length_append]; exact Nat.le_refl _
  · split
    · rw [List.length_append, List.length_dropLast]
      show os.length - 1 + 1 ≤ _
      omega
    · split
      · rw [List.length_dropLast]; omega
      · omega
theorem RowsG.keep {C : Addr} {rs : List Addr} {ps : List (Str × Pl)} {H H' : Hp} (h : RowsG K C H rs ps) (e : Same H H') : RowsG K C H' rs ps := ⟨h.1, fun i r p a b => (h.2 i r p a b).keep e⟩
theorem ok_read_rows {f g1 g2 C fI tt DB : Addr} {EC EI : Nat → Addr} (T : FT K mg "read_rows" s_read_rows psLW f) {d1 d2 : FuncData} (ET : ErrT K mg DB EC EI) (R : RowT K mg C fI tt) (enu : mg "enumerate" = none) (len : mg "len" = none)
    (F1 : Fun K "read_row" "read_row" s_read_row g1 d1) (b1 : Binds K d1 psRR []) (m1 : mg "read_row" = some (.ref g1)) (G1 : FnOk P w K mg base CX0 8 g1 d1 psRR (spRR K C))
    (F2 : Fun K "blocks_behind" "blocks_behind" s_blocks_behind g2 d2) (b2 : Binds K d2 ["word", "opened"] []) (m2 : mg "blocks_behind" = some (.ref g2)) (G2 : FnOk P w K mg base CX0 1 g2 d2 ["word", "opened"] spBB) :
    ∃ fd, Fun K "read_rows" "read_rows" s_read_rows f fd ∧ Binds K fd psLW [] ∧ FnOk P w K mg base (L2.CX P w) 9 f fd psLW (spRows K C (EC 2)) := by
  obtain ⟨fd, F, b⟩ := T.fn
  refine ⟨fd, F, b, F.okX c_read_rows (fun vs H Q E h => ?_) (fun cdv A outer s H vs Q E hr h => ?_)⟩
  · obtain ⟨l, wd, ls, rfl, _⟩ := h
    rfl
  obtain ⟨l, wd, ls, rfl, hl, hn, hok, hw, q⟩ := h
  have tk : Takes (cxOf (L2.CX P w) P w K mg base n_read_rows "read_rows" (defScope s_read_rows) f cdv A outer s H E) (fun cls d _ G => E cls d G) := takes_of rfl rfl rfl rfl
  refine ⟨_, pss_cons (ps_set (i := 2) c_read_rows.nd rfl (Or.inl rfl) (pe_lst pa_nil)) (pss_cons (ps_set (i := 3) c_read_rows.nd rfl (Or.inl rfl) (pe_lst pa_nil))
    (pss_cons (ps_for (passes_of rfl) rfl (Nd.pi_from enu (by decide) (by decide) (pa_cons (pv 0) pa_nil)) (pg_tup rfl (pgs_cons (pg_name (i := 4) c_read_rows.nd rfl (Or.inl rfl)) (pgs_cons (pg_name (i := 5) c_read_rows.nd rfl (Or.inl rfl)) pgs_nil)))
      (pss_cons (ps_set (i := 6) c_read_rows.nd rfl (Or.inl rfl) (pe_call G1 hr rfl m1 F1.kp b1 .nil pass0 (pa_cons (pv 5) (pa_cons (pv 3) (pa_cons (pv 1) pa_nil)))))
      (pss_cons (ps_if (pt_cmp (pc_isN (pv 6))) (pss_one (ps_rz rfl tk ET.t2 (fun fd F => okBadLine F ET.base) (hr.mono (by decide)) (pa_cons (pv 4) pa_nil))) pss_nil)
      (pss_cons (ps_expr (pe_bm PySem.F.plainAttrs_list PySem.F.slot_list_append PySem.F.type_list_append mt_append (pv 2) (pa_cons (pv 6) pa_nil)))
      (pss_one (ps_set (i := 3) c_read_rows.nd rfl (Or.inl rfl) (pe_call G2 (hr.mono (by decide)) rfl m2 F2.kp b2 .nil pass0 (pa_cons (pe_fld (pv 6) rfl) (pa_cons (pv 3) pa_nil)))))))))
    (pss_cons (ps_if (pt_truth (pv 3) (by intro _; rfl)) (pss_one (ps_rz rfl tk ET.t2 (fun fd F => okBadLine F ET.base) (hr.mono (by decide)) (pa_cons (pe_op op_add (pe_callB call_len_seq (by rfl) len PySem.boot_len (pa_cons (pv 0) pa_nil)) pe_int) pa_nil))) pss_nil)
    (pss_one (ps_ret (pv 2)))))), ?_⟩
  refine ⟨Nat.zero_le _, fun lr nr => ⟨Nat.zero_le _, fun lo no => ?_⟩⟩
  obtain ⟨no1, nlr⟩ := free_upd no
  refine ⟨_, rfl, l, _, rfl, sqt_list_same hl (same_new (new_same nr) no), ?_⟩
  refine for_from (K := K) (a := l) (xs := ls.map V.str) (fun i σ G => ∃ (lo : Addr) (os : List Str) (rs : List Addr) (ps : List (Str × Pl)) (v4 v5 v6 : Option V), σ = [some (.ref l), some (.int wd), some (.ref lr), some (.ref lo), v4, v5, v6] ∧ Same H G ∧ G lr = some (.lst (rs.map V.ref)) ∧ G lo = some (.lst (os.map V.str)) ∧ lo ≠ lr ∧ RowsG K C G rs ps ∧ rs.length = i ∧ os.length ≤ i ∧
      rowsFrom wd [] ls 1 = (match rowsFrom wd os (ls.drop i) (i + 1) with | .inl k => .inl k | .inr (qs, e) => .inr (ps ++ qs, e)))
    ⟨lo, [], [], [], none, none, none, rfl, same_new (new_same nr) no, (new_same no) _ _ upd_same, upd_same, nlr, ⟨rfl, fun i r p h => by cases h⟩, rfl, Nat.le_refl _, ?_⟩ ?_ ?_ ?_
  · rw [List.drop_zero]
    cases rowsFrom wd [] ls (0 + 1) with
    | inl k => rfl
    | inr qe => rfl
  · rintro i σ G _ ⟨lo, os, rs, ps, v4, v5, v6, rfl, sG, _⟩
    exact sqt_list_same hl sG
  · rintro i x σ G Tp hi ⟨lo, os, rs, ps, v4, v5, v6, rfl, sG, elr, elo, nlo, hrows, hrs, hosl, hrel⟩ nT
    rw [List.getElem?_map] at hi
    cases hyi : ls[i]? with
    | none => rw [hyi] at hi; cases hi
    | some y =>
      rw [hyi] at hi
      cases hi
      have hil : i < ls.length := (List.getElem?_eq_some_iff.mp hyi).1
      have hd : ls.drop i = y :: ls.drop (i + 1) := by
        obtain ⟨hlt, he⟩ := List.getElem?_eq_some_iff.mp hyi
        rw [List.drop_eq_getElem_cons hlt, he]
      rw [hd] at hrel
      have sT := new_same (o := .tup [.int (1 + (i : Int)), .str y]) nT
      refine ⟨Tp, _, rfl, SqT.of upd_same, rfl, _, _, rfl, _, _, rfl, rfl, ?_⟩
      refine ⟨_, rfl, _, rfl, _, rfl, y, lo, wd, os, rfl, sT _ _ elo, by omega, hok y (List.mem_of_getElem? hyi), hw, fun G2 v s2 hv => ?_⟩
      have sG2 := sT.trans s2
      cases hro : rowOf y os wd with
      | none =>
        rw [hro] at hv
        have e : v = .non := hv
        subst e
        have hbad : rowsFrom wd [] ls 1 = .inl (i + 1) := by rw [hrel]; unfold rowsFrom; rw [hro]
        have hlo : linesOf ls wd = .inl (i + 1) := by unfold linesOf; rw [hbad]
        rw [hlo] at q
        refine ⟨_, rfl, _, rfl, iteBT (by decide) ?_⟩
        have q1 := q G2 (sG.trans sG2)
        rw [show ((i + 1 : Nat) : Int) = 1 + (i : Int) by omega] at q1
        exact rd1 (W := fun cls d _ G => E cls d G) ET.t2.ex.oex (ET.t2.nf _ List.mem_cons_self) rfl q1
      | some p =>
        rw [hro] at hv
        obtain ⟨r, rfl, nr2, hr2⟩ := hv
        refine ⟨_, rfl, _, rfl, iteF ?_⟩
        refine ⟨_, rfl, .inl ⟨rfl, _, SqL.of (sG2 _ _ elr)⟩, _, rfl, lr, _, _, rfl, rfl, sG2 _ _ elr, (by rw [List.length_map, hrs]; exact Nat.lt_of_lt_of_le hil (Nat.le_trans hn (by decide))), ?_⟩
        have elr2 := sG2 _ _ elr
        obtain ⟨dx, tt', nu, er, ht⟩ := hr2.lst (o := .lst (rs.map V.ref ++ [.ref r])) elr2
        refine ⟨_, rfl, r, C, dx, _, _, rfl, er, R.cl, R.nw, rfl, _, rfl, lo, os, p.1, rfl, (by rw [upd_ne nlo]; exact sG2 _ _ elo), by omega, fun G3 lo' s3 hlo' elo' => ?_⟩
        have h3 : RowsG K C G3 (rs ++ [r]) (ps ++ [p]) := ⟨by rw [List.length_append, List.length_append, hrows.1]; rfl, fun j a u ha hu => by
          rcases Nat.lt_or_ge j rs.length with lt | ge
          · rw [List.getElem?_append_left lt] at ha
            rw [List.getElem?_append_left (by rw [← hrows.1]; exact lt)] at hu
            exact (((hrows.2 j a u ha hu).keep sG2).lst elr2).keep s3
          · rw [List.getElem?_append_right ge] at ha
            rw [List.getElem?_append_right (by rw [← hrows.1]; exact ge), ← hrows.1] at hu
            have ej : j - rs.length = 0 := by
              have := (List.getElem?_eq_some_iff.mp ha).1
              simp at this
              omega
            rw [ej] at ha hu
            cases ha
            cases hu
            exact (hr2.lst elr2).keep s3⟩
        refine ⟨lo', behindOf p.1 os, rs ++ [r], ps ++ [p], _, _, _, rfl, ?_, ?_, elo', ?_, h3, by rw [List.length_append, hrs]; rfl, Nat.le_trans (behind_len _ _) (by omega), ?_⟩
        · exact (same_out (sG.trans sG2) nr).trans s3
        · have := s3 lr _ upd_same
          rw [this, List.map_append]
          rfl
        · rcases hlo' with e | e
          · rw [e]; exact nlo
          · intro z
            rw [z, upd_same] at e
            cases e
        · rw [hrel]
          conv => lhs; unfold rowsFrom
          rw [hro]
          dsimp only
          cases rowsFrom wd (behindOf p.1 os) (ls.drop (i + 1)) (i + 1 + 1) with
          | inl k => rfl
          | inr qe => simp
  · rintro σ G ⟨lo, os, rs, ps, v4, v5, v6, rfl, sG, elr, elo, nlo, hrows, hrs, hosl, hrel⟩
    rw [List.length_map, List.drop_length] at hrel
    have hrel' : rowsFrom wd [] ls 1 = .inr (ps, os) := by rw [hrel]; unfold rowsFrom; simp
    refine ⟨_, rfl, !(os.map V.str).isEmpty, .inl ⟨_, SqL.of elo, rfl⟩, ?_⟩
    cases os with
    | nil =>
      have hlo : linesOf ls wd = .inr ps := by unfold linesOf; rw [hrel']
      rw [hlo] at q
      exact iteF ⟨_, rfl, q G lr rs sG elr hrows⟩
    | cons o1 ot =>
      have hlo : linesOf ls wd = .inl (ls.length + 1) := by unfold linesOf; rw [hrel']
      rw [hlo] at q
      refine iteT ?_
      have q1 := q G sG
      refine ⟨_, rfl, l, _, rfl, .inl (sqt_list_same hl sG), _, _, rfl, rfl, ?_⟩
      have q2 : err1 (EC 2) "line" (.int (((ls.map V.str).length : Nat) + 1)) G E := by rw [List.length_map]; exact q1
      exact mk1 (Q := fun cls d H' => E cls d H') ET.t2.ex.oex (ET.t2.nf _ List.mem_cons_self) q2
end
end H2
namespace H2
open PySem PySem.Spec PyProof.Rows L2 Hx Nd Dun
section
variable {P : Program} {w : World} {K : PySem.W.Frag} {mg : Str → Option Value} {base : Heap} {D : Addr}
/-! ### bool(t), t a tuple -/
theorem meets_bool_tup (l : Addr) (items : Array Value) (hfit : (items.size : Int) < 2 ^ 63) :
    Meets (Builtin.«bool.__new__» ⟨[.type "bool", .ref l], []⟩) (fun _ R s => IsTup s.heap l items ∧ ∀ tk, R (.ok (.ret (.bool (!items.isEmpty)))) { s with toks := tk }) :=
  Meets.of_wp fun prog w A R s hs => by
    obtain ⟨hl, hs⟩ := hs
    obtain ⟨hp, g, d, tk, os⟩ := s
    have f1 := F.conv_sub_bool
    repeat (any_goals (first | assumption | (with_reducible refine truthy_tuple hl hfit ?_) | wp_step))
    all_goals first | exact ⟨_, rfl, hs _⟩ | exact hs _ | skip
theorem call_boolT {X : Cx} : CallR X (.type "bool") (fun xs H Q => ∃ (a : Addr) (zs : List V), xs = [.ref a] ∧ SqT X.K H a zs ∧ Q (.bl (!zs.isEmpty)) H) := by
  intro pins s σ H xs us Q I r h
  obtain ⟨a, zs, rfl, hq, q⟩ := h
  obtain ⟨u, rfl, ru⟩ := vals1 r
  cases (show u = Value.ref a from ru)
  obtain ⟨its, rv, pl, hz⟩ := I.tuple hq
  have hl := line63
  have hlen := rv.length
  refine PySem.call_bool_1 (meets_bool_tup a its.toArray (by simp only [List.size_toArray]; omega)) ⟨pl, fun tk => ⟨rfl, ?_⟩⟩
  exact ⟨.bl (!zs.isEmpty), H, I.tok tk, by rw [isEmpty_of rv]; rfl, q⟩
end
end H2
namespace H2
open PySem PySem.Spec PyProof.Rows L2 Hx Nd Dun
section
variable {P : Program} {w : World} {K : PySem.W.Frag} {mg : Str → Option Value} {base : Heap} {D : Addr}
/-! ### ways, of any form -/
def keyOf (ls os : List Str) (h c : Int) : NestedKey := .tup [.tup (ls.map .text), .num h, .num c, .tup (os.map .text)]
theorem depth_texts (xs : List Str) : NestedKey.depthAll (xs.map NestedKey.text) = 0 := by
  induction xs with
  | nil => rfl
  | cons x r ih => rw [List.map_cons, NestedKey.depthAll, ih]; rfl
theorem key_deep (ls os : List Str) (h c : Int) : (keyOf ls os h c).depth ≤ 8 := by
  unfold keyOf
  simp only [NestedKey.depth, NestedKey.depthAll, depth_texts]
  decide
inductive LsOk : List Str → Prop
  | nil : LsOk []
  | one (a : Str) : isLoop a = true → LsOk [a]
  | two (a b : Str) : isLoop a = true → isLoop b = true → a ≠ b → LsOk [a, b]
theorem LsOk.snoc {ls : List Str} {a : Str} (h : LsOk ls) (ha : isLoop a = true) (hn : a ∉ ls) : LsOk (ls ++ [a]) := by
  cases h with
  | nil => exact .one a ha
  | one b hb => exact .two b a hb ha (fun e => hn (by rw [e]; exact List.mem_cons_self))
  | two b c hb hc hbc =>
    exfalso
    rcases loop_cases hb with rfl | rfl <;> rcases loop_cases hc with rfl | rfl <;> rcases loop_cases ha with rfl | rfl
    · exact hbc rfl
    · exact hbc rfl
    · exact hn List.mem_cons_self
    · exact hn (List.mem_cons_of_mem _ List.mem_cons_self)
    · exact hn (List.mem_cons_of_mem _ List.mem_cons_self)
    · exact hn List.mem_cons_self
    · exact hbc rfl
    · exact hbc rfl
theorem LsOk.len {ls : List Str} (h : LsOk ls) : ls.length ≤ 2 := by cases h <;> simp
def Wy (K : PySem.W.Frag) (H : Hp) (v : V) : Prop := ∃ ls os h c, NV K H v (keyOf ls os h c) ∧ LsOk ls ∧ os.length ≤ 3
theorem Wy.keep {H H' : Hp} {v : V} (w : Wy K H v) (e : Tups H H') : Wy K H' v := by
  obtain ⟨ls, os, h, c, n, q⟩ := w
  exact ⟨ls, os, h, c, NV.keep e _ _ n, q⟩
theorem nvs_text {H : Hp} : ∀ {xs : List V} {ys : List Str}, NVs K H xs (ys.map NestedKey.text) → xs = ys.map V.str
  | _, [], h => by cases h; rfl
  | _, y :: ys, h => by
    cases h with
    | cons a b =>
      cases a
      rw [nvs_text b]
      rfl
theorem text_nvs {H : Hp} (ys : List Str) : NVs K H (ys.map V.str) (ys.map NestedKey.text) := by
  induction ys with
  | nil => exact .nil
  | cons y r ih => exact .cons (.str y) ih
theorem nv_inv {H : Hp} {v : V} {ls os : List Str} {h c : Int} (n : NV K H v (keyOf ls os h c)) : ∃ a b d, v = .ref a ∧ SqT K H a [.ref b, .int h, .int c, .ref d] ∧ SqT K H b (ls.map V.str) ∧ SqT K H d (os.map V.str) := by
  cases n with
  | @tup a xs _ h1 h2 =>
    cases h2 with
    | cons x1 h2 =>
      cases h2 with
      | cons x2 h2 =>
        cases h2 with
        | cons x3 h2 =>
          cases h2 with
          | cons x4 h2 =>
            cases h2
            cases x2
            cases x3
            cases x1 with
            | @tup b ys _ y1 y2 =>
              cases x4 with
              | @tup d zs _ z1 z2 =>
                rw [nvs_text y2] at y1
                rw [nvs_text z2] at z1
                exact ⟨a, b, d, rfl, h1, y1, z1⟩
theorem nv_mk {H : Hp} {a b d : Addr} {ls os : List Str} {h c : Int} (e : SqT K H a [.ref b, .int h, .int c, .ref d]) (eb : SqT K H b (ls.map V.str)) (ed : SqT K H d (os.map V.str)) : NV K H (.ref a) (keyOf ls os h c) :=
  .tup e (.cons (.tup eb (text_nvs ls)) (.cons (.int h) (.cons (.int c) (.cons (.tup ed (text_nvs os)) .nil))))
theorem flat_strs (xs : List Str) : (xs.map V.str).all flatV = true := by
  induction xs with
  | nil => rfl
  | cons x r ih => rw [List.map_cons, List.all_cons, ih]; rfl
def aheadV : List V := [.str "tell", .str "grab last", .str "grab given", .str "longer", .str "trade"]
def onceV : List V := [.str "longer", .str "shorter", .str "trade"]
def keepsB (ls os : List Str) (hm : Int) (x : Str) : Bool :=
  if inV (.str x) aheadV && !(ls.map V.str).isEmpty then false
  else if decide (V.str x = V.str "grab") then (ls.map V.str).isEmpty || decide (0 < hm)
  else if decide (V.str x = V.str "to start") then !(ls.map V.str).isEmpty && decide (hm = 0)
  else if decide (V.str x = V.str "longer") then !inV (.str x) (os.map V.str)
  else if inV (.str x) [.str "grab last", .str "trade"] then !inV (.str "shorter") (os.map V.str)
  else if decide (V.str x = V.str "shorter") then !inV (.str x) (os.map V.str) && !(!(ls.map V.str).isEmpty && inV (.str "trade") (os.map V.str))
  else true
def spKeeps (K : PySem.W.Frag) : Sp := fun vs H Q _ => ∃ (v : V) (x : Str) (ls os : List Str) (hm ct : Int), vs = [v, .str x] ∧ NV K H v (keyOf ls os hm ct) ∧ LsOk ls ∧ os.length ≤ 3 ∧ ∀ H' b, Same H H' → b = keepsB ls os hm x → Q (.bl b) H'
theorem ok_keeps {f aA : Addr} (T : FT K mg "keeps_order" s_keeps_order ["way", "word"] f) (cA : TupT K mg "AHEAD_OF_LOOPS" aA aheadV) (bool : mg "bool" = none) : ∃ fd, Fun K "keeps_order" "keeps_order" s_keeps_order f fd ∧ Binds K fd ["way", "word"] [] ∧ FnOk P w K mg base CX0 1 f fd ["way", "word"] (spKeeps K) := by
  obtain ⟨fd, F, b⟩ := T.fn
  refine ⟨fd, F, b, F.ok c_keeps_order (fun vs H Q E h => ?_) (fun cdv A outer s H vs Q E hr h => ?_)⟩
  · obtain ⟨v, x, _, _, _, _, rfl, _⟩ := h
    rfl
  obtain ⟨v, x, ls, os, hm, ct, rfl, hv, hls, hos, q⟩ := h
  obtain ⟨a, b1, c1, rfl, ha, hb, hc⟩ := nv_inv hv
  refine ⟨_, pss_cons (ps_asg (pv 0) (pg_tup rfl (pgs_cons (pg_name (i := 2) c_keeps_order.nd rfl (Or.inl rfl)) (pgs_cons (pg_name (i := 3) c_keeps_order.nd rfl (Or.inl rfl)) (pgs_cons (pg_name (i := 4) c_keeps_order.nd rfl (Or.inl rfl)) (pgs_cons (pg_name (i := 5) c_keeps_order.nd rfl (Or.inl rfl)) pgs_nil))))))
    (Evl.pss_cut (ps_if (PW.pt (pw_and (pt_cmpR op_in_seq (pv 1) (pe_glob (v := .ref aA) rfl cA.g rfl) rfl) (pw_and1 (pt_truth (pv 2) (by intro _; rfl))))) (pss_one (ps_ret pe_bl)) pss_nil)
    (pss_cons (ps_if (pt_cmpR op_eq (pv 1) pe_str (nomark _)) (pss_one (ps_ret (pe_or (pe_notT (pv 2)) (pe_one (pe_cmpR op_gt (pv 3) pe_int (nomark _)))))) pss_nil)
    (pss_cons (ps_if (pt_cmpR op_eq (pv 1) pe_str (nomark _)) (pss_one (ps_ret (pe_and (pe_callTy call_boolT (by rfl) bool (by decide +kernel) (pa_cons (pv 2) pa_nil)) (pe_one (pe_cmpR op_eq (pv 3) pe_int (nomark _)))))) pss_nil)
    (pss_cons (ps_if (pt_cmpR op_eq (pv 1) pe_str (nomark _)) (pss_one (ps_ret (pe_cmpR op_notIn_seq (pv 1) (pv 5) rfl))) pss_nil)
    (Evl.pss_cut (ps_if (pt_cmpR op_in_seq (pv 1) (pe_tup (pa_cons pe_str (pa_cons pe_str pa_nil))) rfl) (pss_one (ps_ret (pe_cmpR op_notIn_seq pe_str (pv 5) rfl))) pss_nil)
    (pss_cons (ps_if (pt_cmpR op_eq (pv 1) pe_str (nomark _)) (pss_one (ps_ret (pe_and (pe_cmpR op_notIn_seq (pv 1) (pv 5) rfl) (pe_one (pe_notT (pe_andT (pv 2) (pe_one (pe_cmpR op_in_seq pe_str (pv 5) rfl)))))))) pss_nil)
    (pss_one (ps_ret pe_bl)))))))), ?_⟩
  refine ⟨_, rfl, a, _, rfl, ha, rfl, _, _, rfl, _, _, rfl, _, _, rfl, _, _, rfl, rfl, ?_⟩
  have sH := Same.refl H
  refine ⟨fun σ G => σ = [some (.ref a), some (.str x), some (.ref b1), some (.int hm), some (.int ct), some (.ref c1)] ∧ G = H ∧ (inV (.str x) aheadV && !(ls.map V.str).isEmpty) = false, ?_, ?_⟩
  · refine ⟨_, rfl, aA, _, rfl, .inr (cA.s _), rfl, rfl, _, rfl, iteB (fun h1 => ?_) (fun h1 => iteF ⟨rfl, rfl, by rw [show inV (V.str x) aheadV = false from h1]; rfl⟩)⟩
    refine ⟨_, rfl, _, .inr (.inl ⟨_, hb, rfl⟩), iteB (fun h2 => q H _ sH ?_) (fun h2 => ⟨rfl, rfl, by rw [h2, Bool.and_false]⟩)⟩
    unfold keepsB
    rw [show inV (V.str x) aheadV = true from h1, h2]
    rfl
  · rintro σ G ⟨rfl, rfl, h0⟩
    unfold keepsB at q
    rw [h0] at q
    simp only [Bool.false_eq_true, if_false] at q
    refine ⟨_, rfl, rfl, _, rfl, ite2 (fun h1 => ?_) (fun h1 => ?_)⟩
    · rw [if_pos h1] at q
      refine ⟨_, rfl, _, .inr (.inl ⟨_, hb, rfl⟩), _, rfl, iteB (fun h2 => q _ _ sH (by revert h2; generalize (List.map V.str ls).isEmpty = e; cases e <;> simp)) (fun h2 => ?_)⟩
      exact ⟨_, rfl, _, _, rfl, rfl, q _ _ sH (by revert h2; generalize (List.map V.str ls).isEmpty = e; cases e <;> simp)⟩
    rw [if_neg h1] at q
    refine ⟨_, rfl, rfl, _, rfl, ite2 (fun h1 => ?_) (fun h1 => ?_)⟩
    · rw [if_pos h1] at q
      refine ⟨_, rfl, b1, _, rfl, hb, _, rfl, iteB (fun h2 => ?_) (fun h2 => q _ _ sH (by rw [h2]; rfl))⟩
      exact ⟨_, rfl, rfl, q _ _ sH (by rw [h2]; simp)⟩
    rw [if_neg h1] at q
    refine ⟨_, rfl, rfl, _, rfl, ite2 (fun h1 => ?_) (fun h1 => ?_)⟩
    · rw [if_pos h1] at q
      exact ⟨_, rfl, _, rfl, c1, _, rfl, .inr hc, rfl, flat_strs os, q _ _ sH rfl⟩
    rw [if_neg h1] at q
    refine ⟨fun σ G2 => σ = [some (.ref a), some (.str x), some (.ref b1), some (.int hm), some (.int ct), some (.ref c1)] ∧ Same G G2 ∧ inV (.str x) [.str "grab last", .str "trade"] = false, ?_, ?_⟩
    · refine ⟨_, rfl, (by show 2 ≤ sizeLine; decide), fun u nu => ⟨u, _, rfl, .inr (SqT.of upd_same), rfl, rfl, _, rfl, iteB (fun h2 => ?_) (fun h2 => ⟨rfl, new_same nu, h2⟩)⟩⟩
      exact ⟨_, rfl, c1, _, rfl, .inr (sqt_same (new_same nu) hc), rfl, flat_strs os, q _ _ (new_same nu) (by rw [if_pos (show inV (V.str x) [.str "grab last", .str "trade"] = true from h2)]; rfl)⟩
    · rintro σ G2 ⟨rfl, s2, h2⟩
      rw [if_neg (by rw [h2]; decide)] at q
      refine ⟨_, rfl, rfl, _, rfl, ite2 (fun h1 => ?_) (fun h1 => q _ _ s2 (by rw [if_neg h1]))⟩
      rw [if_pos h1] at q
      refine ⟨_, rfl, _, rfl, c1, _, rfl, .inr (sqt_same s2 hc), rfl, flat_strs os, _, rfl, iteB (fun h3 => ?_) (fun h3 => q _ _ s2 (by rw [show (!inV (V.str x) (List.map V.str os)) = false from h3]; rfl))⟩
      refine ⟨_, rfl, _, .inr (.inl ⟨_, sqt_same s2 hb, rfl⟩), iteB (fun h4 => ?_) (fun h4 => ?_)⟩
      · exact ⟨_, rfl, c1, _, rfl, .inr (sqt_same s2 hc), rfl, flat_strs os, _, rfl, q _ _ s2 (by rw [show (!inV (V.str x) (List.map V.str os)) = true from h3, h4]; simp)⟩
      · exact ⟨_, .inr (.inl ⟨_, sqt_same s2 hb, rfl⟩), q _ _ s2 (by rw [show (!inV (V.str x) (List.map V.str os)) = true from h3, h4]; simp)⟩
end
end H2
namespace H2
open PySem PySem.Spec PyProof.Rows L2 Hx Nd Dun
section
variable {P : Program} {w : World} {K : PySem.W.Frag} {mg : Str → Option Value} {base : Heap} {D : Addr}
/-! ### way_behind -/
def onceW : List Str := ["longer", "shorter", "trade"]
def firstB (c : Bool) (ls : List Str) (v n : Int) : Int := if c && !(ls.map V.str).isEmpty then (if (v != 0) = true then v else n) else v
theorem firstB_t {c : Bool} {ls : List Str} {v n : Int} (h1 : c = true) (h2 : (!(ls.map V.str).isEmpty) = true) : firstB c ls v n = if (v != 0) = true then v else n := by
  unfold firstB
  rw [h1, h2]
  rfl
theorem firstB_2 (c : Bool) {ls : List Str} (v n : Int) (h2 : (!(ls.map V.str).isEmpty) = false) : firstB c ls v n = v := by
  unfold firstB
  rw [h2, Bool.and_false]
  rfl
theorem firstB_1 {c : Bool} (ls : List Str) (v n : Int) (h1 : ¬ c = true) : firstB c ls v n = v := by
  unfold firstB
  rw [show c = false from by simpa using h1]
  rfl
def onceB (os : List Str) (x k : Str) : Bool := decide (V.str k = V.str x) || inV (.str k) (os.map V.str)
def onceOf (os : List Str) (x : Str) : List Str := onceW.filter (onceB os x)
theorem onceOf_len (os : List Str) (x : Str) : (onceOf os x).length ≤ 3 := List.length_filter_le _ _
def behindKey (ls os : List Str) (hm ct n : Int) (x : Str) : NestedKey := keyOf ls (onceOf os x) (firstB (decide (V.str x = V.str "to start")) ls hm n) (firstB (decide (V.str x = V.str "shorter")) ls ct n)
def spBehind (K : PySem.W.Frag) : Sp := fun vs H Q _ => ∃ (v : V) (n : Int) (x : Str) (ls os : List Str) (hm ct : Int), vs = [v, .int n, .str x] ∧ NV K H v (keyOf ls os hm ct) ∧ LsOk ls ∧ os.length ≤ 3 ∧ ∀ H' b, Same H H' → NV K H' (.ref b) (behindKey ls os hm ct n x) → Q (.ref b) H'
theorem ok_behind {f aO : Addr} (T : FT K mg "way_behind" s_way_behind ["way", "line", "word"] f) (cO : TupT K mg "ONCE" aO onceV) (tup : mg "tuple" = none) : ∃ fd, Fun K "way_behind" "way_behind" s_way_behind f fd ∧ Binds K fd ["way", "line", "word"] [] ∧ FnOk P w K mg base CX0 1 f fd ["way", "line", "word"] (spBehind K) := by
  obtain ⟨fd, F, b⟩ := T.fn
  refine ⟨fd, F, b, F.ok c_way_behind (fun vs H Q E h => ?_) (fun cdv A outer s H vs Q E hr h => ?_)⟩
  · obtain ⟨v, n, x, _, _, _, _, rfl, _⟩ := h
    rfl
  obtain ⟨v, n, x, ls, os, hm, ct, rfl, hv, hls, hos, q⟩ := h
  obtain ⟨a, b1, c1, rfl, ha, hb, hc⟩ := nv_inv hv
  refine ⟨_, pss_cons (ps_asg (pv 0) (pg_tup rfl (pgs_cons (pg_name (i := 3) c_way_behind.nd rfl (Or.inl rfl)) (pgs_cons (pg_name (i := 4) c_way_behind.nd rfl (Or.inl rfl)) (pgs_cons (pg_name (i := 5) c_way_behind.nd rfl (Or.inl rfl)) (pgs_cons (pg_name (i := 6) c_way_behind.nd rfl (Or.inr rfl)) pgs_nil))))))
    (Evl.pss_cut (ps_if (PW.pt (pw_and (pt_cmpR op_eq (pv 2) pe_str (nomark _)) (pw_and1 (pt_truth (pv 3) (by intro _; rfl))))) (pss_one (ps_set (i := 4) c_way_behind.nd rfl (Or.inl rfl) (pe_orT (pv 4) (pe_one (pv 1))))) pss_nil)
    (Evl.pss_cut (ps_if (PW.pt (pw_and (pt_cmpR op_eq (pv 2) pe_str (nomark _)) (pw_and1 (pt_truth (pv 3) (by intro _; rfl))))) (pss_one (ps_set (i := 5) c_way_behind.nd rfl (Or.inl rfl) (pe_orT (pv 5) (pe_one (pv 1))))) pss_nil)
    (pss_one (ps_ret (pe_tup (pa_cons (pv 3) (pa_cons (pv 4) (pa_cons (pv 5) (pa_cons (pe_callTy call_tuple_of (by rfl) tup (by decide +kernel) (pa_cons
      (pe_lc (own := [("known", 7)]) (g := gName 7) rfl c_way_behind.nd (pi_tup (pe_glob (v := .ref aO) rfl cO.g rfl)) (blkOk_by (own := [("known", 7)]) (N := n_way_behind) (sc := defScope s_way_behind) (by decide +kernel))
        (fun _ _ _ _ _ => pg_name (i := 7) c_way_behind.nd rfl (Or.inl rfl)) (fun _ _ _ _ _ => pts_one (PW.pt (pw_or (pt_cmpR op_eq (pv 7) (pv 2) (nomark _)) (pw_or1 (pt_cmpR (op_in_seqk (K' := K) rfl) (pv 7) (pv 6) rfl))))) (fun _ _ _ _ _ => pv 7)) pa_nil)) pa_nil))))))))), ?_⟩
  refine ⟨_, rfl, a, _, rfl, ha, rfl, _, _, rfl, _, _, rfl, _, _, rfl, _, _, rfl, rfl, ?_⟩
  refine ⟨fun σ G => σ = [some (.ref a), some (.int n), some (.str x), some (.ref b1), some (.int (firstB (decide (V.str x = V.str "to start")) ls hm n)), some (.int ct), some (.ref c1), none] ∧ G = H, ?_, ?_⟩
  · refine ⟨_, rfl, rfl, _, rfl, ite2 (fun h1 => ?_) (fun h1 => iteF ⟨?_, rfl⟩)⟩
    · refine ⟨_, rfl, _, .inr (.inl ⟨_, hb, rfl⟩), iteB (fun h2 => ?_) (fun h2 => ?_)⟩
      · refine ⟨_, rfl, _, rfl, iteB (fun h3 => ?_) (fun h3 => ?_)⟩
        · refine ⟨?_, rfl⟩
          rw [firstB_t (v := hm) h1 h2, if_pos h3]
          rfl
        · refine ⟨_, rfl, ?_, rfl⟩
          rw [firstB_t (v := hm) h1 h2, if_neg (by rw [h3]; decide)]
          rfl
      · refine ⟨?_, rfl⟩
        rw [firstB_2 (decide (V.str x = V.str "to start")) hm n h2]
        rfl
    · rw [firstB_1 ls hm n h1]
      rfl
  rintro σ G ⟨rfl, rfl⟩
  refine ⟨fun σ G' => σ = [some (.ref a), some (.int n), some (.str x), some (.ref b1), some (.int (firstB (decide (V.str x = V.str "to start")) ls hm n)), some (.int (firstB (decide (V.str x = V.str "shorter")) ls ct n)), some (.ref c1), none] ∧ G' = G, ?_, ?_⟩
  · refine ⟨_, rfl, rfl, _, rfl, ite2 (fun h1 => ?_) (fun h1 => iteF ⟨?_, rfl⟩)⟩
    · refine ⟨_, rfl, _, .inr (.inl ⟨_, hb, rfl⟩), iteB (fun h2 => ?_) (fun h2 => ?_)⟩
      · refine ⟨_, rfl, _, rfl, iteB (fun h3 => ?_) (fun h3 => ?_)⟩
        · refine ⟨?_, rfl⟩
          rw [firstB_t (v := ct) h1 h2, if_pos h3]
          rfl
        · refine ⟨_, rfl, ?_, rfl⟩
          rw [firstB_t (v := ct) h1 h2, if_neg (by rw [h3]; decide)]
          rfl
      · refine ⟨?_, rfl⟩
        rw [firstB_2 (decide (V.str x = V.str "shorter")) ct n h2]
    · rw [firstB_1 ls ct n h1]
  rintro σ G ⟨rfl, rfl⟩
  refine ⟨_, rfl, _, rfl, _, rfl, aO, rfl, ⟨_, cO.s _⟩, fun L nL => lc_tup (K := K) (a := aO) (xs := onceV) (fun i G' => Same G G' ∧ G' L = some (.lst (((onceW.take i).filter (onceB os x)).map V.str))) ⟨new_same nL, upd_same⟩ (fun i G' _ _ => cO.s G') ?_ ?_⟩
  · rintro i v G' hi ⟨sG, eL⟩
    have hw : ∃ k, v = .str k ∧ onceW[i]? = some k := by
      rw [show onceV = onceW.map V.str from rfl, List.getElem?_map] at hi
      cases hk : onceW[i]? with
      | none => rw [hk] at hi; cases hi
      | some k => rw [hk] at hi; exact ⟨k, by cases hi; rfl, rfl⟩
    obtain ⟨k, rfl, hk⟩ := hw
    have hil : i < onceW.length := (List.getElem?_eq_some_iff.mp hk).1
    have et : ((onceW.take (i + 1)).filter (onceB os x)) = ((onceW.take i).filter (onceB os x)) ++ (if onceB os x k = true then [k] else []) := by
      rw [List.take_add_one, hk, List.filter_append]
      congr 1
      show [k].filter _ = _
      rw [List.filter_cons, List.filter_nil]
    have hput : onceB os x k = true → (∃ acc, G' L = some (.lst acc) ∧ acc.length < sizeLine ∧ (Same G (upd G' L (.lst (acc ++ [.str k]))) ∧ (upd G' L (.lst (acc ++ [.str k]))) L = some (.lst (((onceW.take (i + 1)).filter (onceB os x)).map V.str)))) := fun hb => by
      refine ⟨_, eL, ?_, same_out sG nL, ?_⟩
      · rw [List.length_map]
        exact Nat.lt_of_le_of_lt (List.length_filter_le _ _) (Nat.lt_of_le_of_lt (by rw [List.length_take]; exact Nat.min_le_left _ _) (Nat.lt_of_lt_of_le hil (by decide)))
      · rw [upd_same, et, if_pos hb, List.map_append]
        rfl
    refine ⟨rfl, ?_⟩
    refine ⟨_, rfl, _, rfl, rfl, _, rfl, ite2 (fun h1 => ?_) (fun h1 => ?_)⟩
    · exact iteT ⟨_, rfl, hput (by unfold onceB; rw [h1, Bool.true_or])⟩
    · refine ⟨_, rfl, _, rfl, c1, _, rfl, .inr (sqt_same sG hc), rfl, flat_strs os, _, rfl, iteB (fun h2 => ?_) (fun h2 => ?_)⟩
      · exact ⟨_, rfl, hput (by unfold onceB; rw [show inV (V.str k) (os.map V.str) = true from h2, Bool.or_true])⟩
      · refine ⟨sG, ?_⟩
        have hb : onceB os x k = false := by
          unfold onceB
          rw [show decide (V.str k = V.str x) = false from by simpa using h1, show inV (V.str k) (os.map V.str) = false from h2]
          rfl
        rw [et, hb, if_neg (by decide), List.append_nil]
        exact eL
  · rintro G' ⟨sG, eL⟩
    refine ⟨L, _, rfl, .inl ⟨SqL.of eL, fun t nt => ?_⟩⟩
    have st := same_new (o := .tup ((onceOf os x).map V.str)) sG nt
    refine ⟨(by show 4 ≤ sizeLine; decide), fun p np => ?_⟩
    have sp := same_new (o := .tup [.ref b1, .int (firstB (decide (V.str x = V.str "to start")) ls hm n), .int (firstB (decide (V.str x = V.str "shorter")) ls ct n), .ref t]) st np
    exact q _ p sp (nv_mk (SqT.of upd_same) (sqt_same sp hb) (SqT.of ((new_same np) _ _ upd_same)))
end
end H2
namespace H2
open PySem PySem.Spec PyProof.Rows L2 Hx Nd Dun
section
variable {P : Program} {w : World} {K : PySem.W.Frag} {mg : Str → Option Value} {base : Heap} {D : Addr}
/-! ### is_turn, may_begin -/
def lastOf (ls : List Str) : List Str := ls.drop (ls.length - 1)
theorem last_cases {ls : List Str} (h : LsOk ls) : lastOf ls = [] ∨ lastOf ls = [("down" : Str)] ∨ lastOf ls = [("up" : Str)] := by
  cases h with
  | nil => exact .inl rfl
  | one a ha =>
    rcases loop_cases ha with rfl | rfl
    · exact .inr (.inl rfl)
    · exact .inr (.inr rfl)
  | two a b ha hb hn =>
    rcases loop_cases hb with rfl | rfl
    · exact .inr (.inl rfl)
    · exact .inr (.inr rfl)
theorem slLast {ls : List Str} {H : Hp} {Q : VK} {b1 : Addr} (hls : LsOk ls) (hb : SqT K H b1 (ls.map V.str)) (q : ∀ t H', Same H H' → SqT K H' t ((lastOf ls).map V.str) → Q (.ref t) H') : rSlA K (.ref b1) (some (-1)) none H Q := by
  cases hls with
  | nil => exact ⟨b1, _, rfl, hb, fun _ => q b1 H (Same.refl H) hb, fun n => absurd ⟨rfl, rfl⟩ n⟩
  | one a ha => exact ⟨b1, _, rfl, hb, fun _ => q b1 H (Same.refl H) hb, fun n => absurd ⟨rfl, rfl⟩ n⟩
  | two a b _ _ _ => exact ⟨b1, _, rfl, hb, fun h => absurd h.1 (by show ¬ (1 : Nat) = 0; decide), fun _ p np => q p _ (new_same np) (SqT.of upd_same)⟩
theorem dp_tup {H : Hp} {t : Addr} {xs : List Str} (h : SqT K H t (xs.map V.str)) : Dp K H (.ref t) (.tuple (xs.map PyData.str)) := .tup h (dp_strs xs)
theorem shaped_last {ls : List Str} (h : LsOk ls) : SeqAt.shaped (.tuple ((lastOf ls).map PyData.str)) = true := by
  rcases last_cases h with e | e | e <;> rw [e] <;> decide +kernel
theorem eqv_last (ls : List Str) (w : Str) : PyData.eqv (.tuple ((lastOf ls).map PyData.str)) (.tuple [.str w]) = decide (lastOf ls = [w]) := by
  have e := eqv_strs (lastOf ls) [w]
  rw [List.map_cons, List.map_nil] at e
  rw [PyData.eqv]
  exact e
def turnB (ls : List Str) (hm : Int) (x : Str) : Bool := decide (V.str x = V.str "up") && (decide (lastOf ls = [("down" : Str)]) && decide (hm = 0))
def mayB (ls : List Str) (hm : Int) (x : Str) : Bool := !inV (.str x) (ls.map V.str) && (!decide (lastOf ls = [("up" : Str)]) || decide (0 < hm))
def spTurn (K : PySem.W.Frag) : Sp := fun vs H Q _ => ∃ (v : V) (x : Str) (ls os : List Str) (hm ct : Int), vs = [v, .str x] ∧ NV K H v (keyOf ls os hm ct) ∧ LsOk ls ∧ ∀ H' b, Same H H' → b = turnB ls hm x → Q (.bl b) H'
def spMay (K : PySem.W.Frag) : Sp := fun vs H Q _ => ∃ (v : V) (x : Str) (ls os : List Str) (hm ct : Int), vs = [v, .str x] ∧ NV K H v (keyOf ls os hm ct) ∧ LsOk ls ∧ ∀ H' b, Same H H' → b = mayB ls hm x → Q (.bl b) H'
theorem flat_loops (ls : List Str) : (ls.map V.str).all flatV = true := flat_strs ls
theorem ok_turn {f : Addr} (T : FT K mg "is_turn" s_is_turn ["way", "word"] f) : ∃ fd, Fun K "is_turn" "is_turn" s_is_turn f fd ∧ Binds K fd ["way", "word"] [] ∧ FnOk P w K mg base CX0 1 f fd ["way", "word"] (spTurn K) := by
  obtain ⟨fd, F, b⟩ := T.fn
  refine ⟨fd, F, b, F.ok c_is_turn (fun vs H Q E h => ?_) (fun cdv A outer s H vs Q E hr h => ?_)⟩
  · obtain ⟨v, x, _, _, _, _, rfl, _⟩ := h
    rfl
  obtain ⟨v, x, ls, os, hm, ct, rfl, hv, hls, q⟩ := h
  obtain ⟨a, b1, c1, rfl, ha, hb, hc⟩ := nv_inv hv
  refine ⟨_, pss_cons (ps_asg (pv 0) (pg_tup rfl (pgs_cons (pg_name (i := 2) c_is_turn.nd rfl (Or.inl rfl)) (pgs_cons (pg_name (i := 3) c_is_turn.nd rfl (Or.inl rfl)) (pgs_cons (pg_name (i := 4) c_is_turn.nd rfl (Or.inl rfl)) (pgs_cons (pg_name (i := 4) c_is_turn.nd rfl (Or.inl rfl)) pgs_nil))))))
    (pss_one (ps_ret (pe_and (pe_cmpR op_eq (pv 1) pe_str (nomark _)) (pe_and (pe_cmpR (op_eqD (Nat.lt_of_le_of_lt (Nat.le_succ _) (u65 hr))) (pe_slice sl_tupA (pv 2) (po_some (pe_un un_neg pe_int)) po_none) (pe_tup (pa_cons pe_str pa_nil)) (nomark _)) (pe_one (pe_cmpR op_eq (pv 3) pe_int (nomark _))))))), ?_⟩
  refine ⟨_, rfl, a, _, rfl, ha, rfl, _, _, rfl, _, _, rfl, _, _, rfl, _, _, rfl, rfl, ?_⟩
  refine ⟨_, rfl, rfl, _, rfl, iteB (fun h1 => ?_) (fun h1 => q _ _ (Same.refl H) (by unfold turnB; rw [show decide (V.str x = V.str "up") = false from h1]; rfl))⟩
  refine ⟨_, rfl, _, rfl, _, rfl, ?_⟩
  unfold tNoPart
  dsimp only
  refine (?_ : rSlA K (.ref b1) (some (-1)) none H _)
  refine slLast hls hb fun t H' s' ht => ?_
  refine ⟨(by show 1 ≤ sizeLine; decide), fun u nu => ?_⟩
  have su := new_same (o := .tup [.str "down"]) nu
  refine ⟨_, _, dp_tup (sqt_same su ht), dp_tup (xs := [("down" : Str)]) (SqT.of upd_same), shaped_last hls, by decide +kernel, _, rfl, iteB (fun h2 => ?_) (fun h2 => ?_)⟩
  · refine ⟨_, rfl, rfl, q _ _ (s'.trans su) ?_⟩
    unfold turnB
    rw [show decide (V.str x = V.str "up") = true from h1, ← eqv_last, show PyData.eqv (.tuple ((lastOf ls).map PyData.str)) (.tuple [.str "down"]) = true from h2]
    simp
  · refine q _ _ (s'.trans su) ?_
    unfold turnB
    rw [← eqv_last, show PyData.eqv (.tuple ((lastOf ls).map PyData.str)) (.tuple [.str "down"]) = false from h2]
    simp
theorem ok_may {f : Addr} (T : FT K mg "may_begin" s_may_begin ["way", "word"] f) : ∃ fd, Fun K "may_begin" "may_begin" s_may_begin f fd ∧ Binds K fd ["way", "word"] [] ∧ FnOk P w K mg base CX0 1 f fd ["way", "word"] (spMay K) := by
  obtain ⟨fd, F, b⟩ := T.fn
  refine ⟨fd, F, b, F.ok c_may_begin (fun vs H Q E h => ?_) (fun cdv A outer s H vs Q E hr h => ?_)⟩
  · obtain ⟨v, x, _, _, _, _, rfl, _⟩ := h
    rfl
  obtain ⟨v, x, ls, os, hm, ct, rfl, hv, hls, q⟩ := h
  obtain ⟨a, b1, c1, rfl, ha, hb, hc⟩ := nv_inv hv
  refine ⟨_, pss_cons (ps_asg (pv 0) (pg_tup rfl (pgs_cons (pg_name (i := 2) c_may_begin.nd rfl (Or.inl rfl)) (pgs_cons (pg_name (i := 3) c_may_begin.nd rfl (Or.inl rfl)) (pgs_cons (pg_name (i := 4) c_may_begin.nd rfl (Or.inl rfl)) (pgs_cons (pg_name (i := 4) c_may_begin.nd rfl (Or.inl rfl)) pgs_nil))))))
    (pss_cons (ps_if (pt_cmpR op_in_seq (pv 1) (pv 2) rfl) (pss_one (ps_ret pe_bl)) pss_nil)
    (pss_one (ps_ret (pe_or (pe_cmpR (op_neD (Nat.lt_of_le_of_lt (Nat.le_succ _) (u65 hr))) (pe_slice sl_tupA (pv 2) (po_some (pe_un un_neg pe_int)) po_none) (pe_tup (pa_cons pe_str pa_nil)) (nomark _)) (pe_one (pe_cmpR op_gt (pv 3) pe_int (nomark _))))))), ?_⟩
  refine ⟨_, rfl, a, _, rfl, ha, rfl, _, _, rfl, _, _, rfl, _, _, rfl, _, _, rfl, rfl, ?_⟩
  refine ⟨_, rfl, _, rfl, b1, _, rfl, .inr hb, rfl, flat_strs ls, _, rfl, iteB (fun h1 => ?_) (fun h1 => ?_)⟩
  · refine q _ _ (Same.refl H) ?_
    unfold mayB
    rw [show inV (V.str x) (ls.map V.str) = true from h1]
    rfl
  refine ⟨_, rfl, _, rfl, _, rfl, ?_⟩
  unfold tNoPart
  dsimp only
  refine (?_ : rSlA K (.ref b1) (some (-1)) none H _)
  refine slLast hls hb fun t H' s' ht => ?_
  refine ⟨(by show 1 ≤ sizeLine; decide), fun u nu => ?_⟩
  have su := new_same (o := .tup [.str "up"]) nu
  refine ⟨_, _, dp_tup (sqt_same su ht), dp_tup (xs := [("up" : Str)]) (SqT.of upd_same), shaped_last hls, by decide +kernel, _, rfl, iteB (fun h2 => ?_) (fun h2 => ?_)⟩
  · refine q _ _ (s'.trans su) ?_
    unfold mayB
    rw [show inV (V.str x) (ls.map V.str) = false from h1, ← eqv_last, show (!PyData.eqv (.tuple ((lastOf ls).map PyData.str)) (.tuple [.str "up"])) = true from h2]
    simp
  · refine ⟨_, rfl, _, _, rfl, rfl, q _ _ (s'.trans su) ?_⟩
    unfold mayB
    rw [show inV (V.str x) (ls.map V.str) = false from h1, ← eqv_last, show (!PyData.eqv (.tuple ((lastOf ls).map PyData.str)) (.tuple [.str "up"])) = false from h2]
    simp
end
end H2
namespace H2
open PySem PySem.Spec PyProof.Rows L2 Hx Nd Dun
section
variable {P : Program} {w : World} {K : PySem.W.Frag} {mg : Str → Option Value} {base : Heap} {D : Addr}
/-! ### allows -/
theorem ix_kd {X : Cx} {d : Addr} {es : Array DictEntry} {n : Nat} (D : KDict X.K X.w d es n) :
    IxR X (fun x y H Q => ∃ (z : Str) (u0 : Value) (v0 : V), x = .ref d ∧ y = .str z ∧ PySem.W.nsIn X.K d z = some (some u0) ∧ RelV v0 u0 ∧ Q v0 H) := by
  intro value slice pins s σ H x y v u Q I rx ry h hs
  have h' := op_item_kd D pins s σ H x y v u Q I rx ry h
  obtain ⟨z, u0, v0, rfl, rfl, e, r, q⟩ := h
  cases rx
  exact tail_any (kd_type D I) slot_dict_getitem.lookup h' hs
def allowTab : List (Str × List Str) := [("longer", ["put"]), ("shorter", ["take", "out"]), ("grab last", ["take", "out"]), ("trade", ["take", "out"]), ("grab given", ["put", "top"]), ("given", ["put", "top"]), ("to start", ["out", "either", "above", "below", "tree"])]
def allowFree : List Str := ["tell", "grab", "lay", "note", "quit"]
def allowB (kd x : Str) : Bool := match allowTab.lookup x with
  | none => true
  | some ks => inV (.str kd) (ks.map V.str)
structure AllX (K : PySem.W.Frag) (w : World) (mg : Str → Option Value) (d : Addr) : Prop where
  g : mg "ALLOWED" = some (.ref d)
  kd : ∃ es n, KDict K w d es n
  no : ∀ x ∈ allowFree, PySem.W.nsIn K d x = some none
  yes : ∀ p ∈ allowTab, ∃ a, PySem.W.nsIn K d p.1 = some (some (.ref a)) ∧ ∀ H, SqT K H a (p.2.map V.str)
def allowWords : List Str := allowFree ++ allowTab.map (·.1)
def spAllowX : Sp := fun vs H Q _ => ∃ (kd x : Str), vs = [.str kd, .str x] ∧ x ∈ allowWords ∧ Q (.bl (allowB kd x)) H
theorem lookup_mem : ∀ p ∈ allowTab, allowTab.lookup p.1 = some p.2 := by
  intro p hp
  simp only [allowTab, List.mem_cons, List.not_mem_nil, or_false] at hp
  rcases hp with rfl | rfl | rfl | rfl | rfl | rfl | rfl <;> decide +kernel
theorem lookup_free : ∀ x ∈ allowFree, allowTab.lookup x = none := by
  intro x hx
  simp only [allowFree, List.mem_cons, List.not_mem_nil, or_false] at hx
  rcases hx with rfl | rfl | rfl | rfl | rfl <;> decide +kernel
theorem ok_allowX {f d : Addr} (T : FT K mg "allows" s_allows ["kind", "word"] f) (C : AllX K w mg d) : ∃ fd, Fun K "allows" "allows" s_allows f fd ∧ Binds K fd ["kind", "word"] [] ∧ FnOk P w K mg base CX0 1 f fd ["kind", "word"] spAllowX := by
  obtain ⟨fd, F, b⟩ := T.fn
  refine ⟨fd, F, b, F.ok c_allows (fun vs H Q E h => ?_) (fun cdv A outer s H vs Q E hr h => ?_)⟩
  · obtain ⟨v, x, rfl, _⟩ := h
    rfl
  obtain ⟨v, x, rfl, hx, q⟩ := h
  obtain ⟨es, n, kd⟩ := C.kd
  refine ⟨_, pss_one (ps_ret (pe_or (pe_cmpR (op_notIn_kd kd) (pv 1) (pe_glob (v := .ref d) rfl C.g rfl) rfl) (pe_one (pe_cmpR op_in_seq (pv 0) (pe_ix (ix_kd kd) (pe_glob (v := .ref d) rfl C.g rfl) (pv 1) (fun _ _ => rfl)) rfl)))), ?_⟩
  unfold allowB at q
  rcases List.mem_append.mp hx with hx | hx
  · rw [lookup_free x hx] at q
    exact ⟨_, rfl, x, none, rfl, rfl, C.no x hx, true, rfl, q⟩
  · obtain ⟨p, hp, rfl⟩ := List.mem_map.mp hx
    obtain ⟨a, e, ha⟩ := C.yes p hp
    rw [lookup_mem p hp] at q
    refine ⟨_, rfl, p.1, some (.ref a), rfl, rfl, e, false, rfl, ?_⟩
    exact ⟨_, rfl, _, rfl, p.1, .ref a, .ref a, rfl, rfl, e, rfl, a, _, rfl, .inr (ha H), rfl, flat_strs _, q⟩
end
end H2
namespace H2
open PySem PySem.Spec PyProof.Rows L2 Hx Nd Dun
section
variable {P : Program} {w : World} {K : PySem.W.Frag} {mg : Str → Option Value} {base : Heap} {D : Addr}
/-! ### Walk, of any code -/
structure Way where
  ls : List Str
  os : List Str
  hm : Int
  ct : Int
  deriving DecidableEq
def keyW (v : Way) : NestedKey := keyOf v.ls v.os v.hm v.ct
theorem texts_inj : ∀ {a b : List Str}, a.map NestedKey.text = b.map NestedKey.text → a = b
  | [], [], _ => rfl
  | [], _ :: _, h => by cases h
  | _ :: _, [], h => by cases h
  | x :: a, y :: b, h => by
    rw [List.map_cons, List.map_cons] at h
    injection h with h1 h2
    injection h1 with h1
    rw [h1, texts_inj h2]
theorem keyW_inj {a b : Way} (h : keyW a = keyW b) : a = b := by
  obtain ⟨l1, o1, h1, c1⟩ := a
  obtain ⟨l2, o2, h2, c2⟩ := b
  unfold keyW keyOf at h
  injection h with h
  injection h with e1 h
  injection h with e2 h
  injection h with e3 h
  injection h with e4 h
  injection e1 with e1
  injection e2 with e2
  injection e3 with e3
  injection e4 with e4
  dsimp only at *
  rw [texts_inj e1, e2, e3, texts_inj e4]
theorem keyW_deep (v : Way) : (keyW v).depth ≤ 8 := key_deep _ _ _ _
def addW (ws : List Way) (v : Way) : List Way := if v ∈ ws then ws else ws ++ [v]
def dedW (xs : List Way) : List Way := xs.foldl addW []
theorem dedW_snoc (xs : List Way) (v : Way) : dedW (xs ++ [v]) = addW (dedW xs) v := by unfold dedW; rw [List.foldl_append]; rfl
theorem addW_len (ws : List Way) (v : Way) : (addW ws v).length ≤ ws.length + 1 := by
  unfold addW
  split
  · omega
  · simp
theorem dedW_len (xs : List Way) : (dedW xs).length ≤ xs.length := by
  suffices h : ∀ (ys acc : List Way), (ys.foldl addW acc).length ≤ acc.length + ys.length from by have := h xs []; unfold dedW; simpa using this
  intro ys
  induction ys with
  | nil => intro acc; simp
  | cons y r ih =>
    intro acc
    rw [List.foldl_cons, List.length_cons]
    have := ih (addW acc y)
    have := addW_len acc y
    omega
theorem dedW_mem {xs : List Way} {v : Way} (h : v ∈ dedW xs) : v ∈ xs := by
  suffices h : ∀ (ys acc : List Way), v ∈ ys.foldl addW acc → v ∈ acc ∨ v ∈ ys from (h xs [] ‹_›).resolve_left (by simp)
  intro ys
  induction ys with
  | nil => intro acc h; exact .inl h
  | cons y r ih =>
    intro acc h
    rw [List.foldl_cons] at h
    rcases ih _ h with h | h
    · unfold addW at h
      split at h
      · exact .inl h
      · rcases List.mem_append.mp h with h | h
        · exact .inl h
        · exact .inr (by rw [List.mem_singleton.mp h]; exact List.mem_cons_self)
    · exact .inr (List.mem_cons_of_mem _ h)
theorem any_keys (ks : Ks) (k : NestedKey) : (ks.any fun p => decide (p.1 = k)) = (ks.map (·.1)).any fun q => decide (q = k) := by
  induction ks with
  | nil => rfl
  | cons p r ih => rw [List.map_cons, List.any_cons, List.any_cons, ih]
theorem any_ways (ws : List Way) (v : Way) : ((ws.map keyW).any fun q => decide (q = keyW v)) = decide (v ∈ ws) := by
  induction ws with
  | nil => rfl
  | cons p r ih =>
    rw [List.map_cons, List.any_cons, ih]
    by_cases e : p = v
    · subst e; simp
    · have e1 : ¬ keyW p = keyW v := fun z => e (keyW_inj z)
      have e2 : ¬ v = p := fun z => e z.symm
      simp [e1, e2]
theorem putN_W {ks : Ks} {ws : List Way} {v : Way} {b : Addr} (h : ks.map (·.1) = ws.map keyW) : (putN ks (keyW v) b).map (·.1) = (addW ws v).map keyW := by
  unfold putN addW
  rw [any_keys, h, any_ways]
  by_cases e : v ∈ ws
  · simp [e, h]
  · simp [e, h]
def WayOk (v : Way) : Prop := LsOk v.ls ∧ v.os.length ≤ 3
/-- what a walk knows: the broken lines, the ways, the forks, whether it turns -/
structure WM where
  bs : List Int
  ws : List Way
  fs : List (List Way × List Way)
  tu : Bool
structure WalkX (K : PySem.W.Frag) (mg : Str → Option Value) (C : Addr) (m : Nat → Addr) : Prop where
  g : mg "Walk" = some (.ref C)
  mak : Mk K C (m 0)
  cl : Cls K C
  nk : NoAttr K C "kind"
  nb : NoAttr K C "broken"
  nw : NoAttr K C "ways"
  nf : NoAttr K C "forks"
  nt : NoAttr K C "turning"
  f0 : ∃ fd, Fun K "__init__" "Walk.__init__" s_Walk_init (m 0) fd ∧ Binds K fd ["self", "kind"] []
  f1 : MT K C "step" "Walk.step" s_Walk_step ["self", "line", "row"] (m 1)
  f2 : MT K C "begin_loop" "Walk.begin_loop" s_Walk_begin_loop ["self", "line", "word"] (m 2)
  f3 : MT K C "stay_in_loop" "Walk.stay_in_loop" s_Walk_stay_in_loop ["self", "line", "word"] (m 3)
  f4 : MT K C "fork" "Walk.fork" s_Walk_fork ["self", "line", "row"] (m 4)
  f5 : MT K C "pass_line" "Walk.pass_line" s_Walk_pass_line ["self", "line", "word"] (m 5)
  f6 : MT K C "end_ways" "Walk.end_ways" s_Walk_end_ways ["self"] (m 6)
def walkG (kd : V) (br wy fo : Addr) (t : Bool) : List (Str × V) := [("kind", kd), ("broken", .ref br), ("ways", .ref wy), ("forks", .ref fo), ("turning", .bl t)]
/-- the list at l holds the ways -/
def WLx (K : PySem.W.Frag) (H : Hp) (l : Addr) (ws : List Way) : Prop := (∃ xs, H l = some (.lst xs) ∧ NVs K H xs (ws.map keyW)) ∧ ∀ v ∈ ws, WayOk v
def FkOne (K : PySem.W.Frag) (H : Hp) (br fo : Addr) (v : V) (p : List Way × List Way) : Prop :=
  ∃ T l1 l2, v = .ref T ∧ SqT K H T [.ref l1, .ref l2] ∧ WLx K H l1 p.1 ∧ WLx K H l2 p.2 ∧ (l1 ≠ fo ∧ l1 ≠ br) ∧ (l2 ≠ fo ∧ l2 ≠ br)
inductive FkX (K : PySem.W.Frag) (H : Hp) (br fo : Addr) : List V → List (List Way × List Way) → Prop
  | nil : FkX K H br fo [] []
  | snoc {vs : List V} {ps : List (List Way × List Way)} {v : V} {p : List Way × List Way} : FkX K H br fo vs ps → FkOne K H br fo v p → FkX K H br fo (vs ++ [v]) (ps ++ [p])
theorem FkX.inv' {H : Hp} {br fo : Addr} {fl : List V} {qs : List (List Way × List Way)} (h : FkX K H br fo fl qs) : ∀ ps p, qs = ps ++ [p] → ∃ vs v, fl = vs ++ [v] ∧ FkX K H br fo vs ps ∧ FkOne K H br fo v p := by
  cases h with
  | nil => intro ps p e; exact absurd e (by simp)
  | snoc a b =>
    intro ps p e
    obtain ⟨e1, e2⟩ := List.append_inj' e rfl
    injection e2 with e2
    subst e1 e2
    exact ⟨_, _, rfl, a, b⟩
theorem FkX.inv {H : Hp} {br fo : Addr} {fl : List V} {ps : List (List Way × List Way)} {p : List Way × List Way} (h : FkX K H br fo fl (ps ++ [p])) : ∃ vs v, fl = vs ++ [v] ∧ FkX K H br fo vs ps ∧ FkOne K H br fo v p := h.inv' _ _ rfl
theorem FkX.len {H : Hp} {br fo : Addr} {fl : List V} {qs : List (List Way × List Way)} (h : FkX K H br fo fl qs) : fl.length = qs.length := by
  induction h with
  | nil => rfl
  | snoc a b ih => rw [List.length_append, List.length_append, ih]; rfl
theorem WLx.move {H H' : Hp} {l : Addr} {ws : List Way} (h : WLx K H l ws) (t : Tups H H') (e : ∀ ys, H l = some (.lst ys) → H' l = some (.lst ys)) : WLx K H' l ws := by
  obtain ⟨⟨xs, h1, h2⟩, h3⟩ := h
  exact ⟨⟨xs, e xs h1, NVs.keep t _ _ h2⟩, h3⟩
theorem FkX.move {H H' : Hp} {br fo : Addr} {fl : List V} {qs : List (List Way × List Way)} (h : FkX K H br fo fl qs) (t : Tups H H') (e : ∀ l ys, l ≠ fo → l ≠ br → H l = some (.lst ys) → H' l = some (.lst ys)) : FkX K H' br fo fl qs := by
  induction h with
  | nil => exact .nil
  | snoc a b ih =>
    obtain ⟨T, l1, l2, rfl, h1, h2, h3, n1, n2⟩ := b
    exact .snoc ih ⟨T, l1, l2, rfl, sqt_tups t h1, h2.move t (e l1 · n1.1 n1.2), h3.move t (e l2 · n2.1 n2.2), n1, n2⟩
/-- the walk at wk -/
structure WX (P : Program) (w : World) (K : PySem.W.Frag) (C : Addr) (H : Hp) (wk br fo : Addr) (kd : V) (m : WM) : Prop where
  ex : ∃ (dx wy : Addr) (ks : Ks) (fl : List V), H wk = some (.ins C dx (walkG kd br wy fo m.tu)) ∧ H br = some (.lst (m.bs.map V.int)) ∧ ND P w K H wy ks ∧ ks.map (·.1) = m.ws.map keyW ∧ H fo = some (.lst fl) ∧ FkX K H br fo fl m.fs
  ne : fo ≠ br
  ok : ∀ v ∈ m.ws, WayOk v
/-- all but three as it was -/
def B3 (a b c : Addr) (H H' : Hp) : Prop := ∀ d u, d ≠ a → d ≠ b → d ≠ c → H d = some u → H' d = some u
theorem B3.of {a b c : Addr} {H H' : Hp} (e : Same H H') : B3 a b c H H' := fun d u _ _ _ h => e d u h
theorem B3.refl (a b c : Addr) (H : Hp) : B3 a b c H H := fun _ _ _ _ _ h => h
theorem B3.trans {a b c : Addr} {H H1 H2 : Hp} (x : B3 a b c H H1) (y : B3 a b c H1 H2) : B3 a b c H H2 := fun d u n1 n2 n3 h => y d u n1 n2 n3 (x d u n1 n2 n3 h)
theorem B3.a {a b c : Addr} {H : Hp} {o : HO} : B3 a b c H (upd H a o) := fun d u n _ _ h => by rw [upd_ne n]; exact h
theorem B3.b {a b c : Addr} {H : Hp} {o : HO} : B3 a b c H (upd H b o) := fun d u _ n _ h => by rw [upd_ne n]; exact h
theorem B3.c {a b c : Addr} {H : Hp} {o : HO} : B3 a b c H (upd H c o) := fun d u _ _ n h => by rw [upd_ne n]; exact h
theorem nd_move {H H' : Hp} {a : Addr} {ks : Ks} (N : ND P w K H a ks) (e : H' a = H a) (t : Tups H H') : ND P w K H' a ks :=
  ⟨by rw [e]; exact N.at_, N.sm, N.ln, fun p hp => ⟨NV.keep t _ _ (N.nv p hp).1, (N.nv p hp).2⟩⟩
theorem nvs_of_ks {H : Hp} : ∀ {ks : Ks}, (∀ p ∈ ks, NV K H (.ref p.2) p.1) → NVs K H (ks.map fun p => V.ref p.2) (ks.map (·.1))
  | [], _ => .nil
  | p :: r, h => .cons (h p List.mem_cons_self) (nvs_of_ks fun q hq => h q (List.mem_cons_of_mem _ hq))
theorem nvs_get {H : Hp} : ∀ {xs : List V} {ks : List NestedKey} {i : Nat} {v : V}, NVs K H xs ks → xs[i]? = some v → ∃ k, ks[i]? = some k ∧ NV K H v k
  | _, _, 0, _, .cons a b, h => by
    rw [List.getElem?_cons_zero] at h
    cases h
    exact ⟨_, rfl, a⟩
  | _, _, i + 1, _, .cons a b, h => by
    rw [List.getElem?_cons_succ] at h
    obtain ⟨k, e, n⟩ := nvs_get b h
    exact ⟨k, by rw [List.getElem?_cons_succ]; exact e, n⟩
theorem way_get {H : Hp} {xs : List V} {ws : List Way} {i : Nat} {v : V} (h : NVs K H xs (ws.map keyW)) (e : xs[i]? = some v) : ∃ y, ws[i]? = some y ∧ NV K H v (keyW y) := by
  obtain ⟨k, e1, n⟩ := nvs_get h e
  rw [List.getElem?_map] at e1
  cases hy : ws[i]? with
  | none => rw [hy] at e1; cases e1
  | some y => rw [hy] at e1; cases e1; exact ⟨y, rfl, n⟩
theorem nvs_len {H : Hp} : ∀ {xs : List V} {ks : List NestedKey}, NVs K H xs ks → xs.length = ks.length
  | _, _, .nil => rfl
  | _, _, .cons _ b => by rw [List.length_cons, List.length_cons, nvs_len b]
theorem tups_new {H : Hp} {a : Addr} {o : HO} (h : H a = none) : Tups H (upd H a o) := Tups.of (new_same h)
/-- list(self.ways) -/
theorem ways_of {H : Hp} {wy : Addr} {ks : Ks} {ws : List Way} (N : ND P w K H wy ks) (e : ks.map (·.1) = ws.map keyW) : NVs K H (ks.map fun p => V.ref p.2) (ws.map keyW) := by
  rw [← e]
  exact nvs_of_ks fun p hp => (N.nv p hp).1
section
variable {C wk br fo : Addr} {kd : V} {m : WM} {H H' : Hp}
theorem WX.keep (h : WX P w K C H wk br fo kd m) (e : Same H H') : WX P w K C H' wk br fo kd m := by
  obtain ⟨⟨dx, wy, ks, fl, h1, h2, h3, h4, h6, h7⟩, n, ok⟩ := h
  exact ⟨⟨dx, wy, ks, fl, e _ _ h1, e _ _ h2, h3.keep e, h4, e _ _ h6, h7.move (Tups.of e) (fun l ys _ _ z => e _ _ z)⟩, n, ok⟩
/-- self.broken.append(n) -/
theorem WX.push (h : WX P w K C H wk br fo kd m) (n : Int) : WX P w K C (upd H br (.lst (m.bs.map V.int ++ [.int n]))) wk br fo kd { m with bs := m.bs ++ [n] } := by
  obtain ⟨⟨dx, wy, ks, fl, h1, h2, h3, h4, h6, h7⟩, ne, ok⟩ := h
  have t := tups_lst (o := .lst (m.bs.map V.int ++ [.int n])) h2
  refine ⟨⟨dx, wy, ks, fl, ?_, ?_, nd_move h3 (upd_ne (ne_of h3.at_ h2 (by intro z; cases z))) t, h4, ?_, h7.move t fun l ys _ nb z => by rw [upd_ne nb]; exact z⟩, ne, ok⟩
  · rw [upd_ne (ne_of h1 h2 (by intro z; cases z))]; exact h1
  · rw [upd_same, List.map_append]; rfl
  · rw [upd_ne ne]; exact h6
theorem WX.tups (h : WX P w K C H wk br fo kd m) (o : HO) : Tups H (upd H br o) := by
  obtain ⟨⟨dx, wy, ks, fl, h1, h2, h3, h4, h6, h7⟩, ne, ok⟩ := h
  exact tups_lst h2
/-- self.ways = .. -/
theorem WX.ways {wy' : Addr} {ks' : Ks} {ws' : List Way} {dx wy : Addr} (h : WX P w K C H wk br fo kd m) (h1 : H wk = some (.ins C dx (walkG kd br wy fo m.tu))) (N : ND P w K H wy' ks') (e : ks'.map (·.1) = ws'.map keyW) (ok : ∀ v ∈ ws', WayOk v) :
    WX P w K C (upd H wk (.ins C dx (walkG kd br wy' fo m.tu))) wk br fo kd { m with ws := ws' } := by
  obtain ⟨⟨dx2, wy2, ks, fl, h1', h2, h3, h4, h6, h7⟩, ne, _⟩ := h
  have nb : br ≠ wk := ne_of h2 h1 (by intro z; cases z)
  have nf : fo ≠ wk := ne_of h6 h1 (by intro z; cases z)
  have nw : wy' ≠ wk := ne_of N.at_ h1 (by intro z; cases z)
  refine ⟨⟨dx, wy', ks', fl, upd_same, by rw [upd_ne nb]; exact h2, nd_move N (upd_ne nw) (tups_ins h1), e, by rw [upd_ne nf]; exact h6, h7.move (tups_ins h1) fun l ys _ _ z => ?_⟩, ne, ok⟩
  rw [upd_ne (ne_of z h1 (by intro z; cases z))]
  exact z
end
/-- the bounds that a walk stays in -/
structure Bd (m : WM) : Prop where
  b : m.bs.length ≤ 1000000
  w : m.ws.length ≤ 300
  f : ∀ p ∈ m.fs, p.1.length ≤ 300 ∧ p.2.length ≤ 300
  k : m.fs.length ≤ 1000
end
end H2
namespace H2
open PySem PySem.Spec PyProof.Rows L2 Hx Nd Dun
section
variable {P : Program} {w : World} {K : PySem.W.Frag} {mg : Str → Option Value} {base : Heap} {D : Addr}
/-! #### Walk.__init__ -/
def way0 : Way := ⟨[], [], 0, 0⟩
def wm0 : WM := ⟨[], [way0], [], false⟩
def spWalkX (P : Program) (w : World) (K : PySem.W.Frag) (C : Addr) : Sp := fun vs H Q _ => ∃ (p dx : Addr) (kd : V), vs = [.ref p, kd] ∧ H p = some (.ins C dx []) ∧ ∀ H' br fo, But p H H' → H br = none → H fo = none → WX P w K C H' p br fo kd wm0 → Q .non H'
structure FreshX (K : PySem.W.Frag) (mg : Str → Option Value) (a : Addr) : Prop where
  g : mg "FRESH" = some (.ref a)
  w : ∀ H, NV K H (.ref a) (keyW way0)
theorem ok_WalkX {C aF : Addr} {m : Nat → Addr} (T : WalkX K mg C m) (cF : FreshX K mg aF) {fd : FuncData} (F : Fun K "__init__" "Walk.__init__" s_Walk_init (m 0) fd) : FnOk P w K mg base CX0 1 (m 0) fd ["self", "kind"] (spWalkX P w K C) := by
  refine F.ok c_Walk_init (fun vs H Q E h => ?_) (fun cdv A outer s H vs Q E hr h => ?_)
  · obtain ⟨p, dx, kd, rfl, _⟩ := h
    rfl
  obtain ⟨p, dx, kd, rfl, hp, q⟩ := h
  refine ⟨_, pss_cons (ps_fld (pv 0) (pv 1) rfl) (pss_cons (ps_fld (pv 0) (pe_lst pa_nil) rfl) (pss_cons (ps_fld (pv 0) (pe_ndone hr.units (pe_glob (v := .ref aF) rfl cF.g rfl) pe_bl) rfl) (pss_cons (ps_fld (pv 0) (pe_lst pa_nil) rfl) (pss_one (ps_fld (pv 0) pe_bl rfl))))), ?_⟩
  refine ⟨_, rfl, _, rfl, p, C, dx, _, rfl, hp, T.cl, T.nk, (by show 0 < 1000; decide), ?_⟩
  refine ⟨Nat.zero_le _, fun br nbr => ?_⟩
  obtain ⟨nbr1, nbrp⟩ := free_upd nbr
  refine ⟨_, rfl, p, C, dx, _, rfl, (new_same nbr) _ _ upd_same, T.cl, T.nb, (by show 1 < 1000; decide), ?_⟩
  refine fun wy nwy sm => ?_
  obtain ⟨nwy1, nwyp⟩ := free_upd nwy
  obtain ⟨nwy2, nwybr⟩ := free_upd nwy1
  refine ⟨aF, keyW way0, rfl, rfl, cF.w _, keyW_deep _, upd_same, ?_⟩
  rw [upd_upd]
  refine ⟨_, rfl, p, C, dx, _, rfl, (new_same nwy) _ _ upd_same, T.cl, T.nw, (by show 2 < 1000; decide), ?_⟩
  refine ⟨Nat.zero_le _, fun fo nfo => ?_⟩
  obtain ⟨nfo1, nfop⟩ := free_upd nfo
  obtain ⟨nfo2, nfowy⟩ := free_upd nfo1
  obtain ⟨nfo3, _⟩ := free_upd nfo2
  obtain ⟨nfo4, nfobr⟩ := free_upd nfo3
  obtain ⟨nfo5, _⟩ := free_upd nfo4
  refine ⟨_, rfl, p, C, dx, _, rfl, (new_same nfo) _ _ upd_same, T.cl, T.nf, (by show 3 < 1000; decide), ?_⟩
  refine ⟨_, rfl, p, C, dx, _, rfl, upd_same, T.cl, T.nt, (by show 4 < 1000; decide), ?_⟩
  rw [upd_upd]
  obtain ⟨nbr2, _⟩ := free_upd nbr
  refine q _ br fo (fun c u n h => ?_) nbr2 nfo5 ⟨⟨dx, wy, [(keyW way0, aF)], [], upd_same, ?_, ⟨?_, sm, (by show 1 ≤ 1000; decide), fun p hp => ?_⟩, rfl, ?_, .nil⟩, nfobr, fun v hv => ?_⟩
  · have c1 : c ≠ br := ne_of_none h nbr2
    have c2 : c ≠ fo := ne_of_none h nfo5
    have c3 : c ≠ wy := fun e => by
      rw [e] at h
      have := free_upd nwy2
      rw [this.1] at h
      cases h
    rw [upd_ne n, upd_ne c2, upd_ne n, upd_ne c3, upd_ne n, upd_ne c1, upd_ne n]
    exact h
  · rw [upd_ne nbrp, upd_ne nfobr.symm, upd_ne nbrp, upd_ne nwybr.symm, upd_ne nbrp, upd_same]
    rfl
  · rw [upd_ne nwyp, upd_ne nfowy.symm, upd_ne nwyp, upd_same]
    rfl
  · simp at hp
    rw [hp]
    exact ⟨cF.w _, keyW_deep _⟩
  · rw [upd_ne nfop, upd_same]
  · rw [List.mem_singleton.mp hv]
    exact ⟨.nil, Nat.zero_le _⟩
/-! #### end_ways -/
def homesOf (ws : List Way) : List Int := (ws.filter fun v => v.hm != 0).map (·.hm)
theorem homesOf_len (ws : List Way) : (homesOf ws).length ≤ ws.length := by unfold homesOf; rw [List.length_map]; exact List.length_filter_le _ _
theorem homesOf_snoc (ws : List Way) (v : Way) : homesOf (ws ++ [v]) = homesOf ws ++ (if (v.hm != 0) = true then [v.hm] else []) := by
  unfold homesOf
  rw [List.filter_append, List.map_append]
  congr 1
  rw [List.filter_cons, List.filter_nil]
  split <;> rfl
def endM (m : WM) : WM := { m with bs := m.bs ++ homesOf m.ws, ws := [] }
def spEndX (P : Program) (w : World) (K : PySem.W.Frag) (C : Addr) : Sp := fun vs H Q _ => ∃ (wk br fo : Addr) (kd : V) (m : WM), vs = [.ref wk] ∧ WX P w K C H wk br fo kd m ∧ m.bs.length ≤ 2000000 ∧ m.ws.length ≤ 300 ∧ ∀ H', B3 wk br fo H H' → WX P w K C H' wk br fo kd (endM m) → Q .non H'
theorem big {n : Nat} (h : n ≤ 4000000) : n < sizeLine := Nat.lt_of_le_of_lt h (by decide)
theorem ok_endX {C : Addr} {m : Nat → Addr} (T : WalkX K mg C m) (lst : mg "list" = none) : ∃ fd, Fun K "end_ways" "Walk.end_ways" s_Walk_end_ways (m 6) fd ∧ Binds K fd ["self"] [] ∧ FnOk P w K mg base CX0 1 (m 6) fd ["self"] (spEndX P w K C) := by
  obtain ⟨fd, F, b⟩ := T.f6.fn
  refine ⟨fd, F, b, F.ok c_Walk_end_ways (fun vs H Q E h => ?_) (fun cdv A outer s H vs Q E hr h => ?_)⟩
  · obtain ⟨wk, br, fo, kd, o, rfl, _⟩ := h
    rfl
  obtain ⟨wk, br, fo, kd, M, rfl, hw, hB, hW, q⟩ := h
  refine ⟨_, pss_cons (ps_for PassesOwn.never rfl (pi_list (pe_callTy (call_listNd rfl) (by rfl) lst (by decide +kernel) (pa_cons (pe_fld (pv 0) rfl) pa_nil)))
      (pg_tup rfl (pgs_cons (pg_name (i := 1) c_Walk_end_ways.nd rfl (Or.inl rfl)) (pgs_cons (pg_name (i := 2) c_Walk_end_ways.nd rfl (Or.inl rfl)) (pgs_cons (pg_name (i := 1) c_Walk_end_ways.nd rfl (Or.inl rfl)) (pgs_cons (pg_name (i := 1) c_Walk_end_ways.nd rfl (Or.inl rfl)) pgs_nil)))))
      (pss_one (ps_if (pt_truth (pv 2) (by intro _; rfl)) (pss_one (ps_expr (pe_bm PySem.F.plainAttrs_list PySem.F.slot_list_append PySem.F.type_list_append mt_append (pe_fld (pv 0) rfl) (pa_cons (pv 2) pa_nil)))) pss_nil)))
    (pss_one (ps_fld (pv 0) Nd.pe_ndnew rfl)), ?_⟩
  obtain ⟨⟨dx, wy, ks, fl, h1, h2, h3, h4, h6, h7⟩, ne, ok⟩ := id hw
  refine ⟨_, rfl, wk, C, dx, _, _, rfl, h1, T.cl, T.nw, rfl, wy, ks, rfl, h3, fun l nl => ?_⟩
  have sl := new_same (o := .lst (ks.map fun p => V.ref p.2)) nl
  have hxs := NVs.keep (Tups.of sl) _ _ (ways_of h3 h4)
  have hlb : l ≠ br := fun e => by rw [e, h2] at nl; cases nl
  have hlen : (ks.map fun p => V.ref p.2).length = M.ws.length := by rw [nvs_len hxs, List.length_map]
  refine ⟨l, rfl, ⟨_, SqL.of upd_same⟩, for_list (K := K) (a := l) (xs := ks.map fun p => V.ref p.2) (fun i σ G => ∃ v1 v2, σ = [some (.ref wk), v1, v2] ∧ B3 wk br fo H G ∧ Tups (upd H l (.lst (ks.map fun p => V.ref p.2))) G ∧ G l = some (.lst (ks.map fun p => V.ref p.2)) ∧ WX P w K C G wk br fo kd { M with bs := M.bs ++ homesOf (M.ws.take i) })
    ⟨none, none, rfl, B3.of sl, fun _ _ z => z, upd_same, ?_⟩ ?_ ?_ ?_⟩
  · have := hw.keep sl
    rw [show ({ M with bs := M.bs ++ homesOf (M.ws.take 0) } : WM) = M from by rw [List.take_zero]; show ({ M with bs := M.bs ++ [] } : WM) = M; rw [List.append_nil]]
    exact this
  · rintro i σ G _ ⟨v1, v2, rfl, _, _, e, _⟩
    exact SqL.of e
  · rintro i v σ G hi ⟨v1, v2, rfl, bG, tG, eG, wG⟩
    obtain ⟨y, hy, hv⟩ := way_get hxs hi
    obtain ⟨a, b1, c1, rfl, ha, hb, hc⟩ := nv_inv (NV.keep tG _ _ hv)
    have et : M.ws.take (i + 1) = M.ws.take i ++ [y] := by rw [List.take_add_one, hy]; rfl
    refine ⟨a, _, rfl, ha, rfl, _, _, rfl, _, _, rfl, _, _, rfl, _, _, rfl, rfl, ?_⟩
    refine ⟨_, rfl, _, rfl, iteB (fun h0 => ?_) (fun h0 => ?_)⟩
    · obtain ⟨⟨dx', wy', ks', fl', g1, g2, _⟩, _, _⟩ := id wG
      refine ⟨_, rfl, wk, C, dx', _, _, rfl, g1, T.cl, T.nb, rfl, .inl ⟨rfl, _, SqL.of g2⟩, _, rfl, br, _, _, rfl, rfl, g2, ?_, ?_⟩
      · rw [List.length_map, List.length_append]
        have := homesOf_len (M.ws.take i)
        have : (M.ws.take i).length ≤ 300 := Nat.le_trans (by rw [List.length_take]; exact Nat.min_le_right _ _) hW
        exact big (by omega)
      · refine ⟨_, _, rfl, bG.trans B3.b, tG.trans (wG.tups _), by rw [upd_ne hlb]; exact eG, ?_⟩
        have := wG.push y.hm
        rw [et, homesOf_snoc, if_pos h0, ← List.append_assoc]
        exact this
    · refine ⟨_, _, rfl, bG, tG, eG, ?_⟩
      rw [et, homesOf_snoc, if_neg (by rw [show (y.hm != 0) = false from h0]; decide), List.append_nil]
      exact wG
  · rintro σ G ⟨v1, v2, rfl, bG, tG, eG, wG⟩
    rw [hlen, List.take_length] at wG
    refine fun d nd sm => ?_
    have s1 := new_same (o := ndO P w d []) nd
    have w1 := wG.keep s1
    obtain ⟨⟨dx', wy', ks', fl', g1, g2, _⟩, _, _⟩ := id w1
    refine ⟨_, rfl, wk, C, dx', _, rfl, g1, T.cl, T.nw, (by show 5 < 1000; decide), ?_⟩
    refine q _ ((bG.trans (B3.of s1)).trans B3.a) ?_
    exact w1.ways (ws' := []) g1 (Nd.nd_new (K := K) sm) rfl (fun v hv => by cases hv)
/-! #### stay_in_loop -/
def stayM (m : WM) (n : Int) (x : Str) : WM := if (decide (V.str x = V.str "swap") && m.tu) = true then { m with bs := m.bs ++ [n] } else m
abbrev psPL : List Str := ["self", "line", "word"]
def spStayX (P : Program) (w : World) (K : PySem.W.Frag) (C : Addr) : Sp := fun vs H Q _ => ∃ (wk br fo : Addr) (kd : V) (n : Int) (x : Str) (m : WM), vs = [.ref wk, .int n, .str x] ∧ WX P w K C H wk br fo kd m ∧ m.bs.length ≤ 2000000 ∧ ∀ H', B3 wk br fo H H' → WX P w K C H' wk br fo kd (stayM m n x) → Q .non H'
theorem ok_stayX {C : Addr} {m : Nat → Addr} (T : WalkX K mg C m) : ∃ fd, Fun K "stay_in_loop" "Walk.stay_in_loop" s_Walk_stay_in_loop (m 3) fd ∧ Binds K fd psPL [] ∧ FnOk P w K mg base CX0 1 (m 3) fd psPL (spStayX P w K C) := by
  obtain ⟨fd, F, b⟩ := T.f3.fn
  refine ⟨fd, F, b, F.ok c_Walk_stay_in_loop (fun vs H Q E h => ?_) (fun cdv A outer s H vs Q E hr h => ?_)⟩
  · obtain ⟨wk, br, fo, kd, n, x, o, rfl, _⟩ := h
    rfl
  obtain ⟨wk, br, fo, kd, n, x, M, rfl, hw, hB, q⟩ := h
  refine ⟨_, pss_one (ps_if (PW.pt (pw_and (pt_cmpR op_eq (pv 2) pe_str (nomark _)) (pw_and1 (pt_truth (pe_fld (pv 0) rfl) (by intro _; rfl)))))
    (pss_one (ps_expr (pe_bm PySem.F.plainAttrs_list PySem.F.slot_list_append PySem.F.type_list_append mt_append (pe_fld (pv 0) rfl) (pa_cons (pv 1) pa_nil)))) pss_nil), ?_⟩
  obtain ⟨⟨dx, wy, ks, fl, h1, h2, h3, h4, h6, h7⟩, ne, ok⟩ := id hw
  refine ⟨_, rfl, rfl, _, rfl, ite2 (fun h => ?_) (fun h => ?_)⟩
  · refine ⟨_, rfl, wk, C, dx, _, _, rfl, h1, T.cl, T.nt, rfl, M.tu, rfl, iteB (fun g => ?_) (fun g => ?_)⟩
    · refine ⟨_, rfl, wk, C, dx, _, _, rfl, h1, T.cl, T.nb, rfl, .inl ⟨rfl, _, SqL.of h2⟩, _, rfl, br, _, _, rfl, rfl, h2, ?_, ?_⟩
      · rw [List.length_map]
        exact big (by omega)
      · refine q _ B3.b ?_
        have e : stayM M n x = { M with bs := M.bs ++ [n] } := by
          unfold stayM
          rw [if_pos (by rw [h, show M.tu = true from g]; rfl)]
        rw [e]
        exact hw.push n
    · refine q _ (B3.refl _ _ _ _) ?_
      unfold stayM
      rw [if_neg (by rw [show M.tu = false from g, Bool.and_false]; decide)]
      exact hw
  · refine iteF (q _ (B3.refl _ _ _ _) ?_)
    unfold stayM
    rw [show decide (V.str x = V.str "swap") = false from by simpa using h, Bool.false_and, if_neg (by decide)]
    exact hw
end
end H2
namespace H2
open PySem PySem.Spec PyProof.Rows L2 Hx Nd Dun
section
variable {P : Program} {w : World} {K : PySem.W.Frag} {mg : Str → Option Value} {base : Heap} {D : Addr}
/-! #### pass_line -/
def behindW (n : Int) (x : Str) (v : Way) : Way := ⟨v.ls, onceOf v.os x, firstB (decide (V.str x = V.str "to start")) v.ls v.hm n, firstB (decide (V.str x = V.str "shorter")) v.ls v.ct n⟩
theorem behindW_ok {n : Int} {x : Str} {v : Way} (h : WayOk v) : WayOk (behindW n x v) := ⟨h.1, onceOf_len _ _⟩
def badB (kd x : Str) (v : Way) : Bool := !allowB kd x || !keepsB v.ls v.os v.hm x
def badsOf (kd x : Str) (n : Int) (ws : List Way) : List Int := (ws.filter (badB kd x)).map fun _ => n
theorem badsOf_len (kd x : Str) (n : Int) (ws : List Way) : (badsOf kd x n ws).length ≤ ws.length := by unfold badsOf; rw [List.length_map]; exact List.length_filter_le _ _
theorem badsOf_snoc (kd x : Str) (n : Int) (ws : List Way) (v : Way) : badsOf kd x n (ws ++ [v]) = badsOf kd x n ws ++ (if badB kd x v = true then [n] else []) := by
  unfold badsOf
  rw [List.filter_append, List.map_append]
  congr 1
  rw [List.filter_cons, List.filter_nil]
  split <;> rfl
def passM1 (kd : Str) (m : WM) (n : Int) (x : Str) : WM := { m with bs := m.bs ++ badsOf kd x n m.ws }
def passM2 (kd : Str) (m : WM) (n : Int) (x : Str) : WM := if decide (V.str x = V.str "quit") = true then endM (passM1 kd m n x) else passM1 kd m n x
def passM (kd : Str) (m : WM) (n : Int) (x : Str) : WM := { passM2 kd m n x with ws := dedW ((passM2 kd m n x).ws.map (behindW n x)) }
theorem passM1_len (kd : Str) (m : WM) (n : Int) (x : Str) : (passM1 kd m n x).bs.length ≤ m.bs.length + m.ws.length := by
  unfold passM1
  rw [List.length_append]
  have := badsOf_len kd x n m.ws
  omega
theorem passM2_ws (kd : Str) (m : WM) (n : Int) (x : Str) : (passM2 kd m n x).ws.length ≤ m.ws.length := by
  unfold passM2
  split
  · exact Nat.zero_le _
  · exact Nat.le_refl _
theorem len_of_keys {ks : Ks} {ws : List Way} (h : ks.map (·.1) = ws.map keyW) : ks.length = ws.length := by
  have := congrArg List.length h
  rwa [List.length_map, List.length_map] at this
theorem ded_take {n : Int} {x : Str} {ws : List Way} {i : Nat} {y : Way} (h : ws[i]? = some y) : dedW ((ws.take (i + 1)).map (behindW n x)) = addW (dedW ((ws.take i).map (behindW n x))) (behindW n x y) := by
  rw [List.take_add_one, h, List.map_append]
  exact dedW_snoc _ _
def spPassX (P : Program) (w : World) (K : PySem.W.Frag) (C : Addr) : Sp := fun vs H Q _ => ∃ (wk br fo : Addr) (kd : Str) (n : Int) (x : Str) (m : WM), vs = [.ref wk, .int n, .str x] ∧ x ∈ allowWords ∧ WX P w K C H wk br fo (.str kd) m ∧ m.bs.length ≤ 1000000 ∧ m.ws.length ≤ 300 ∧ ∀ H', B3 wk br fo H H' → WX P w K C H' wk br fo (.str kd) (passM kd m n x) → Q .non H'
theorem ok_passX {C g1 g2 g3 : Addr} {m : Nat → Addr} (T : WalkX K mg C m) (lst : mg "list" = none) {d1 d2 d3 : FuncData}
    (F1 : Fun K "allows" "allows" s_allows g1 d1) (b1 : Binds K d1 ["kind", "word"] []) (m1 : mg "allows" = some (.ref g1)) (G1 : FnOk P w K mg base CX0 1 g1 d1 ["kind", "word"] spAllowX)
    (F2 : Fun K "keeps_order" "keeps_order" s_keeps_order g2 d2) (b2 : Binds K d2 ["way", "word"] []) (m2 : mg "keeps_order" = some (.ref g2)) (G2 : FnOk P w K mg base CX0 1 g2 d2 ["way", "word"] (spKeeps K))
    (F3 : Fun K "way_behind" "way_behind" s_way_behind g3 d3) (b3 : Binds K d3 ["way", "line", "word"] []) (m3 : mg "way_behind" = some (.ref g3)) (G3 : FnOk P w K mg base CX0 1 g3 d3 ["way", "line", "word"] (spBehind K)) :
    ∃ fd, Fun K "pass_line" "Walk.pass_line" s_Walk_pass_line (m 5) fd ∧ Binds K fd psPL [] ∧ FnOk P w K mg base CX0 2 (m 5) fd psPL (spPassX P w K C) := by
  obtain ⟨fd, F, b⟩ := T.f5.fn
  obtain ⟨d6, F6, b6, G6⟩ := ok_endX (P := P) (w := w) (base := base) T lst
  refine ⟨fd, F, b, F.ok c_Walk_pass_line (fun vs H Q E h => ?_) (fun cdv A outer s H vs Q E hr h => ?_)⟩
  · obtain ⟨wk, br, fo, kd, n, x, o, rfl, _⟩ := h
    rfl
  obtain ⟨wk, br, fo, kd, n, x, M, rfl, hx, hw, hB, hW, q⟩ := h
  refine ⟨_, pss_cons (ps_for PassesOwn.never rfl (pi_list (pe_callTy (call_listNd rfl) (by rfl) lst (by decide +kernel) (pa_cons (pe_fld (pv 0) rfl) pa_nil))) (pg_name (i := 3) c_Walk_pass_line.nd rfl (Or.inl rfl))
      (pss_one (ps_if (PW.pt (pw_or (pt_not (pt_val (pe_call G1 hr rfl m1 F1.kp b1 .nil pass0 (pa_cons (pe_fld (pv 0) rfl) (pa_cons (pv 2) pa_nil))))) (pw_or1 (pt_not (pt_val (pe_call G2 hr rfl m2 F2.kp b2 .nil pass0 (pa_cons (pv 3) (pa_cons (pv 2) pa_nil)))))))) (pss_one (ps_expr (pe_bm PySem.F.plainAttrs_list PySem.F.slot_list_append PySem.F.type_list_append mt_append (pe_fld (pv 0) rfl) (pa_cons (pv 1) pa_nil)))) pss_nil)))
    (Evl.pss_cut (ps_if (pt_cmpR op_eq (pv 2) pe_str (nomark _)) (pss_one (ps_expr (pe_meth0 (pv 0) T.cl T.f6.m G6 hr b6 .nil pass0))) pss_nil)
    (pss_one (ps_fld (pv 0) (Nd.pe_ndc (own := [("way", 3)]) (g := gName 3) (tt := tYes) rfl c_Walk_pass_line.nd hr.units (pi_list (pe_callTy (call_listNd rfl) (by rfl) lst (by decide +kernel) (pa_cons (pe_fld (pv 0) rfl) pa_nil))) (blkOk_by (own := [("way", 3)]) (N := n_Walk_pass_line) (sc := defScope s_Walk_pass_line) (by decide +kernel))
      (fun _ _ _ _ _ => pg_name (i := 3) c_Walk_pass_line.nd rfl (Or.inl rfl)) (fun _ _ _ _ _ => pts_nil) (fun _ _ _ _ _ => pe_call G3 hr rfl m3 F3.kp b3 .nil pass0 (pa_cons (pv 3) (pa_cons (pv 1) (pa_cons (pv 2) pa_nil)))) (fun _ _ _ _ _ => pe_bl)) rfl))), ?_⟩
  obtain ⟨⟨dx, wy, ks, fl, h1, h2, h3, h4, h6, h7⟩, ne, ok⟩ := id hw
  refine ⟨_, rfl, wk, C, dx, _, _, rfl, h1, T.cl, T.nw, rfl, wy, ks, rfl, h3, fun l nl => ?_⟩
  have sl := new_same (o := .lst (ks.map fun p => V.ref p.2)) nl
  have hxs := NVs.keep (Tups.of sl) _ _ (ways_of h3 h4)
  have hlb : l ≠ br := fun e => by rw [e, h2] at nl; cases nl
  have hlen : (ks.map fun p => V.ref p.2).length = M.ws.length := by rw [nvs_len hxs, List.length_map]
  refine ⟨l, rfl, ⟨_, SqL.of upd_same⟩, for_list (K := K) (a := l) (xs := ks.map fun p => V.ref p.2) (fun i σ G => ∃ v3, σ = [some (.ref wk), some (.int n), some (.str x), v3] ∧ B3 wk br fo H G ∧ Tups (upd H l (.lst (ks.map fun p => V.ref p.2))) G ∧ G l = some (.lst (ks.map fun p => V.ref p.2)) ∧ WX P w K C G wk br fo (.str kd) { M with bs := M.bs ++ badsOf kd x n (M.ws.take i) })
    ⟨none, rfl, B3.of sl, fun _ _ z => z, upd_same, ?_⟩ ?_ ?_ ?_⟩
  · have := hw.keep sl
    rw [show ({ M with bs := M.bs ++ badsOf kd x n (M.ws.take 0) } : WM) = M from by rw [List.take_zero]; show ({ M with bs := M.bs ++ [] } : WM) = M; rw [List.append_nil]]
    exact this
  · rintro i σ G _ ⟨v3, rfl, _, _, e, _⟩
    exact SqL.of e
  · rintro i v σ G hi ⟨v3, rfl, bG, tG, eG, wG⟩
    obtain ⟨y, hy, hv⟩ := way_get hxs hi
    have hyk : WayOk y := ok y (List.mem_of_getElem? hy)
    have et : M.ws.take (i + 1) = M.ws.take i ++ [y] := by rw [List.take_add_one, hy]; rfl
    have hroom : ((M.bs ++ badsOf kd x n (M.ws.take i)).map V.int).length < sizeLine := by
      rw [List.length_map, List.length_append]
      have := badsOf_len kd x n (M.ws.take i)
      have : (M.ws.take i).length ≤ 300 := Nat.le_trans (by rw [List.length_take]; exact Nat.min_le_right _ _) hW
      exact big (by omega)
    obtain ⟨⟨dx', wy', ks', fl', g1, g2, _⟩, _, _⟩ := id wG
    refine ⟨_, rfl, wk, C, dx', _, _, rfl, g1, T.cl, T.nk, rfl, _, rfl, kd, x, rfl, hx, _, rfl, iteB (fun h0 => ?_) (fun h0 => ?_)⟩
    · refine ⟨_, rfl, wk, C, dx', _, _, rfl, g1, T.cl, T.nb, rfl, .inl ⟨rfl, _, SqL.of g2⟩, _, rfl, br, _, _, rfl, rfl, g2, hroom, ?_⟩
      refine ⟨_, rfl, bG.trans B3.b, tG.trans (wG.tups _), by rw [upd_ne hlb]; exact eG, ?_⟩
      have := wG.push n
      rw [et, badsOf_snoc, if_pos (by unfold badB; rw [h0, Bool.true_or]), ← List.append_assoc]
      exact this
    · refine ⟨_, rfl, _, rfl, v, x, y.ls, y.os, y.hm, y.ct, rfl, NV.keep tG _ _ hv, hyk.1, hyk.2, fun G2 c s2 hc => ⟨_, rfl, iteB (fun h5 => ?_) (fun h5 => ?_)⟩⟩
      · have e2 := s2 _ _ g2
        refine ⟨_, rfl, wk, C, dx', _, _, rfl, s2 _ _ g1, T.cl, T.nb, rfl, .inl ⟨rfl, _, SqL.of e2⟩, _, rfl, br, _, _, rfl, rfl, e2, hroom, ?_⟩
        have w2 := wG.keep s2
        refine ⟨_, rfl, (bG.trans (B3.of s2)).trans B3.b, (tG.trans (Tups.of s2)).trans (w2.tups _), by rw [upd_ne hlb]; exact s2 _ _ eG, ?_⟩
        have := w2.push n
        rw [et, badsOf_snoc, if_pos (by unfold badB; rw [← hc, h5, Bool.or_true]), ← List.append_assoc]
        exact this
      · refine ⟨_, rfl, bG.trans (B3.of s2), tG.trans (Tups.of s2), s2 _ _ eG, ?_⟩
        rw [et, badsOf_snoc, if_neg (by unfold badB; rw [← hc, h0, h5]; decide), List.append_nil]
        exact wG.keep s2
  · rintro σ G ⟨v3, rfl, bG, tG, eG, wG⟩
    rw [hlen, List.take_length] at wG
    have hlen1 := passM1_len kd M n x
    refine ⟨fun σ G => ∃ v3, σ = [some (.ref wk), some (.int n), some (.str x), v3] ∧ B3 wk br fo H G ∧ WX P w K C G wk br fo (.str kd) (passM2 kd M n x), ?_, ?_⟩
    · obtain ⟨⟨dx', wy', ks', fl', g1, g2, _⟩, _, _⟩ := id wG
      refine ⟨_, rfl, rfl, _, rfl, ite2 (fun hq => ?_) (fun hq => ?_)⟩
      · refine ⟨_, rfl, wk, dx', _, rfl, g1, rfl, wk, br, fo, .str kd, passM1 kd M n x, rfl, wG, by omega, hW, fun G2 b2 w2 => ?_⟩
        refine ⟨_, rfl, bG.trans b2, ?_⟩
        unfold passM2
        rw [if_pos hq]
        exact w2
      · refine ⟨_, rfl, bG, ?_⟩
        unfold passM2
        rw [if_neg hq]
        exact wG
    · rintro σ G ⟨v3, rfl, bG, wG⟩
      obtain ⟨⟨dx, wy, ks, fl, h1, h2, h3, h4, h6, h7⟩, ne, ok⟩ := id wG
      refine ⟨_, rfl, wk, C, dx, _, _, rfl, h1, T.cl, T.nw, rfl, wy, ks, rfl, h3, fun l nl => ?_⟩
      have sl := new_same (o := .lst (ks.map fun p => V.ref p.2)) nl
      have hxs := NVs.keep (Tups.of sl) _ _ (ways_of h3 h4)
      have hlen : (ks.map fun p => V.ref p.2).length = (passM2 kd M n x).ws.length := by rw [nvs_len hxs, List.length_map]
      refine ⟨l, rfl, ⟨_, SqL.of upd_same⟩, fun D nD sm => ndc_list (K := K) (a := l) (xs := ks.map fun p => V.ref p.2) (fun i G2 => Same (upd G l (.lst (ks.map fun p => V.ref p.2))) G2 ∧ ∃ js : Ks, ND P w K G2 D js ∧ js.map (·.1) = (dedW (((passM2 kd M n x).ws.take i).map (behindW n x))).map keyW)
        ⟨new_same nD, [], Nd.nd_new sm, rfl⟩ ?_ ?_ ?_⟩
      · rintro i G2 _ ⟨s2, _⟩
        exact SqL.of (s2 _ _ upd_same)
      · rintro i v G2 hi ⟨s2, js, N, ej⟩
        obtain ⟨y, hy, hv⟩ := way_get hxs hi
        have hyk : WayOk y := ok y (List.mem_of_getElem? hy)
        refine ⟨rfl, ?_⟩
        unfold tYes
        dsimp only
        rw [if_pos rfl]
        refine ⟨_, rfl, _, rfl, _, rfl, v, n, x, y.ls, y.os, y.hm, y.ct, rfl, NV.keep (Tups.of s2) _ _ hv, hyk.1, hyk.2, fun G3 b s3 hb => ?_⟩
        have N3 := N.keep s3
        have hj : js.length < 1000 := by
          rw [len_of_keys ej]
          have a1 := dedW_len (((passM2 kd M n x).ws.take i).map (behindW n x))
          rw [List.length_map, List.length_take] at a1
          have a2 := passM2_ws kd M n x
          omega
        refine ⟨b, js, keyW (behindW n x y), rfl, rfl, N3, hj, hb, keyW_deep _, same_out (s2.trans s3) nD, _, N3.put hj hb (keyW_deep _), ?_⟩
        rw [ded_take hy]
        exact putN_W ej
      · rintro G2 ⟨s2, js, N, ej⟩
        rw [hlen, List.take_length] at ej
        have sG2 := sl.trans s2
        have w2 := wG.keep sG2
        refine ⟨_, rfl, wk, C, dx, _, rfl, sG2 _ _ h1, T.cl, T.nw, (by show 5 < 1000; decide), ?_⟩
        refine q _ (bG.trans ((B3.of sG2).trans B3.a)) ?_
        refine w2.ways (sG2 _ _ h1) N ej fun v hv => ?_
        obtain ⟨y, hy, rfl⟩ := List.mem_map.mp (dedW_mem hv)
        exact behindW_ok (ok y hy)
end
end H2
namespace H2
open PySem PySem.Spec PyProof.Rows L2 Hx Nd Dun
section
variable {P : Program} {w : World} {K : PySem.W.Frag} {mg : Str → Option Value} {base : Heap} {D : Addr}
/-! #### begin_loop -/
theorem inV_strs {x : Str} {ls : List Str} : inV (.str x) (ls.map V.str) = true ↔ x ∈ ls := by
  induction ls with
  | nil => simp [inV]
  | cons y r ih =>
    have e : inV (.str x) ((y :: r).map V.str) = (eqV (.str y) (.str x) || inV (.str x) (r.map V.str)) := by unfold inV; rw [List.map_cons, List.any_cons]
    have e2 : eqV (.str y) (.str x) = true ↔ y = x := by simp [eqV]
    rw [e, Bool.or_eq_true, ih, e2, List.mem_cons]
    constructor
    · rintro (h | h)
      · exact .inl h.symm
      · exact .inr h
    · rintro (h | h)
      · exact .inl h.symm
      · exact .inr h
def beginB (n : Int) (x : Str) (v : Way) : List Int := (if (v.ct != 0) = true then [v.ct] else []) ++ (if mayB v.ls v.hm x = true then [] else [n])
def beginBs (n : Int) (x : Str) (ws : List Way) : List Int := (ws.map (beginB n x)).flatten
def beginW (x : Str) (v : Way) : Way := ⟨v.ls ++ [x], v.os, 0, 0⟩
def beginWs (x : Str) (ws : List Way) : List Way := dedW ((ws.filter fun v => mayB v.ls v.hm x).map (beginW x))
def turnsB (x : Str) (ws : List Way) : Bool := (ws.map fun v => turnB v.ls v.hm x).any id
def beginM (m : WM) (n : Int) (x : Str) : WM := ⟨m.bs ++ beginBs n x m.ws, beginWs x m.ws, m.fs, turnsB x m.ws⟩
theorem beginB_len (n : Int) (x : Str) (v : Way) : (beginB n x v).length ≤ 2 := by
  unfold beginB
  rw [List.length_append]
  split <;> split <;> simp
theorem beginBs_len (n : Int) (x : Str) (ws : List Way) : (beginBs n x ws).length ≤ 2 * ws.length := by
  unfold beginBs
  induction ws with
  | nil => simp
  | cons v r ih =>
    rw [List.map_cons, List.flatten_cons, List.length_append, List.length_cons]
    have := beginB_len n x v
    omega
theorem beginBs_take {n : Int} {x : Str} {ws : List Way} {i : Nat} {y : Way} (h : ws[i]? = some y) : beginBs n x (ws.take (i + 1)) = beginBs n x (ws.take i) ++ beginB n x y := by
  unfold beginBs
  rw [List.take_add_one, h, List.map_append, List.flatten_append]
  show _ ++ (beginB n x y ++ []) = _
  rw [List.append_nil]
theorem beginWs_take {x : Str} {ws : List Way} {i : Nat} {y : Way} (h : ws[i]? = some y) : beginWs x (ws.take (i + 1)) = if mayB y.ls y.hm x = true then addW (beginWs x (ws.take i)) (beginW x y) else beginWs x (ws.take i) := by
  unfold beginWs
  rw [List.take_add_one, h, List.filter_append, List.map_append]
  show dedW (_ ++ ([y].filter _).map _) = _
  rw [List.filter_cons, List.filter_nil]
  by_cases e : mayB y.ls y.hm x = true
  · rw [if_pos e, if_pos e]
    exact dedW_snoc _ _
  · rw [if_neg e, if_neg e, List.map_nil, List.append_nil]
theorem beginWs_len (x : Str) (ws : List Way) : (beginWs x ws).length ≤ ws.length := by
  unfold beginWs
  refine Nat.le_trans (dedW_len _) ?_
  rw [List.length_map]
  exact List.length_filter_le _ _
theorem may_mem {ls : List Str} {hm : Int} {x : Str} (h : mayB ls hm x = true) : x ∉ ls := by
  unfold mayB at h
  rw [Bool.and_eq_true] at h
  intro z
  have := inV_strs.mpr z
  rw [this] at h
  exact absurd h.1 (by decide)
theorem beginW_ok {x : Str} {v : Way} (h : WayOk v) (hx : isLoop x = true) (hm : mayB v.ls v.hm x = true) : WayOk (beginW x v) := ⟨h.1.snoc hx (may_mem hm), h.2⟩
theorem beginWs_ok {x : Str} {ws : List Way} (hx : isLoop x = true) (ok : ∀ v ∈ ws, WayOk v) : ∀ v ∈ beginWs x ws, WayOk v := by
  intro v hv
  obtain ⟨y, hy, rfl⟩ := List.mem_map.mp (dedW_mem hv)
  obtain ⟨h1, h2⟩ := List.mem_filter.mp hy
  exact beginW_ok (ok y h1) hx h2
theorem B3.out {a b c d : Addr} {H H' : Hp} {o : HO} (h : B3 a b c H H') (n : H d = none) : B3 a b c H (upd H' d o) := fun e u n1 n2 n3 z => by
  rw [upd_ne (ne_of_none z n)]
  exact h e u n1 n2 n3 z
theorem walkG_inj {kd kd' : V} {a b c a' b' c' : Addr} {t t' : Bool} (h : walkG kd a b c t = walkG kd' a' b' c' t') : b = b' ∧ t = t' := by
  unfold walkG at h
  injection h with _ h
  injection h with _ h
  injection h with h1 h
  injection h with _ h
  injection h with h2 _
  injection h1 with _ h1
  injection h2 with _ h2
  injection h1 with h1
  injection h2 with h2
  exact ⟨h1, h2⟩
section
variable {C wk br fo : Addr} {kd : V} {m : WM} {H : Hp}
/-- a place that is not the walk's -/
theorem WX.off (h : WX P w K C H wk br fo kd m) {d : Addr} {o : HO} (h1 : d ≠ wk) (h2 : d ≠ br) (h3 : d ≠ fo) (t : Tups H (upd H d o)) (hl : ∀ dx wy, H wk = some (.ins C dx (walkG kd br wy fo m.tu)) → d ≠ wy) (hls : ∀ ys, H d ≠ some (.lst ys)) : WX P w K C (upd H d o) wk br fo kd m := by
  obtain ⟨⟨dx, wy, ks, fl, a1, a2, a3, a4, a6, a7⟩, ne, ok⟩ := h
  refine ⟨⟨dx, wy, ks, fl, by rw [upd_ne h1.symm]; exact a1, by rw [upd_ne h2.symm]; exact a2, nd_move a3 (upd_ne (hl dx wy a1).symm) t, a4, by rw [upd_ne h3.symm]; exact a6, a7.move t fun l ys _ _ z => ?_⟩, ne, ok⟩
  rw [upd_ne (fun e => hls ys (by rw [← e]; exact z))]
  exact z
/-- self.turning = .. -/
theorem WX.turn {dx wy : Addr} (h : WX P w K C H wk br fo kd m) (h1 : H wk = some (.ins C dx (walkG kd br wy fo m.tu))) (t : Bool) : WX P w K C (upd H wk (.ins C dx (walkG kd br wy fo t))) wk br fo kd { m with tu := t } := by
  obtain ⟨⟨dx2, wy2, ks, fl, a1, a2, a3, a4, a6, a7⟩, ne, ok⟩ := h
  have e : wy2 = wy := by
    rw [a1] at h1
    injection h1 with h1
    injection h1 with _ _ h1
    exact (walkG_inj h1).1
  subst e
  have nb : br ≠ wk := ne_of a2 h1 (by intro z; cases z)
  have nf : fo ≠ wk := ne_of a6 h1 (by intro z; cases z)
  have nw : wy2 ≠ wk := ne_of a3.at_ h1 (by intro z; cases z)
  refine ⟨⟨dx, wy2, ks, fl, upd_same, by rw [upd_ne nb]; exact a2, nd_move a3 (upd_ne nw) (tups_ins h1), a4, by rw [upd_ne nf]; exact a6, a7.move (tups_ins h1) fun l ys _ _ z => ?_⟩, ne, ok⟩
  rw [upd_ne (ne_of z h1 (by intro z; cases z))]
  exact z
end
def spBeginX (P : Program) (w : World) (K : PySem.W.Frag) (C : Addr) : Sp := fun vs H Q _ => ∃ (wk br fo : Addr) (kd : V) (n : Int) (x : Str) (m : WM), vs = [.ref wk, .int n, .str x] ∧ isLoop x = true ∧ WX P w K C H wk br fo kd m ∧ m.bs.length ≤ 1000000 ∧ m.ws.length ≤ 300 ∧ ∀ H', B3 wk br fo H H' → WX P w K C H' wk br fo kd (beginM m n x) → Q .non H'
abbrev refsOf (ks : Ks) : List V := ks.map fun p => V.ref p.2
theorem tups_nd {H : Hp} {d : Addr} {js : Ks} {o : HO} (N : ND P w K H d js) : Tups H (upd H d o) := Tups.upd fun xs r => by
  rcases r with r | ⟨ob, r⟩
  · rw [N.at_] at r; cases r
  · rw [N.at_] at r; cases r
theorem ok_beginX {C g1 g2 : Addr} {m : Nat → Addr} (T : WalkX K mg C m) (lst : mg "list" = none) (any : mg "any" = none) {d1 d2 : FuncData}
    (F1 : Fun K "is_turn" "is_turn" s_is_turn g1 d1) (b1 : Binds K d1 ["way", "word"] []) (m1 : mg "is_turn" = some (.ref g1)) (G1 : FnOk P w K mg base CX0 1 g1 d1 ["way", "word"] (spTurn K))
    (F2 : Fun K "may_begin" "may_begin" s_may_begin g2 d2) (b2 : Binds K d2 ["way", "word"] []) (m2 : mg "may_begin" = some (.ref g2)) (G2 : FnOk P w K mg base CX0 1 g2 d2 ["way", "word"] (spMay K)) :
    ∃ fd, Fun K "begin_loop" "Walk.begin_loop" s_Walk_begin_loop (m 2) fd ∧ Binds K fd psPL [] ∧ FnOk P w K mg base CX0 2 (m 2) fd psPL (spBeginX P w K C) := by
  obtain ⟨fd, F, b⟩ := T.f2.fn
  refine ⟨fd, F, b, F.ok c_Walk_begin_loop (fun vs H Q E h => ?_) (fun cdv A outer s H vs Q E hr h => ?_)⟩
  · obtain ⟨wk, br, fo, kd, n, x, o, rfl, _⟩ := h
    rfl
  obtain ⟨wk, br, fo, kd, n, x, M, rfl, hx, hw, hB, hW, q⟩ := h
  refine ⟨_, pss_cons (ps_fld (pv 0) (pe_callB (cr_any rfl) (by rfl) any (by decide +kernel) (pa_cons (pe_lc (own := [("way", 3)]) (g := gName 3) (tt := tYes) rfl c_Walk_begin_loop.nd (pi_list (pe_callTy (call_listNd rfl) (by rfl) lst (by decide +kernel) (pa_cons (pe_fld (pv 0) rfl) pa_nil))) (blkOk_by (own := [("way", 3)]) (N := n_Walk_begin_loop) (sc := defScope s_Walk_begin_loop) (by decide +kernel))
      (fun _ _ _ _ _ => pg_name (i := 3) c_Walk_begin_loop.nd rfl (Or.inl rfl)) (fun _ _ _ _ _ => pts_nil) (fun _ _ _ _ _ => pe_call G1 hr rfl m1 F1.kp b1 .nil pass0 (pa_cons (pv 3) (pa_cons (pv 2) pa_nil)))) pa_nil)) rfl)
    (pss_cons (ps_set (i := 4) c_Walk_begin_loop.nd rfl (Or.inl rfl) Nd.pe_ndnew)
    (pss_cons (ps_for PassesOwn.never rfl (pi_list (pe_callTy (call_listNd rfl) (by rfl) lst (by decide +kernel) (pa_cons (pe_fld (pv 0) rfl) pa_nil))) (pg_name (i := 3) c_Walk_begin_loop.nd rfl (Or.inl rfl))
      (pss_cons (ps_asg (pv 3) (pg_tup rfl (pgs_cons (pg_name (i := 5) c_Walk_begin_loop.nd rfl (Or.inl rfl)) (pgs_cons (pg_name (i := 6) c_Walk_begin_loop.nd rfl (Or.inl rfl)) (pgs_cons (pg_name (i := 7) c_Walk_begin_loop.nd rfl (Or.inl rfl)) (pgs_cons (pg_name (i := 8) c_Walk_begin_loop.nd rfl (Or.inl rfl)) pgs_nil))))))
      (Evl.pss_cut (ps_if (pt_truth (pv 7) (by intro _; rfl)) (pss_one (ps_expr (pe_bm PySem.F.plainAttrs_list PySem.F.slot_list_append PySem.F.type_list_append mt_append (pe_fld (pv 0) rfl) (pa_cons (pv 7) pa_nil)))) pss_nil)
      (pss_one (ps_if (pt_val (pe_call G2 hr rfl m2 F2.kp b2 .nil pass0 (pa_cons (pv 3) (pa_cons (pv 2) pa_nil))))
        (pss_one (ps_asg pe_bl (pg_sub (pv 4) (pe_tup (pa_cons (pe_op op_catA (pv 5) (pe_tup (pa_cons (pv 2) pa_nil))) (pa_cons pe_int (pa_cons pe_int (pa_cons (pv 8) pa_nil))))) (Nd.set_nd hr.units))))
        (pss_one (ps_expr (pe_bm PySem.F.plainAttrs_list PySem.F.slot_list_append PySem.F.type_list_append mt_append (pe_fld (pv 0) rfl) (pa_cons (pv 1) pa_nil)))))))))
    (pss_one (ps_fld (pv 0) (pv 4) rfl)))), ?_⟩
  obtain ⟨⟨dx, wy, ks, fl, h1, h2, h3, h4, h6, h7⟩, ne, ok⟩ := id hw
  refine ⟨_, rfl, wk, C, dx, _, _, rfl, h1, T.cl, T.nw, rfl, wy, ks, rfl, h3, fun l0 nl0 => ?_⟩
  have sl0 := new_same (o := .lst (refsOf ks)) nl0
  have hxs0 := NVs.keep (Tups.of sl0) _ _ (ways_of h3 h4)
  have hlen : (refsOf ks).length = M.ws.length := by rw [nvs_len hxs0, List.length_map]
  refine ⟨l0, rfl, ⟨_, SqL.of upd_same⟩, fun D0 nD0 => lc_list (K := K) (a := l0) (xs := refsOf ks) (fun i G => Same (upd H l0 (.lst (refsOf ks))) G ∧ G D0 = some (.lst (((M.ws.take i).map fun v => turnB v.ls v.hm x).map V.bl)))
    ⟨new_same nD0, by rw [List.take_zero]; exact upd_same⟩ (fun i G _ z => SqL.of (z.1 _ _ upd_same)) ?_ ?_⟩
  · rintro i v G hi ⟨sG, eG⟩
    obtain ⟨y, hy, hv⟩ := way_get hxs0 hi
    have hyk : WayOk y := ok y (List.mem_of_getElem? hy)
    refine ⟨rfl, ?_⟩
    unfold tYes
    dsimp only
    rw [if_pos rfl]
    refine ⟨_, rfl, _, rfl, v, x, y.ls, y.os, y.hm, y.ct, rfl, NV.keep (Tups.of sG) _ _ hv, hyk.1, fun G3 b s3 hb => ?_⟩
    refine ⟨_, s3 _ _ eG, ?_, same_out (sG.trans s3) nD0, ?_⟩
    · rw [List.length_map, List.length_map, List.length_take]
      exact big (by omega)
    · rw [upd_same, List.take_add_one, hy, List.map_append, List.map_append, hb]
      rfl
  rintro G ⟨sG, eG⟩
  rw [hlen, List.take_length] at eG
  refine ⟨D0, _, rfl, SqL.of eG, ?_⟩
  have s0 : Same H G := sl0.trans sG
  refine ⟨_, rfl, wk, C, dx, _, rfl, s0 _ _ h1, T.cl, T.nt, (by show 5 < 1000; decide), ?_⟩
  have wx1 := (hw.keep s0).turn (s0 _ _ h1) (turnsB x M.ws)
  have t1 : Tups G (upd G wk (.ins C dx (walkG kd br wy fo (turnsB x M.ws)))) := tups_ins (s0 _ _ h1)
  have b1 : B3 wk br fo H (upd G wk (.ins C dx (walkG kd br wy fo (turnsB x M.ws)))) := (B3.of s0).trans B3.a
  have e1 : (upd G wk (.ins C dx (walkG kd br wy fo (turnsB x M.ws)))) wk = some (.ins C dx (walkG kd br wy fo (turnsB x M.ws))) := upd_same
  have nwy : wy ≠ wk := ne_of (s0.trans (Same.refl _) _ _ h3.at_) (s0 _ _ h1) (by intro z; cases z)
  have N1 : ND P w K (upd G wk (.ins C dx (walkG kd br wy fo (turnsB x M.ws)))) wy ks := nd_move (h3.keep s0) (upd_ne nwy) t1
  generalize hG1 : upd G wk (HO.ins C dx (putF "turning" (V.bl ((List.map (fun v => turnB v.ls v.hm x) M.ws).any id)) (walkG kd br wy fo M.tu))) = G1
  have e0 : upd G wk (.ins C dx (walkG kd br wy fo (turnsB x M.ws))) = G1 := hG1
  rw [e0] at wx1 t1 b1 e1 N1
  intro D nD sm
  have sD := new_same (o := ndO P w D []) nD
  have nDH : H D = none := by
    cases hD : H D with
    | none => rfl
    | some u =>
      exfalso
      by_cases c1 : D = wk
      · rw [c1, e1] at nD; cases nD
      by_cases c2 : D = br
      · obtain ⟨⟨_, _, _, _, _, a2, _⟩, _, _⟩ := wx1
        rw [c2, a2] at nD; cases nD
      by_cases c3 : D = fo
      · obtain ⟨⟨_, _, _, _, _, _, _, _, a6, _⟩, _, _⟩ := wx1
        rw [c3, a6] at nD; cases nD
      have := b1 D u c1 c2 c3 hD
      rw [this] at nD
      cases nD
  have nDwy : D ≠ wy := fun e => by rw [e, N1.at_] at nD; cases nD
  refine ⟨_, rfl, wk, C, dx, _, _, rfl, sD _ _ e1, T.cl, T.nw, rfl, wy, ks, rfl, N1.keep sD, fun l nl => ?_⟩
  have sl := new_same (o := .lst (refsOf ks)) nl
  have hxs := NVs.keep (Tups.of sl) _ _ (ways_of (N1.keep sD) h4)
  have hlb : l ≠ br := fun e => by
    obtain ⟨⟨_, _, _, _, _, a2, _⟩, _, _⟩ := wx1
    have z : (upd G1 D (ndO P w D [])) br = none := by rw [← e]; exact nl
    rw [sD _ _ a2] at z
    cases z
  refine ⟨l, rfl, ⟨_, SqL.of upd_same⟩, for_list (K := K) (a := l) (xs := refsOf ks) (fun i σ G => ∃ (v3 v5 v6 v7 v8 : Option V) (js : Ks), σ = [some (.ref wk), some (.int n), some (.str x), v3, some (.ref D), v5, v6, v7, v8] ∧ B3 wk br fo H G ∧ Tups (upd (upd G1 D (ndO P w D [])) l (.lst (refsOf ks))) G ∧ G l = some (.lst (refsOf ks)) ∧
      ND P w K G D js ∧ js.map (·.1) = (beginWs x (M.ws.take i)).map keyW ∧ WX P w K C G wk br fo kd { M with bs := M.bs ++ beginBs n x (M.ws.take i), tu := turnsB x M.ws } ∧ G wk = some (.ins C dx (walkG kd br wy fo (turnsB x M.ws))))
    ⟨_, _, _, _, _, [], rfl, ((b1.out (o := ndO P w D []) nDH).trans (B3.of sl)), fun _ _ z => z, upd_same, ?_, ?_, ?_, ?_⟩ ?_ ?_ ?_⟩
  · exact (Nd.nd_new (K := K) sm).keep sl
  · rw [List.take_zero]; rfl
  · rw [List.take_zero]
    have := (wx1.keep sD).keep sl
    rw [show ({ M with bs := M.bs ++ beginBs n x [], tu := turnsB x M.ws } : WM) = { M with tu := turnsB x M.ws } from by show ({ M with bs := M.bs ++ [], tu := turnsB x M.ws } : WM) = _; rw [List.append_nil]]
    exact this
  · exact sl _ _ (sD _ _ e1)
  · rintro i σ G _ ⟨v3, v5, v6, v7, v8, js, rfl, _, _, e, _⟩
    exact SqL.of e
  · rintro i v σ G hi ⟨v3, v5, v6, v7, v8, js, rfl, bG, tG, eG, jN, jk, wG, ew⟩
    obtain ⟨y, hy, hv⟩ := way_get hxs hi
    have hyk : WayOk y := ok y (List.mem_of_getElem? hy)
    obtain ⟨a, p1, p2, rfl, ha, hb, hc⟩ := nv_inv hv
    have htk : (M.ws.take i).length ≤ 300 := Nat.le_trans (by rw [List.length_take]; exact Nat.min_le_right _ _) hW
    have hbl := beginBs_len n x (M.ws.take i)
    refine ⟨_, rfl, a, _, rfl, sqt_tups tG ha, rfl, _, _, rfl, _, _, rfl, _, _, rfl, _, _, rfl, rfl, ?_⟩
    refine ⟨fun σ G => σ = [some (.ref wk), some (.int n), some (.str x), some (.ref a), some (.ref D), some (.ref p1), some (.int y.hm), some (.int y.ct), some (.ref p2)] ∧ B3 wk br fo H G ∧ Tups (upd (upd G1 D (ndO P w D [])) l (.lst (refsOf ks))) G ∧ G l = some (.lst (refsOf ks)) ∧
      ND P w K G D js ∧ WX P w K C G wk br fo kd { M with bs := (M.bs ++ beginBs n x (M.ws.take i)) ++ (if (y.ct != 0) = true then [y.ct] else []), tu := turnsB x M.ws } ∧ G wk = some (.ins C dx (walkG kd br wy fo (turnsB x M.ws))), ?_, ?_⟩
    · obtain ⟨⟨dx', wy', ks', fl', g1, g2, _⟩, _, _⟩ := id wG
      refine ⟨_, rfl, _, rfl, iteB (fun h0 => ?_) (fun h0 => ?_)⟩
      · refine ⟨_, rfl, wk, C, dx', _, _, rfl, g1, T.cl, T.nb, rfl, .inl ⟨rfl, _, SqL.of g2⟩, _, rfl, br, _, _, rfl, rfl, g2, ?_, ?_⟩
        · rw [List.length_map, List.length_append]
          exact big (by omega)
        · have hDb : D ≠ br := ne_of jN.at_ g2 (by intro z; cases z)
          have hwb : wk ≠ br := ne_of ew g2 (by intro z; cases z)
          refine ⟨rfl, bG.trans B3.b, tG.trans (wG.tups _), by rw [upd_ne hlb]; exact eG, nd_move jN (upd_ne hDb) (wG.tups _), ?_, by rw [upd_ne hwb]; exact ew⟩
          have := wG.push y.ct
          rw [if_pos h0]
          exact this
      · refine ⟨rfl, bG, tG, eG, jN, ?_, ew⟩
        rw [if_neg (by rw [show (y.ct != 0) = false from h0]; decide), List.append_nil]
        exact wG
    · rintro σ G ⟨rfl, bG, tG, eG, jN, wG, ew⟩
      have hv' := NV.keep tG _ _ hv
      refine ⟨_, rfl, _, rfl, .ref a, x, y.ls, y.os, y.hm, y.ct, rfl, hv', hyk.1, fun G2 c s2 hc2 => ?_⟩
      have bG2 := bG.trans (B3.of s2)
      have tG2 := tG.trans (Tups.of s2)
      have eG2 := s2 _ _ eG
      have jN2 := jN.keep s2
      have wG2 := wG.keep s2
      have ew2 := s2 _ _ ew
      refine ⟨_, rfl, iteB (fun hm => ?_) (fun hm => ?_)⟩
      · have hm' : mayB y.ls y.hm x = true := by rw [← hc2]; exact hm
        obtain ⟨TT, hTT⟩ : ∃ f : Addr → HO, f = fun r => HO.tup [.ref r, .int 0, .int 0, .ref p2] := ⟨_, rfl⟩
        have hj : js.length < 1000 := by
          rw [len_of_keys jk]
          have := beginWs_len x (M.ws.take i)
          omega
        have fin : ∀ (G3 : Hp) (r u2 : Addr), Same G2 G3 → SqT K G3 r ((beginW x y).ls.map V.str) → G3 u2 = none → ND P w K (upd G3 u2 (TT r)) D js ∧ NV K (upd G3 u2 (TT r)) (.ref u2) (keyW (beginW x y)) ∧ (∀ H', H' = upd (upd G3 u2 (TT r)) D (ndO P w D (putN js (keyW (beginW x y)) u2)) → B3 wk br fo H H' ∧ Tups (upd (upd G1 D (ndO P w D [])) l (.lst (refsOf ks))) H' ∧ H' l = some (.lst (refsOf ks)) ∧
            ND P w K H' D (putN js (keyW (beginW x y)) u2) ∧ (putN js (keyW (beginW x y)) u2).map (·.1) = (beginWs x (M.ws.take (i + 1))).map keyW ∧ WX P w K C H' wk br fo kd { M with bs := M.bs ++ beginBs n x (M.ws.take (i + 1)), tu := turnsB x M.ws } ∧ H' wk = some (.ins C dx (walkG kd br wy fo (turnsB x M.ws)))) := by
          intro G3 r u2 s3 hr3 nu2
          have su := same_new (o := TT r) s3 nu2
          have jN4 := jN2.keep su
          have hnv : NV K (upd G3 u2 (TT r)) (.ref u2) (keyW (beginW x y)) := by
            refine nv_mk (b := r) (d := p2) ?_ (sqt_same (new_same nu2) hr3) (sqt_same su (sqt_tups tG2 hc))
            rw [hTT]
            exact SqT.of upd_same
          refine ⟨jN4, hnv, fun H' e => ?_⟩
          have w4 := wG2.keep su
          have ew4 := su _ _ ew2
          have tD := tups_nd (o := ndO P w D (putN js (keyW (beginW x y)) u2)) jN4
          obtain ⟨⟨dx', wy', ks', fl', g1, g2, g3, g4, g6, _⟩, _, _⟩ := id w4
          have d1 : D ≠ wk := ne_of jN4.at_ ew4 (by intro z; cases z)
          have d2 : D ≠ br := ne_of jN4.at_ g2 (by intro z; cases z)
          have d3 : D ≠ fo := ne_of jN4.at_ g6 (by intro z; cases z)
          have d4 : D ≠ l := ne_of jN4.at_ (su _ _ eG2) (by intro z; cases z)
          rw [e]
          refine ⟨(bG2.trans (B3.of su)).out nDH, (tG2.trans (Tups.of su)).trans tD, by rw [upd_ne d4.symm]; exact su _ _ eG2, jN4.put hj hnv (keyW_deep _), ?_, ?_, by rw [upd_ne d1.symm]; exact ew4⟩
          · rw [beginWs_take hy, if_pos hm']
            exact putN_W jk
          · rw [beginBs_take hy]
            have w5 := w4.off (o := ndO P w D (putN js (keyW (beginW x y)) u2)) d1 d2 d3 tD (fun dx2 wy2 h => by
              rw [ew4] at h
              injection h with h
              injection h with _ _ h
              rw [← (walkG_inj h).1]
              exact nDwy) (fun ys z => by rw [jN4.at_] at z; cases z)
            rw [show beginB n x y = if (y.ct != 0) = true then [y.ct] else [] from by unfold beginB; rw [hm']; exact List.append_nil _, ← List.append_assoc]
            exact w5
        have hb2 := sqt_tups tG2 hb
        refine ⟨_, rfl, _, rfl, _, rfl, (by show 1 ≤ sizeLine; decide), fun u nu => ?_⟩
        have sU := new_same (o := .tup [.str x]) nu
        refine ⟨p1, u, _, _, rfl, rfl, sqt_same sU hb2, SqT.of upd_same, ?_, fun e => ?_, fun _ e => absurd e (by simp), fun e _ p np => ?_⟩
        · rw [List.length_map]
          have := hyk.1.len
          exact Nat.le_trans (Nat.add_le_add this (Nat.le_refl 1)) (by decide)
        · refine ⟨_, rfl, (by show 4 ≤ sizeLine; decide), fun u2 nu2 => ?_⟩
          have e2 : y.ls = [] := List.map_eq_nil_iff.mp e
          obtain ⟨f1, f2, f3⟩ := fin _ u u2 sU (by show SqT K _ u ((y.ls ++ [x]).map V.str); rw [e2]; exact SqT.of upd_same) nu2
          obtain ⟨g1, g2, g3, g4, g5, g6, g7⟩ := f3 _ rfl
          rw [hTT] at f1 f2 g1 g2 g3 g4 g6 g7
          exact ⟨D, u2, js, _, rfl, rfl, rfl, f1, hj, f2, keyW_deep _, _, _, _, _, _, _, rfl, g1, g2, g3, g4, g5, g6, g7⟩
        · have sP := same_new (o := .tup (y.ls.map V.str ++ [.str x])) sU np
          refine ⟨_, rfl, (by show 4 ≤ sizeLine; decide), fun u2 nu2 => ?_⟩
          obtain ⟨f1, f2, f3⟩ := fin _ p u2 sP (by show SqT K _ p ((y.ls ++ [x]).map V.str); rw [List.map_append]; exact SqT.of upd_same) nu2
          obtain ⟨g1, g2, g3, g4, g5, g6, g7⟩ := f3 _ rfl
          rw [hTT] at f1 f2 g1 g2 g3 g4 g6 g7
          exact ⟨D, u2, js, _, rfl, rfl, rfl, f1, hj, f2, keyW_deep _, _, _, _, _, _, _, rfl, g1, g2, g3, g4, g5, g6, g7⟩
      · have hm' : mayB y.ls y.hm x = false := by rw [← hc2]; exact hm
        obtain ⟨⟨dx', wy', ks', fl', g1, g2, _⟩, _, _⟩ := id wG2
        refine ⟨_, rfl, wk, C, dx', _, _, rfl, g1, T.cl, T.nb, rfl, .inl ⟨rfl, _, SqL.of g2⟩, _, rfl, br, _, _, rfl, rfl, g2, ?_, ?_⟩
        · rw [List.length_map, List.length_append, List.length_append]
          have : (if (y.ct != 0) = true then [y.ct] else []).length ≤ 1 := by split <;> simp
          exact big (by omega)
        · have hDb : D ≠ br := ne_of jN2.at_ g2 (by intro z; cases z)
          have hwb : wk ≠ br := ne_of ew2 g2 (by intro z; cases z)
          refine ⟨_, _, _, _, _, js, rfl, bG2.trans B3.b, tG2.trans (wG2.tups _), by rw [upd_ne hlb]; exact eG2, nd_move jN2 (upd_ne hDb) (wG2.tups _), ?_, ?_, by rw [upd_ne hwb]; exact ew2⟩
          · rw [beginWs_take hy, hm', if_neg (by decide)]
            exact jk
          · have := wG2.push n
            rw [beginBs_take hy]
            rw [show beginB n x y = (if (y.ct != 0) = true then [y.ct] else []) ++ [n] from by unfold beginB; rw [hm']; rfl, ← List.append_assoc, ← List.append_assoc]
            exact this
  · rintro σ G ⟨v3, v5, v6, v7, v8, js, rfl, bG, tG, eG, jN, jk, wG, ew⟩
    rw [hlen, List.take_length] at jk wG
    refine ⟨_, rfl, _, rfl, wk, C, dx, _, rfl, ew, T.cl, T.nw, (by show 5 < 1000; decide), ?_⟩
    refine q _ (bG.trans B3.a) ?_
    exact wG.ways ew jN jk (beginWs_ok hx ok)
end
end H2
namespace H2
open PySem PySem.Spec PyProof.Rows L2 Hx Nd Dun
section
variable {P : Program} {w : World} {K : PySem.W.Frag} {mg : Str → Option Value} {base : Heap} {D : Addr}
/-! #### fork -/
def ifM (m : WM) (n : Int) (g : Bool) : WM := { m with bs := m.bs ++ (if g = true then [n] else []), fs := m.fs ++ [(m.ws, [])] }
def elseM (m : WM) (ps : List (List Way × List Way)) (a : List Way) : WM := { m with fs := ps ++ [([], m.ws)], ws := dedW a }
def finM (m : WM) (ps : List (List Way × List Way)) (a f : List Way) : WM := { m with fs := ps, ws := dedW ((m.ws ++ a) ++ f) }
def forkR (wd : Str) (n : Int) (m m' : WM) : Prop := (wd = "if" ∧ ∃ g, m' = ifM m n g) ∨ (wd = "else" ∧ ∃ ps a f, m.fs = ps ++ [(a, f)] ∧ m' = elseM m ps a) ∨ (wd = "end" ∧ ∃ ps a f, m.fs = ps ++ [(a, f)] ∧ m' = finM m ps a f)
theorem ndc_ded {G : Hp} {l D : Addr} {xs : List V} {ws : List Way} {i : Nat} {σ : L2.St} {vs : List Nat} {Qd : Hp → Prop} (e : G l = some (.lst xs)) (hx : NVs K G xs (ws.map keyW)) (hl : ws.length ≤ 900) (nD : G D = none) (sm : (D == sysModules) = false)
    (hw : ∀ v : V, wipe ((wipe σ vs).set i (some v)) vs = wipe σ vs) (hg : ∀ v : V, ((wipe σ vs).set i (some v))[i]? = some (some v))
    (hd : ∀ G2 js, Same G G2 → ND P w K G2 D js → js.map (·.1) = (dedW ws).map keyW → Qd G2) :
    ∃ W : Nat → Nat → Hp → Prop, (∃ m, W 0 m (upd G D (Nd.ndO P w D []))) ∧ ∀ j m G1, W j m G1 →
    ((Itl K l).stop j G1 ∧ Qd G1) ∨ ((Itl K l).go j G1 ∧ ∃ Nx : Hp → Prop, (∀ G2, Nx G2 → ∃ m', m' < m ∧ W (j + 1) m' G2) ∧ ∀ x G2, (Itl K l).yld j G1 x G2 → gName i x (wipe σ vs) G2 fun ρ G3 => wipe ρ vs = wipe σ vs ∧ tYes ρ G3 fun b G4 =>
      if b = true then tVar i ρ G4 fun y G5 => tC (.bl true) ρ G5 fun z G6 => Nd.NdTurn P w K D y z G6 Nx else Nx G4) := by
  have hlen : xs.length = ws.length := by rw [nvs_len hx, List.length_map]
  refine ndc_list (K := K) (a := l) (xs := xs) (fun i G2 => Same G G2 ∧ ∃ js : Ks, ND P w K G2 D js ∧ js.map (·.1) = (dedW (ws.take i)).map keyW)
    ⟨new_same nD, [], Nd.nd_new sm, rfl⟩ ?_ ?_ ?_
  · rintro j G2 _ ⟨s2, _⟩
    exact SqL.of (s2 _ _ e)
  · rintro j v G2 hi ⟨s2, js, N, ej⟩
    obtain ⟨y, hy, hv⟩ := way_get hx hi
    have hv2 : NV K G2 v (keyW y) := NV.keep (Tups.of s2) _ _ hv
    obtain ⟨b, _, _, rfl, _⟩ := nv_inv hv2
    refine ⟨hw _, ?_⟩
    unfold tYes
    dsimp only
    rw [if_pos rfl]
    have hj : js.length < 1000 := by
      rw [len_of_keys ej]
      have a1 := dedW_len (ws.take j)
      rw [List.length_take] at a1
      omega
    refine ⟨_, hg _, b, js, keyW y, rfl, rfl, N, hj, hv2, keyW_deep _, same_out s2 nD, _, N.put hj hv2 (keyW_deep _), ?_⟩
    rw [List.take_add_one, hy]
    show _ = (dedW (ws.take j ++ [y])).map keyW
    rw [dedW_snoc]
    exact putN_W ej
  · rintro G2 ⟨s2, js, N, ej⟩
    rw [hlen, List.take_length] at ej
    exact hd G2 js s2 N ej
theorem WX.setf {C wk br fo : Addr} {kd : V} {m : WM} {H : Hp} {fl' : List V} {qs' : List (List Way × List Way)} (h : WX P w K C H wk br fo kd m) (e : FkX K H br fo fl' qs') : WX P w K C (upd H fo (.lst fl')) wk br fo kd { m with fs := qs' } := by
  obtain ⟨⟨dx, wy, ks, fl, h1, h2, h3, h4, h6, h7⟩, ne, ok⟩ := h
  have t := tups_lst (o := .lst fl') h6
  refine ⟨⟨dx, wy, ks, fl', ?_, ?_, nd_move h3 (upd_ne (ne_of h3.at_ h6 (by intro z; cases z))) t, h4, upd_same, e.move t fun l ys nf _ z => by rw [upd_ne nf]; exact z⟩, ne, ok⟩
  · rw [upd_ne (ne_of h1 h6 (by intro z; cases z))]; exact h1
  · rw [upd_ne ne.symm]; exact h2
theorem nvs_app {H : Hp} : ∀ {xs ys : List V} {as bs : List NestedKey}, NVs K H xs as → NVs K H ys bs → NVs K H (xs ++ ys) (as ++ bs)
  | _, _, _, _, .nil, h => h
  | _, _, _, _, .cons a r, h => .cons a (nvs_app r h)
abbrev psFK : List Str := ["self", "line", "row"]
def spForkX (P : Program) (w : World) (K : PySem.W.Frag) (C CR : Addr) : Sp := fun vs H Q _ => ∃ (wk br fo r : Addr) (kd : Str) (n : Int) (wd : Str) (pl : Pl) (m : WM), vs = [.ref wk, .int n, .ref r] ∧ RowG K CR H r wd pl ∧ (wd = "if" ∨ (wd = "else" ∨ wd = "end") ∧ m.fs ≠ []) ∧ WX P w K C H wk br fo (.str kd) m ∧ Bd m ∧
  ∀ H' m', B3 wk br fo H H' → forkR wd n m m' → WX P w K C H' wk br fo (.str kd) m' → Q .non H'
theorem fs_last {qs : List (List Way × List Way)} (h : qs ≠ []) : ∃ ps a f, qs = ps ++ [(a, f)] := ⟨qs.dropLast, (qs.getLast h).1, (qs.getLast h).2, (List.dropLast_concat_getLast h).symm⟩
theorem ok_forkX {C CR fI tt g g2 : Addr} {m : Nat → Addr} (T : WalkX K mg C m) (R : RowT K mg CR fI tt) (lst : mg "list" = none) {d d2 : FuncData}
    (F1 : Fun K "names_given" "names_given" s_names_given g d) (b1 : Binds K d ["test"] []) (m1 : mg "names_given" = some (.ref g)) (G1 : FnOk P w K mg base CX0 1 g d ["test"] (spNames K))
    (F2 : Fun K "allows" "allows" s_allows g2 d2) (b2 : Binds K d2 ["kind", "word"] []) (m2 : mg "allows" = some (.ref g2)) (G2 : FnOk P w K mg base CX0 1 g2 d2 ["kind", "word"] spAllowX) :
    ∃ fd, Fun K "fork" "Walk.fork" s_Walk_fork (m 4) fd ∧ Binds K fd psFK [] ∧ FnOk P w K mg base CX0 2 (m 4) fd psFK (spForkX P w K C CR) := by
  obtain ⟨fd, F, b⟩ := T.f4.fn
  refine ⟨fd, F, b, F.ok c_Walk_fork (fun vs H Q E h => ?_) (fun cdv A outer s H vs Q E hr h => ?_)⟩
  · obtain ⟨wk, br, fo, r, kd, n, wd, pl, M, rfl, _⟩ := h
    rfl
  obtain ⟨wk, br, fo, r, kd, n, wd, pl, M, rfl, hrow, hot, hw, hB, q⟩ := h
  refine ⟨_, pss_one (ps_if (pt_cmpR op_eq (pe_fld (pv 2) rfl) pe_str (nomark _))
    (Evl.pss_cut (ps_if (PW.pt (pw_and (Nd.pt_nd (pe_fld (pv 0) rfl)) (pw_and (pt_val (pe_call G1 hr rfl m1 F1.kp b1 .nil pass0 (pa_cons (pe_fld (pv 2) rfl) pa_nil))) (pw_and1 (pt_not (pt_val (pe_call G2 hr rfl m2 F2.kp b2 .nil pass0 (pa_cons (pe_fld (pv 0) rfl) (pa_cons pe_str pa_nil)))))))))
        (pss_one (ps_expr (pe_bm PySem.F.plainAttrs_list PySem.F.slot_list_append PySem.F.type_list_append mt_append (pe_fld (pv 0) rfl) (pa_cons (pv 1) pa_nil)))) pss_nil)
      (pss_one (ps_expr (pe_bm PySem.F.plainAttrs_list PySem.F.slot_list_append PySem.F.type_list_append mt_append (pe_fld (pv 0) rfl) (pa_cons (pe_tup (pa_cons (pe_callTy (call_listNd rfl) (by rfl) lst (by decide +kernel) (pa_cons (pe_fld (pv 0) rfl) pa_nil)) (pa_cons (pe_lst pa_nil) pa_nil))) pa_nil)))))
    (pss_one (ps_if (pt_cmpR op_eq (pe_fld (pv 2) rfl) pe_str (nomark _))
      (pss_cons (ps_asg (pe_bm0 PySem.F.plainAttrs_list PySem.F.slot_list_pop PySem.F.type_list_pop mt_pop (pe_fld (pv 0) rfl)) (pg_tup rfl (pgs_cons (pg_name (i := 3) c_Walk_fork.nd rfl (Or.inl rfl)) (pgs_cons (pg_name (i := 4) c_Walk_fork.nd rfl (Or.inl rfl)) pgs_nil))))
      (pss_cons (ps_expr (pe_bm PySem.F.plainAttrs_list PySem.F.slot_list_append PySem.F.type_list_append mt_append (pe_fld (pv 0) rfl) (pa_cons (pe_tup (pa_cons (pe_lst pa_nil) (pa_cons (pe_callTy (call_listNd rfl) (by rfl) lst (by decide +kernel) (pa_cons (pe_fld (pv 0) rfl) pa_nil)) pa_nil))) pa_nil)))
      (pss_one (ps_fld (pv 0) (Nd.pe_ndc (own := [("way", 5)]) (g := gName 5) (tt := tYes) rfl c_Walk_fork.nd hr.units (pi_list (pv 3)) (blkOk_by (own := [("way", 5)]) (N := n_Walk_fork) (sc := defScope s_Walk_fork) (by decide +kernel))
        (fun _ _ _ _ _ => pg_name (i := 5) c_Walk_fork.nd rfl (Or.inl rfl)) (fun _ _ _ _ _ => pts_nil) (fun _ _ _ _ _ => pv 5) (fun _ _ _ _ _ => pe_bl)) rfl))))
      (pss_cons (ps_asg (pe_bm0 PySem.F.plainAttrs_list PySem.F.slot_list_pop PySem.F.type_list_pop mt_pop (pe_fld (pv 0) rfl)) (pg_tup rfl (pgs_cons (pg_name (i := 3) c_Walk_fork.nd rfl (Or.inl rfl)) (pgs_cons (pg_name (i := 6) c_Walk_fork.nd rfl (Or.inl rfl)) pgs_nil))))
      (pss_one (ps_fld (pv 0) (Nd.pe_ndc (own := [("way", 5)]) (g := gName 5) (tt := tYes) rfl c_Walk_fork.nd hr.units (pi_list (pe_op op_cat (pe_op op_cat (pe_callTy (call_listNd rfl) (by rfl) lst (by decide +kernel) (pa_cons (pe_fld (pv 0) rfl) pa_nil)) (pv 3)) (pv 6))) (blkOk_by (own := [("way", 5)]) (N := n_Walk_fork) (sc := defScope s_Walk_fork) (by decide +kernel))
        (fun _ _ _ _ _ => pg_name (i := 5) c_Walk_fork.nd rfl (Or.inl rfl)) (fun _ _ _ _ _ => pts_nil) (fun _ _ _ _ _ => pv 5) (fun _ _ _ _ _ => pe_bl)) rfl)))))), ?_⟩
  obtain ⟨⟨dx, wy, ks, fl, h1, h2, h3, h4, h6, h7⟩, ne, ok⟩ := id hw
  obtain ⟨dxr, ttr, nu, er, ht⟩ := id hrow
  have nwf : wk ≠ fo := ne_of h1 h6 (by intro z; cases z)
  have nyf : wy ≠ fo := ne_of h3.at_ h6 (by intro z; cases z)
  rcases hot with hif | ⟨hwd, hfs⟩
  · subst hif
    refine ⟨_, rfl, r, CR, dxr, _, _, rfl, er, R.cl, R.nw, rfl, rfl, _, rfl, iteBT (by decide +kernel) ?_⟩
    refine ⟨fun σ G => σ = [some (.ref wk), some (.int n), some (.ref r), none, none, none, none] ∧ B3 wk br fo H G ∧ ∃ g : Bool, WX P w K C G wk br fo (.str kd) { M with bs := M.bs ++ (if g = true then [n] else []) }, ?_, ?_⟩
    · have no : WX P w K C H wk br fo (.str kd) { M with bs := M.bs ++ (if (false : Bool) = true then [n] else []) } := by
        rw [if_neg (by decide), List.append_nil]
        exact hw
      refine ⟨_, rfl, wk, C, dx, _, _, rfl, h1, T.cl, T.nw, rfl, wy, ks, rfl, h3, ite2 (fun _ => ?_) (fun _ => ?_)⟩
      · refine ⟨_, rfl, r, CR, dxr, _, _, rfl, er, R.cl, R.nt, rfl, ttr, rfl, ht rfl, fun G c s => ⟨_, rfl, iteB (fun hc => ?_) (fun hc => ⟨rfl, B3.of s, false, ?_⟩)⟩⟩
        · refine ⟨_, rfl, wk, C, dx, _, _, rfl, s _ _ h1, T.cl, T.nk, rfl, kd, "given", rfl, by decide +kernel, _, rfl, iteB (fun hg => ?_) (fun hg => ⟨rfl, B3.of s, false, ?_⟩)⟩
          · have w2 := hw.keep s
            have e2 := s _ _ h2
            refine ⟨_, rfl, wk, C, dx, _, _, rfl, s _ _ h1, T.cl, T.nb, rfl, .inl ⟨rfl, _, SqL.of e2⟩, _, rfl, br, _, _, rfl, rfl, e2, ?_, ?_⟩
            · rw [List.length_map]
              exact big (Nat.le_trans hB.b (by decide))
            · refine ⟨rfl, (B3.of s).trans B3.b, true, ?_⟩
              rw [if_pos rfl]
              exact w2.push n
          · exact no.keep s
        · exact no.keep s
      · exact iteF ⟨rfl, B3.refl _ _ _ _, false, no⟩
    · rintro σ G ⟨rfl, bG, g, wG⟩
      obtain ⟨⟨dx, wy, ks, fl, h1, h2, h3, h4, h6, h7⟩, ne, ok⟩ := id wG
      refine ⟨_, rfl, wk, C, dx, _, _, rfl, h1, T.cl, T.nf, rfl, .inl ⟨rfl, _, SqL.of h6⟩, ?_⟩
      refine ⟨_, rfl, wk, C, dx, _, _, rfl, h1, T.cl, T.nw, rfl, wy, ks, rfl, h3, fun l nl => ?_⟩
      have sl := new_same (o := .lst (ks.map fun p => V.ref p.2)) nl
      refine ⟨Nat.zero_le _, fun l2 nl2 => ?_⟩
      obtain ⟨nl2a, nl2l⟩ := free_upd nl2
      have sl2 := same_new (o := .lst []) sl nl2
      refine ⟨(by show 2 ≤ sizeLine; decide), fun T' nT => ?_⟩
      have sT := same_new (o := .tup [.ref l, .ref l2]) sl2 nT
      have hlen : fl.length < sizeLine := by
        rw [h7.len]
        exact big (Nat.le_trans hB.k (by decide))
      refine ⟨fo, _, _, rfl, rfl, sT _ _ h6, hlen, ?_⟩
      have nlf : l ≠ fo := fun e => by rw [e, h6] at nl; cases nl
      have nlb : l ≠ br := fun e => by rw [e, h2] at nl; cases nl
      have nl2f : l2 ≠ fo := fun e => by rw [e, sl _ _ h6] at nl2; cases nl2
      have nl2b : l2 ≠ br := fun e => by rw [e, sl _ _ h2] at nl2; cases nl2
      have nTl : T' ≠ l := fun e => by
        rw [e, upd_ne nl2l.symm, upd_same] at nT
        cases nT
      have nTl2 : T' ≠ l2 := fun e => by rw [e, upd_same] at nT; cases nT
      have wT := wG.keep sT
      refine q _ _ ((bG.trans (B3.of sT)).trans B3.c) (.inl ⟨rfl, g, rfl⟩) ?_
      refine wT.setf (fl' := fl ++ [.ref T']) (qs' := M.fs ++ [(M.ws, [])]) (.snoc (h7.move (Tups.of sT) fun l ys _ _ z => sT _ _ z) ⟨T', l, l2, rfl, SqT.of upd_same, ?_, ?_, ⟨nlf, nlb⟩, ⟨nl2f, nl2b⟩⟩)
      · refine ⟨⟨_, by rw [upd_ne nTl.symm, upd_ne nl2l.symm, upd_same], NVs.keep (Tups.of sT) _ _ (ways_of h3 h4)⟩, ok⟩
      · exact ⟨⟨[], by rw [upd_ne nTl2.symm, upd_same], .nil⟩, fun v hv => by cases hv⟩
  obtain ⟨ps, fa, ff, hps⟩ := fs_last hfs
  rw [hps] at h7
  obtain ⟨vs, v0, rfl, hvs, T0, l1, l2, rfl, hT0, ⟨⟨xs1, e1, w1⟩, ok1⟩, ⟨⟨xs2, e2, w2⟩, ok2⟩, n1, n2⟩ := h7.inv
  have hb2 : fa.length ≤ 300 ∧ ff.length ≤ 300 := hB.f (fa, ff) (by rw [hps]; exact List.mem_append_right _ List.mem_cons_self)
  obtain ⟨H1, hH1⟩ : ∃ H1, H1 = upd H fo (.lst ((vs ++ [V.ref T0]).dropLast)) := ⟨_, rfl⟩
  have t1 : Tups H H1 := by rw [hH1]; exact tups_lst h6
  have k1 : ∀ c u, c ≠ fo → H c = some u → H1 c = some u := fun c u n z => by rw [hH1, upd_ne n]; exact z
  have f1 : H1 fo = some (.lst vs) := by rw [hH1, upd_same, List.dropLast_concat]
  have b1' : B3 wk br fo H H1 := by rw [hH1]; exact B3.c
  have W1 : WX P w K C H1 wk br fo (.str kd) { M with fs := ps } := by
    rw [hH1, List.dropLast_concat]
    exact hw.setf hvs
  have ND1 : ND P w K H1 wy ks := nd_move h3 (by rw [hH1]; exact upd_ne nyf) t1
  rcases hwd with hel | hen
  · subst hel
    refine ⟨_, rfl, r, CR, dxr, _, _, rfl, er, R.cl, R.nw, rfl, rfl, _, rfl, iteBF (by decide +kernel) ?_⟩
    refine ⟨_, rfl, r, CR, dxr, _, _, rfl, er, R.cl, R.nw, rfl, rfl, _, rfl, iteBT (by decide +kernel) ?_⟩
    refine ⟨_, rfl, wk, C, dx, _, _, rfl, h1, T.cl, T.nf, rfl, .inl ⟨rfl, _, SqL.of h6⟩, fo, _, .ref T0, rfl, rfl, h6, (by simp), ?_⟩
    rw [← hH1]
    clear hH1
    refine ⟨T0, _, rfl, sqt_tups t1 hT0, rfl, _, _, rfl, _, _, rfl, rfl, ?_⟩
    refine ⟨_, rfl, wk, C, dx, _, _, rfl, k1 _ _ nwf h1, T.cl, T.nf, rfl, .inl ⟨rfl, _, SqL.of f1⟩, Nat.zero_le _, fun la nla => ?_⟩
    have sa := new_same (o := .lst []) nla
    refine ⟨_, rfl, wk, C, dx, _, _, rfl, sa _ _ (k1 _ _ nwf h1), T.cl, T.nw, rfl, wy, ks, rfl, ND1.keep sa, fun lb nlb => ?_⟩
    obtain ⟨nlb1, nlba⟩ := free_upd nlb
    have sb := same_new (o := .lst (ks.map fun p => V.ref p.2)) sa nlb
    refine ⟨(by show 2 ≤ sizeLine; decide), fun T1 nT1 => ?_⟩
    have st := same_new (o := .tup [.ref la, .ref lb]) sb nT1
    have hlen : vs.length < sizeLine := by
      rw [hvs.len]
      have := hB.k
      rw [hps, List.length_append] at this
      exact big (by omega)
    refine ⟨fo, _, _, rfl, rfl, st _ _ f1, hlen, ?_⟩
    have h2' := k1 _ _ ne.symm h2
    have nlaf : la ≠ fo := fun e => by rw [e, f1] at nla; cases nla
    have nlab : la ≠ br := fun e => by rw [e, h2'] at nla; cases nla
    have nlbf : lb ≠ fo := fun e => by rw [e, sa _ _ f1] at nlb; cases nlb
    have nlbb : lb ≠ br := fun e => by rw [e, sa _ _ h2'] at nlb; cases nlb
    have nT1a : T1 ≠ la := fun e => by
      rw [e, upd_ne nlba.symm, upd_same] at nT1
      cases nT1
    have nT1b : T1 ≠ lb := fun e => by rw [e, upd_same] at nT1; cases nT1
    have t5 := tups_lst (o := .lst (vs ++ [.ref T1])) (st _ _ f1)
    have W5 := (W1.keep st).setf (fl' := vs ++ [.ref T1]) (qs' := ps ++ [([], M.ws)]) (.snoc ((hvs.move t1 (fun l ys nf _ z => k1 _ _ nf z)).move (Tups.of st) fun l ys _ _ z => st _ _ z) ⟨T1, la, lb, rfl, SqT.of upd_same, ⟨⟨[], by rw [upd_ne nT1a.symm, upd_ne nlba.symm, upd_same], .nil⟩, fun v hv => by cases hv⟩, ⟨⟨_, by rw [upd_ne nT1b.symm, upd_same], NVs.keep (Tups.of st) _ _ (ways_of ND1 h4)⟩, ok⟩, ⟨nlaf, nlab⟩, ⟨nlbf, nlbb⟩⟩)
    obtain ⟨H5, hH5⟩ : ∃ H5, H5 = upd (upd (upd (upd H1 la (.lst [])) lb (.lst (ks.map fun p => V.ref p.2))) T1 (.tup [.ref la, .ref lb])) fo (.lst (vs ++ [.ref T1])) := ⟨_, rfl⟩
    have k5 : ∀ c u, c ≠ fo → H c = some u → H5 c = some u := fun c u n z => by rw [hH5, upd_ne n]; exact st _ _ (k1 c u n z)
    have tt5 : Tups H H5 := by rw [hH5]; exact (t1.trans (Tups.of st)).trans t5
    have b5 : B3 wk br fo H H5 := by rw [hH5]; exact (b1'.trans (B3.of st)).trans B3.c
    rw [← hH5] at W5
    subst hH5
    refine ⟨_, rfl, l1, rfl, ⟨xs1, SqL.of (k5 _ _ n1.1 e1)⟩, ?_⟩
    refine fun D nD sm => ndc_ded (i := 5) (ws := fa) (k5 _ _ n1.1 e1) (NVs.keep tt5 _ _ w1) (Nat.le_trans hb2.1 (by decide)) nD sm (fun v => rfl) (fun v => rfl) fun G2 js s2 N ej => ?_
    refine ⟨_, rfl, wk, C, dx, _, rfl, s2 _ _ (k5 _ _ nwf h1), T.cl, T.nw, (by show 5 < 1000; decide), q _ _ ((b5.trans (B3.of s2)).trans B3.a) (.inr (.inl ⟨rfl, ps, fa, ff, hps, rfl⟩)) ?_⟩
    exact (W5.keep s2).ways (s2 _ _ (k5 _ _ nwf h1)) N ej (fun v hv => ok1 v (dedW_mem hv))
  · subst hen
    refine ⟨_, rfl, r, CR, dxr, _, _, rfl, er, R.cl, R.nw, rfl, rfl, _, rfl, iteBF (by decide +kernel) ?_⟩
    refine ⟨_, rfl, r, CR, dxr, _, _, rfl, er, R.cl, R.nw, rfl, rfl, _, rfl, iteBF (by decide +kernel) ?_⟩
    refine ⟨_, rfl, wk, C, dx, _, _, rfl, h1, T.cl, T.nf, rfl, .inl ⟨rfl, _, SqL.of h6⟩, fo, _, .ref T0, rfl, rfl, h6, (by simp), ?_⟩
    rw [← hH1]
    clear hH1
    refine ⟨T0, _, rfl, sqt_tups t1 hT0, rfl, _, _, rfl, _, _, rfl, rfl, ?_⟩
    refine ⟨_, rfl, wk, C, dx, _, _, rfl, k1 _ _ nwf h1, T.cl, T.nw, rfl, wy, ks, rfl, ND1, fun l nl => ?_⟩
    have sl := new_same (o := .lst (ks.map fun p => V.ref p.2)) nl
    have lk : (ks.map fun p => V.ref p.2).length = M.ws.length := by rw [nvs_len (ways_of ND1 h4), List.length_map]
    have c1 : xs1.length = fa.length := by rw [nvs_len w1, List.length_map]
    have c2 : xs2.length = ff.length := by rw [nvs_len w2, List.length_map]
    have hbw := hB.w
    have hz : ∀ {n : Nat}, n ≤ 900 → n ≤ sizeLine := fun h => Nat.le_trans h (by decide)
    refine ⟨_, rfl, l, l1, _, _, rfl, rfl, upd_same, sl _ _ (k1 _ _ n1.1 e1), hz (by rw [lk, c1]; omega), fun p np => ?_⟩
    have sp := same_new (o := .lst ((ks.map fun p => V.ref p.2) ++ xs1)) sl np
    refine ⟨_, rfl, p, l2, _, _, rfl, rfl, upd_same, sp _ _ (k1 _ _ n2.1 e2), hz (by rw [List.length_append, lk, c1, c2]; omega), fun p2 np2 => ?_⟩
    have sp2 := same_new (o := .lst (((ks.map fun p => V.ref p.2) ++ xs1) ++ xs2)) sp np2
    refine ⟨p2, rfl, ⟨_, SqL.of upd_same⟩, fun D nD sm => ndc_ded (i := 5) (ws := (M.ws ++ fa) ++ ff) upd_same ?_ (by rw [List.length_append, List.length_append]; omega) nD sm (fun v => rfl) (fun v => rfl) fun G2 js s2 N ej => ?_⟩
    · rw [List.map_append, List.map_append]
      exact NVs.keep (Tups.of sp2) _ _ (nvs_app (nvs_app (ways_of ND1 h4) (NVs.keep t1 _ _ w1)) (NVs.keep t1 _ _ w2))
    · have s12 := sp2.trans s2
      refine ⟨_, rfl, wk, C, dx, _, rfl, s12 _ _ (k1 _ _ nwf h1), T.cl, T.nw, (by show 5 < 1000; decide), q _ _ ((b1'.trans (B3.of s12)).trans B3.a) (.inr (.inr ⟨rfl, ps, fa, ff, hps, rfl⟩)) ?_⟩
      refine (W1.keep s12).ways (s12 _ _ (k1 _ _ nwf h1)) N ej (fun v hv => ?_)
      rcases List.mem_append.mp (dedW_mem hv) with hv | hv
      · rcases List.mem_append.mp hv with hv | hv
        · exact ok v hv
        · exact ok1 v hv
      · exact ok2 v hv
end
end H2
namespace H2
open PySem PySem.Spec PyProof.Rows L2 Hx Nd Dun
section
variable {P : Program} {w : World} {K : PySem.W.Frag} {mg : Str → Option Value} {base : Heap} {D : Addr}
/-! #### step -/
def isTop : Pl → Bool
  | .top => true
  | _ => false
def forkV : List V := [.str "if", .str "else", .str "end"]
def stepR (kd wd : Str) (pl : Pl) (n : Int) (m m' : WM) : Prop :=
  if isLoop wd = true then m' = beginM m n wd
  else if isTop pl = false then m' = stayM m n wd
  else if inV (.str wd) forkV = true then forkR wd n m m'
  else m' = passM kd m n wd
def stepOk (wd : Str) (pl : Pl) (m : WM) : Prop := isLoop wd = false → isTop pl = true → (inV (.str wd) forkV = true → wd = "if" ∨ m.fs ≠ []) ∧ (inV (.str wd) forkV = false → wd ∈ allowWords)
theorem forkV_cases {x : Str} (h : inV (.str x) forkV = true) : x = "if" ∨ x = "else" ∨ x = "end" := by
  simp [inV, forkV, eqV] at h
  rcases h with h | h | h
  · exact .inl h.symm
  · exact .inr (.inl h.symm)
  · exact .inr (.inr h.symm)
theorem top_ne (pl : Pl) : (!decide (V.str pl.str = V.str "top")) = !isTop pl := by cases pl <;> decide +kernel
abbrev psST : List Str := ["self", "line", "row"]
def spStepX (P : Program) (w : World) (K : PySem.W.Frag) (C CR : Addr) : Sp := fun vs H Q _ => ∃ (wk br fo r : Addr) (kd : Str) (n : Int) (wd : Str) (pl : Pl) (m : WM), vs = [.ref wk, .int n, .ref r] ∧ RowG K CR H r wd pl ∧ stepOk wd pl m ∧ WX P w K C H wk br fo (.str kd) m ∧ Bd m ∧
  ∀ H' m', B3 wk br fo H H' → stepR kd wd pl n m m' → WX P w K C H' wk br fo (.str kd) m' → Q .non H'
theorem ok_stepX {C CR fI tt aL : Addr} {m : Nat → Addr} (T : WalkX K mg C m) (R : RowT K mg CR fI tt) (cL : TupT K mg "LOOPS" aL loopsV) {d2 d3 d4 d5 : FuncData}
    (F2 : Fun K "begin_loop" "Walk.begin_loop" s_Walk_begin_loop (m 2) d2) (b2 : Binds K d2 psPL []) (G2 : FnOk P w K mg base CX0 2 (m 2) d2 psPL (spBeginX P w K C))
    (F3 : Fun K "stay_in_loop" "Walk.stay_in_loop" s_Walk_stay_in_loop (m 3) d3) (b3 : Binds K d3 psPL []) (G3 : FnOk P w K mg base CX0 1 (m 3) d3 psPL (spStayX P w K C))
    (F4 : Fun K "fork" "Walk.fork" s_Walk_fork (m 4) d4) (b4 : Binds K d4 psFK []) (G4 : FnOk P w K mg base CX0 2 (m 4) d4 psFK (spForkX P w K C CR))
    (F5 : Fun K "pass_line" "Walk.pass_line" s_Walk_pass_line (m 5) d5) (b5 : Binds K d5 psPL []) (G5 : FnOk P w K mg base CX0 2 (m 5) d5 psPL (spPassX P w K C)) :
    ∃ fd, Fun K "step" "Walk.step" s_Walk_step (m 1) fd ∧ Binds K fd psST [] ∧ FnOk P w K mg base CX0 3 (m 1) fd psST (spStepX P w K C CR) := by
  obtain ⟨fd, F, b⟩ := T.f1.fn
  refine ⟨fd, F, b, F.ok c_Walk_step (fun vs H Q E h => ?_) (fun cdv A outer s H vs Q E hr h => ?_)⟩
  · obtain ⟨wk, br, fo, r, kd, n, wd, pl, M, rfl, _⟩ := h
    rfl
  obtain ⟨wk, br, fo, r, kd, n, wd, pl, M, rfl, hrow, hst, hw, hB, q⟩ := h
  refine ⟨_, pss_one (ps_if (pt_cmpR op_in_seq (pe_fld (pv 2) rfl) (pe_glob (v := .ref aL) rfl cL.g rfl) rfl) (pss_one (ps_expr (pe_meth (pv 0) T.cl T.f2.m G2 hr b2 .nil pass0 (pa_cons (pv 1) (pa_cons (pe_fld (pv 2) rfl) pa_nil)))))
    (pss_one (ps_if (pt_cmpR op_ne (pe_fld (pv 2) rfl) pe_str (nomark _)) (pss_one (ps_expr (pe_meth (pv 0) T.cl T.f3.m G3 (hr.mono (by decide)) b3 .nil pass0 (pa_cons (pv 1) (pa_cons (pe_fld (pv 2) rfl) pa_nil)))))
    (pss_one (ps_if (pt_cmpR op_in_seq (pe_fld (pv 2) rfl) (pe_tup (pa_cons pe_str (pa_cons pe_str (pa_cons pe_str pa_nil)))) rfl) (pss_one (ps_expr (pe_meth (pv 0) T.cl T.f4.m G4 hr b4 .nil pass0 (pa_cons (pv 1) (pa_cons (pv 2) pa_nil)))))
      (pss_one (ps_expr (pe_meth (pv 0) T.cl T.f5.m G5 hr b5 .nil pass0 (pa_cons (pv 1) (pa_cons (pe_fld (pv 2) rfl) pa_nil)))))))))), ?_⟩
  obtain ⟨⟨dx, wy, ks, fl, h1, h2, h3, h4, h6, h7⟩, ne, ok⟩ := id hw
  obtain ⟨dxr, ttr, nu, er, ht⟩ := id hrow
  refine ⟨_, rfl, r, CR, dxr, _, _, rfl, er, R.cl, R.nw, rfl, aL, _, rfl, .inr (cL.s _), rfl, rfl, _, rfl, iteB (fun hl => ?_) (fun hl => ?_)⟩
  · have hl' : isLoop wd = true := hl
    refine ⟨_, rfl, wk, dx, _, rfl, h1, rfl, _, rfl, _, rfl, r, CR, dxr, _, _, rfl, er, R.cl, R.nw, rfl, wk, br, fo, .str kd, n, wd, M, rfl, hl', hw, hB.b, hB.w, fun H' bt w' => q H' _ bt ?_ w'⟩
    unfold stepR
    rw [if_pos hl']
  have hl' : isLoop wd = false := hl
  refine ⟨_, rfl, r, CR, dxr, _, _, rfl, er, R.cl, R.np, rfl, rfl, _, rfl, ?_⟩
  cases hp : isTop pl with
  | false =>
    refine iteBT (by have := top_ne pl; rw [hp] at this; exact this) ?_
    refine ⟨_, rfl, wk, dx, _, rfl, h1, rfl, _, rfl, _, rfl, r, CR, dxr, _, _, rfl, er, R.cl, R.nw, rfl, wk, br, fo, .str kd, n, wd, M, rfl, hw, Nat.le_trans hB.b (by decide), fun H' bt w' => q H' _ bt ?_ w'⟩
    unfold stepR
    rw [hl', if_neg (by decide), if_pos hp]
  | true =>
    obtain ⟨o1, o2⟩ := hst hl' hp
    refine iteBF (by have := top_ne pl; rw [hp] at this; exact this) ?_
    refine ⟨_, rfl, r, CR, dxr, _, _, rfl, er, R.cl, R.nw, rfl, (by show 3 ≤ sizeLine; decide), fun u nu => ⟨u, _, rfl, .inr (SqT.of upd_same), rfl, rfl, _, rfl, ?_⟩⟩
    have su := new_same (o := .tup [.str "if", .str "else", .str "end"]) nu
    refine iteB (fun hf => ?_) (fun hf => ?_)
    · have hf' : inV (.str wd) forkV = true := hf
      refine ⟨_, rfl, wk, dx, _, rfl, su _ _ h1, rfl, _, rfl, _, rfl, wk, br, fo, r, kd, n, wd, pl, M, rfl, hrow.keep su, ?_, hw.keep su, hB, fun H' m' bt hfk w' => q H' m' ((B3.of su).trans bt) ?_ w'⟩
      · rcases forkV_cases hf' with e | e | e
        · exact .inl e
        · rcases o1 hf' with o1 | o1
          · exact .inl o1
          · exact .inr ⟨.inl e, o1⟩
        · rcases o1 hf' with o1 | o1
          · exact .inl o1
          · exact .inr ⟨.inr e, o1⟩
      · unfold stepR
        rw [hl', if_neg (by decide), hp, if_neg (by decide), if_pos hf']
        exact hfk
    · have hf' : inV (.str wd) forkV = false := hf
      refine ⟨_, rfl, wk, dx, _, rfl, su _ _ h1, rfl, _, rfl, _, rfl, r, CR, dxr, _, _, rfl, su _ _ er, R.cl, R.nw, rfl, wk, br, fo, kd, n, wd, M, rfl, o2 hf', hw.keep su, hB.b, hB.w, fun H' bt w' => q H' _ ((B3.of su).trans bt) ?_ w'⟩
      unfold stepR
      rw [hl', if_neg (by decide), hp, if_neg (by decide), hf', if_neg (by decide)]
end
end H2
namespace H2
open PySem PySem.Spec PyProof.Rows L2 Hx Nd Dun
section
variable {P : Program} {w : World} {K : PySem.W.Frag} {mg : Str → Option Value} {base : Heap} {D : Addr}
/-! ### min(l, default=d) -/
theorem minOf_int : ∀ (xs : List Int) (x : Int), PySem.W.minOf x xs ∈ x :: xs ∧ ∀ y ∈ x :: xs, PySem.W.minOf x xs ≤ y
  | [], x => ⟨List.mem_cons_self, fun y hy => by rw [List.mem_singleton.mp hy]; exact Int.le_refl _⟩
  | z :: r, x => by
    have e : PySem.W.minOf x (z :: r) = PySem.W.minOf (if PySem.W.DatumOrd.lt z x = true then z else x) r := rfl
    obtain ⟨h1, h2⟩ := minOf_int r (if PySem.W.DatumOrd.lt z x = true then z else x)
    rw [e]
    have hlt : PySem.W.DatumOrd.lt z x = decide (z < x) := rfl
    rw [hlt] at h1 h2 ⊢
    by_cases h : z < x
    · rw [if_pos (decide_eq_true h)] at h1 h2 ⊢
      refine ⟨List.mem_cons_of_mem _ h1, fun y hy => ?_⟩
      rcases List.mem_cons.mp hy with rfl | hy
      · have := h2 z List.mem_cons_self
        omega
      · exact h2 y hy
    · rw [if_neg (by simpa using h)] at h1 h2 ⊢
      refine ⟨?_, fun y hy => ?_⟩
      · rcases List.mem_cons.mp h1 with h1 | h1
        · rw [h1]; exact List.mem_cons_self
        · exact List.mem_cons_of_mem _ (List.mem_cons_of_mem _ h1)
      · rcases List.mem_cons.mp hy with rfl | hy
        · exact h2 y List.mem_cons_self
        · rcases List.mem_cons.mp hy with rfl | hy
          · have := h2 x List.mem_cons_self
            omega
          · exact h2 y (List.mem_cons_of_mem _ hy)
theorem call_minD {X : Cx} (hc : X.calm = true) (hu : X.A.units + 64 < cLine) : CallRK X (.builtin "min") ["default"] (fun xs zs G Q => ∃ (a : Addr) (d : V) (ns : List Int), xs = [.ref a] ∧ zs = [d] ∧ SqL X.K G a (ns.map V.int) ∧ (ns = [] → Q d G) ∧ ∀ m, m ∈ ns → (∀ y ∈ ns, m ≤ y) → Q (.int m) G) := by
  intro pins s σ H xs zs us ws Q I r1 r2 h
  obtain ⟨a, d, ns, rfl, rfl, hq, q0, q⟩ := h
  match us, r1, ws, r2 with
  | [u], .cons ru .nil, [z], .cons rz .nil =>
    cases (show u = Value.ref a from ru)
    obtain ⟨its, rv, pl, hz⟩ := I.list hq
    refine PySem.W.min_list_datum_default (xs := ns) (I.ok.hd hc) pl.isList (PySem.W.HoldAll.of_ints rv.ints) (by show X.A.units + 1 + 0 < cLine; omega) (fun e h' tk k => ⟨d, H, I.kept (t' := tk) k, rz, q0 e⟩) (fun y ys i v h' tk e hi hv k => ?_)
    obtain ⟨t, rfl⟩ := PySem.W.int_of_holds hv
    subst e
    obtain ⟨g1, g2⟩ := minOf_int ys y
    exact ⟨.int _, H, I.kept (t' := tk) k, ⟨_, rfl⟩, q _ g1 g2⟩
/-! #### least_break -/
abbrev psLB : List Str := ["kind", "rows"]
/-- the least of them, or None -/
def LeastV (bs : List Int) (v : V) : Prop := (bs = [] ∧ v = .non) ∨ ∃ m, m ∈ bs ∧ (∀ y ∈ bs, m ≤ y) ∧ v = .int m
def spLeastX (K : PySem.W.Frag) (CR : Addr) : Sp := fun vs H Q _ => ∃ (l : Addr) (kd : Str) (rs : List Addr) (ps : List (Str × Pl)) (Pv : Nat → WM → Prop), vs = [.str kd, .ref l] ∧ H l = some (.lst (rs.map V.ref)) ∧ RowsG K CR H rs ps ∧ Pv 0 wm0 ∧
  (∀ i m p, ps[i]? = some p → Pv i m → stepOk p.1 p.2 m ∧ Bd m ∧ ∀ m', stepR kd p.1 p.2 (1 + (i : Int)) m m' → Pv (i + 1) m') ∧ (∀ m, Pv ps.length m → m.bs.length ≤ 2000000 ∧ m.ws.length ≤ 300) ∧
  ∀ H' m v, Same H H' → Pv ps.length m → LeastV (endM m).bs v → Q v H'
theorem B3.same {a b c : Addr} {H0 H H' : Hp} (x : B3 a b c H H') (s : Same H0 H) (na : H0 a = none) (nb : H0 b = none) (nc : H0 c = none) : Same H0 H' := fun d u z => x d u (fun e => by rw [e, na] at z; cases z) (fun e => by rw [e, nb] at z; cases z) (fun e => by rw [e, nc] at z; cases z) (s d u z)
theorem ok_leastX {f C CR fI tt aF : Addr} {m : Nat → Addr} (T0 : FT K mg "least_break" s_least_break psLB f) (T : WalkX K mg C m) (cF : FreshX K mg aF) (lst : mg "list" = none) (enu : mg "enumerate" = none) (mn : mg "min" = none) {d1 : FuncData}
    (F1 : Fun K "step" "Walk.step" s_Walk_step (m 1) d1) (b1 : Binds K d1 psST []) (G1 : FnOk P w K mg base CX0 3 (m 1) d1 psST (spStepX P w K C CR)) :
    ∃ fd, Fun K "least_break" "least_break" s_least_break f fd ∧ Binds K fd psLB [] ∧ FnOk P w K mg base CX0 4 f fd psLB (spLeastX K CR) := by
  obtain ⟨fd, F, b⟩ := T0.fn
  obtain ⟨d6, F6, b6, G6⟩ := ok_endX (P := P) (w := w) (base := base) T lst
  obtain ⟨d0, F0, b0⟩ := T.f0
  refine ⟨fd, F, b, F.ok c_least_break (fun vs H Q E h => ?_) (fun cdv A outer s H vs Q E hr h => ?_)⟩
  · obtain ⟨l, kd, rs, ps, Pv, rfl, _⟩ := h
    rfl
  obtain ⟨l, kd, rs, ps, Pv, rfl, hl, hrow, hp0, hps, hpe, q⟩ := h
  refine ⟨_, pss_cons (ps_set (i := 2) c_least_break.nd rfl (Or.inl rfl) (pe_make T.mak (ok_WalkX T cF F0) (hr.mono (by decide)) rfl T.g b0 .nil pass0 (pa_cons (pv 0) pa_nil)))
    (pss_cons (ps_for PassesOwn.never rfl (Nd.pi_from enu (by decide) (by decide) (pa_cons (pv 1) pa_nil)) (pg_tup rfl (pgs_cons (pg_name (i := 3) c_least_break.nd rfl (Or.inl rfl)) (pgs_cons (pg_name (i := 4) c_least_break.nd rfl (Or.inl rfl)) pgs_nil)))
      (pss_one (ps_expr (pe_meth (pv 2) T.cl T.f1.m G1 hr b1 .nil pass0 (pa_cons (pv 3) (pa_cons (pv 4) pa_nil))))))
    (pss_cons (ps_expr (pe_meth0 (pv 2) T.cl T.f6.m G6 (hr.mono (by decide)) b6 .nil pass0))
    (pss_one (ps_ret (pe_callBK (call_minD rfl hr.units) rfl mn (by decide +kernel) (pa_cons (pe_fld (pv 2) rfl) pa_nil) (pk_cons pe_non pk_nil)))))), ?_⟩
  refine ⟨_, rfl, fun wk dx nwk nd nw => ⟨wk, dx, .str kd, rfl, upd_same, fun H1 br fo b1' nbr nfo w1 => ⟨rfl, ?_⟩⟩⟩
  have nwk' : upd H dx (.own wk) wk = none := by rw [upd_ne nw.symm]; exact nwk
  have sH : Same H (upd (upd H dx (.own wk)) wk (.ins C dx [])) := same_new (new_same nd) nwk'
  have s1 : Same H H1 := fun c u z => b1' c u (ne_of_none z nwk) (sH c u z)
  have nfoH : H fo = none := free_same sH nfo
  have nbrH : H br = none := free_same sH nbr
  have hlen := hrow.1
  refine ⟨_, rfl, l, _, rfl, SqL.of (s1 _ _ hl), for_from (K := K) (a := l) (xs := rs.map V.ref) (fun i σ G => ∃ (o : WM) (v3 v4 : Option V), σ = [some (.str kd), some (.ref l), some (.ref wk), v3, v4] ∧ Same H G ∧ WX P w K C G wk br fo (.str kd) o ∧ Pv i o)
    ⟨wm0, none, none, rfl, s1, w1, hp0⟩ ?_ ?_ ?_⟩
  · rintro i σ G _ ⟨o, v3, v4, rfl, sG, _⟩
    exact SqL.of (sG _ _ hl)
  · rintro i x σ G Tp hi ⟨o, v3, v4, rfl, sG, wG, hpv⟩ nT
    rw [List.getElem?_map] at hi
    cases hri : rs[i]? with
    | none => rw [hri] at hi; cases hi
    | some r =>
      rw [hri] at hi
      cases hi
      have hlt : i < ps.length := by rw [← hlen]; exact (List.getElem?_eq_some_iff.mp hri).1
      have hti : ps[i]? = some ps[i] := List.getElem?_eq_getElem hlt
      obtain ⟨ho1, ho2, ho3⟩ := hps i o _ hti hpv
      have sT := new_same (o := .tup [.int (1 + (i : Int)), .ref r]) nT
      obtain ⟨⟨dxw, wy, ks, fs, h1, _⟩, _⟩ := id wG
      refine ⟨Tp, _, rfl, SqT.of upd_same, rfl, _, _, rfl, _, _, rfl, rfl, ?_⟩
      refine ⟨_, rfl, wk, dxw, _, rfl, sT _ _ h1, rfl, _, rfl, _, rfl, wk, br, fo, r, kd, _, ps[i].1, ps[i].2, o, rfl, (hrow.2 i r _ hri hti).keep (sG.trans sT), ho1, wG.keep sT, ho2, fun G2 o' bt hst w2 => ?_⟩
      exact ⟨o', _, _, rfl, bt.same (sG.trans sT) nwk nbrH nfoH, w2, ho3 o' hst⟩
  · rintro σ G ⟨o, v3, v4, rfl, sG, wG, hpv⟩
    rw [List.length_map, hlen] at hpv
    obtain ⟨he1, he2⟩ := hpe o hpv
    obtain ⟨⟨dxw, wy, ks, fs, h1, _⟩, _⟩ := id wG
    refine ⟨_, rfl, wk, dxw, _, rfl, h1, rfl, wk, br, fo, .str kd, o, rfl, wG, he1, he2, fun G2 bt w2 => ?_⟩
    obtain ⟨⟨dxw, wy, ks, fs, h1, h2, _⟩, _⟩ := id w2
    exact ⟨_, rfl, wk, C, dxw, _, _, rfl, h1, T.cl, T.nb, rfl, br, .non, _, rfl, rfl, SqL.of h2, fun e => q _ o _ (bt.same sG nwk nbrH nfoH) hpv (.inl ⟨e, rfl⟩), fun k h1 h2 => q _ o _ (bt.same sG nwk nbrH nfoH) hpv (.inr ⟨k, h1, h2, rfl⟩)⟩
end
end H2
namespace H2
open PySem PySem.Spec PyProof.Rows L2 Hx Nd Dun
section
variable {P : Program} {w : World} {K : PySem.W.Frag} {mg : Str → Option Value} {base : Heap} {D : Addr}
/-! ### what the flow's parts need -/
theorem strV {a b : Str} : decide (V.str a = V.str b) = decide (a = b) := by
  by_cases h : a = b
  · rw [h]; simp
  · rw [decide_eq_false h, decide_eq_false fun z => h (V.str.inj z)]
theorem if_with {c : TT} {t u : TS} {D : Ends} {σ : L2.St} {H : Hp} {S : Hp → Prop} (h0 : ∀ G, S G → u D σ G) (h : (∀ G, S G → u D σ G) → tIfS c t u D σ H) : tIfS c t u D σ H := h h0
end
end H2
namespace H2
open PySem PySem.Spec PyProof.Rows L2 Hx Nd Dun
section
variable {P : Program} {w : World} {K : PySem.W.Frag} {mg : Str → Option Value} {base : Heap} {D : Addr}
/-! ### the blocks of a text, as depths -/
def balF : Nat → List Str → Option Nat
  | d, [] => some d
  | d, x :: r => if (decide (x = "if") || isLoop x) = true then balF (d + 1) r
      else if x = "else" then (if d = 0 then none else balF d r)
      else if x = "end" then (if d = 0 then none else balF (d - 1) r)
      else balF d r
theorem row_word_blk {l : Str} {os : List Str} {wd : Int} {p : Str × Pl} (h : rowOf l os wd = some p) (hb : p.1 = "else" ∨ p.1 = "end") : os ≠ [] := by
  intro z
  subst z
  unfold rowOf at h
  have nb : ∀ a : Str, blockOf a [] = false := fun a => rfl
  have nt : ∀ x : Str, x = "else" ∨ x = "end" → inV (.str x) topV = false ∧ inV (.str x) inLoopV = false ∧ x ≠ "if" ∧ isLoop x = false ∧ x ≠ "pick" := fun x hx => by
    rcases hx with rfl | rfl <;> decide +kernel
  by_cases c1 : inV (.str l) blocksV = true
  · rw [if_pos c1, nb, if_neg Bool.false_ne_true] at h
    cases h
  rw [if_neg c1] at h
  by_cases c2 : inV (.str l) (if (loopsOf ([] : List Str)).isEmpty = true then topV else inLoopV) = true
  · rw [if_pos c2] at h
    cases h
    obtain ⟨a, b, _⟩ := nt _ hb
    have c2' : inV (.str l) topV = true := c2
    rw [a] at c2'
    cases c2'
  rw [if_neg c2] at h
  by_cases c3 : (Txt.partition l " ").1 = "if"
  · rw [if_pos c3] at h
    split at h
    · cases h
      exact absurd c3 (nt _ hb).2.2.1
    · cases h
  rw [if_neg c3] at h
  by_cases c4 : (isLoop (Txt.partition l " ").1 && (loopsOf ([] : List Str)).isEmpty) = true
  · rw [if_pos c4] at h
    split at h
    · cases h
      rw [Bool.and_eq_true] at c4
      have := (nt _ hb).2.2.2.1
      have c4' : isLoop (Txt.partition l " ").1 = true := c4.1
      rw [this] at c4'
      cases c4'
    · cases h
  rw [if_neg c4] at h
  by_cases c5 : (Txt.partition l " ").1 = "pick"
  · rw [if_pos c5] at h
    split at h
    · cases h
      exact absurd rfl (nt _ hb).2.2.2.2
    · cases h
  · rw [if_neg c5] at h
    cases h
theorem rows_bal {wd : Int} : ∀ {ls : List Str} {os e : List Str} {k : Nat} {ps : List (Str × Pl)}, rowsFrom wd os ls k = .inr (ps, e) → balF os.length (ps.map (·.1)) = some e.length
  | [], os, e, k, ps, h => by
    rw [rowsFrom] at h
    cases h
    rfl
  | l :: r, os, e, k, ps, h => by
    rw [rowsFrom] at h
    cases hp : rowOf l os wd with
    | none => rw [hp] at h; cases h
    | some p =>
      rw [hp] at h
      dsimp only at h
      cases hr : rowsFrom wd (behindOf p.1 os) r (k + 1) with
      | inl j => rw [hr] at h; cases h
      | inr z =>
        obtain ⟨ps', e'⟩ := z
        rw [hr] at h
        cases h
        have ih := rows_bal hr
        rw [List.map_cons, balF]
        unfold behindOf at ih
        by_cases c1 : (decide (p.1 = "if") || isLoop p.1) = true
        · rw [if_pos c1] at ih ⊢
          rw [List.length_append] at ih
          exact ih
        · rw [if_neg c1] at ih ⊢
          by_cases c2 : p.1 = "else"
          · have hne := row_word_blk hp (.inl c2)
            have hl : 0 < os.length := List.length_pos_iff.mpr hne
            rw [if_pos c2] at ih ⊢
            rw [if_neg (by omega)]
            rw [List.length_append, List.length_dropLast] at ih
            have : os.length - 1 + [p.1].length = os.length := by show os.length - 1 + 1 = _; omega
            rw [this] at ih
            exact ih
          · rw [if_neg c2] at ih ⊢
            by_cases c3 : p.1 = "end"
            · have hne := row_word_blk hp (.inr c3)
              have hl : 0 < os.length := List.length_pos_iff.mpr hne
              rw [if_pos c3] at ih ⊢
              rw [if_neg (by omega)]
              rw [List.length_dropLast] at ih
              exact ih
            · rw [if_neg c3] at ih ⊢
              exact ih
theorem lines_bal {ls : List Str} {wd : Int} {ps : List (Str × Pl)} (h : linesOf ls wd = .inr ps) : balF 0 (ps.map (·.1)) = some 0 := by
  unfold linesOf at h
  split at h
  · cases h
  · rename_i ps' hr
    cases h
    exact rows_bal hr
  · cases h
/-! ### the dicts of blocks -/
abbrev kI (n : Nat) : Key := Sum.inl (n : Int)
theorem valV_mem {kvs : List (Key × V)} {k : Key} {v : V} : valV kvs k = some v → (k, v) ∈ kvs := by
  induction kvs with
  | nil => intro h; rw [valV_nil] at h; cases h
  | cons p r ih =>
    intro h
    by_cases e : p.1 = k
    · rw [valV_pos e] at h
      cases h
      rw [← e]
      exact List.mem_cons_self
    · rw [valV_neg e] at h
      exact List.mem_cons_of_mem _ (ih h)
theorem mem_put {kvs : List (Key × V)} {k : Key} {v : V} {kv : Key × V} (h : kv ∈ putK kvs k v) : kv ∈ kvs ∨ kv = (k, v) := by
  unfold putK at h
  split at h
  · obtain ⟨z, hz, rfl⟩ := List.mem_map.mp h
    split
    · rename_i c
      exact .inr (by rw [c])
    · exact .inl hz
  · rcases List.mem_append.mp h with h | h
    · exact .inl h
    · exact .inr (List.mem_singleton.mp h)
theorem put_len {kvs : List (Key × V)} {k : Key} {v : V} : (putK kvs k v).length ≤ kvs.length + 1 := by
  unfold putK
  split
  · rw [List.length_map]; omega
  · rw [List.length_append]; exact Nat.le_refl _
structure BI (i : Nat) (hk ek : List (Key × V)) (os : List Nat) : Prop where
  hh : ∀ kv ∈ hk, ∃ jn hn : Nat, kv = (kI jn, .int (hn : Int)) ∧ jn < i ∧ hn < i ∧ (hn ∈ os ∨ ∃ en : Nat, valV ek (kI hn) = some (.int (en : Int)) ∧ jn ≤ en ∧ en < i)
  ee : ∀ kv ∈ ek, ∃ hn en : Nat, kv = (kI hn, .int (en : Int)) ∧ hn < i ∧ en < i
  oo : ∀ h ∈ os, h < i
  hl : hk.length ≤ i
  el : ek.length ≤ i
  ol : os.length ≤ i
theorem BI.start : BI 0 [] [] [] := ⟨fun _ h => (List.not_mem_nil h).elim, fun _ h => (List.not_mem_nil h).elim, fun _ h => (List.not_mem_nil h).elim, Nat.le_refl _, Nat.le_refl _, Nat.le_refl _⟩
section
variable {i : Nat} {hk ek : List (Key × V)} {os : List Nat} {h : Nat}
theorem BI.skip (b : BI i hk ek os) : BI (i + 1) hk ek os := by
  refine ⟨fun kv hkv => ?_, fun kv hkv => ?_, fun h hh => ?_, Nat.le_succ_of_le b.hl, Nat.le_succ_of_le b.el, Nat.le_succ_of_le b.ol⟩
  · obtain ⟨jn, hn, e, h1, h2, h3⟩ := b.hh kv hkv
    exact ⟨jn, hn, e, by omega, by omega, h3.elim .inl fun ⟨en, a, c, d⟩ => .inr ⟨en, a, c, by omega⟩⟩
  · obtain ⟨hn, en, e, h1, h2⟩ := b.ee kv hkv
    exact ⟨hn, en, e, by omega, by omega⟩
  · have := b.oo h hh
    omega
theorem BI.push (b : BI i hk ek os) : BI (i + 1) hk ek (os ++ [i]) := by
  have c := b.skip
  refine ⟨fun kv hkv => ?_, c.ee, fun h hh => ?_, c.hl, c.el, by rw [List.length_append]; exact Nat.succ_le_succ b.ol⟩
  · obtain ⟨jn, hn, e, h1, h2, h3⟩ := c.hh kv hkv
    exact ⟨jn, hn, e, h1, h2, h3.elim (fun z => .inl (List.mem_append_left _ z)) .inr⟩
  · rcases List.mem_append.mp hh with hh | hh
    · exact c.oo h hh
    · rw [List.mem_singleton.mp hh]; omega
theorem BI.other (b : BI i hk ek (os ++ [h])) : BI (i + 1) (putK hk (kI i) (.int (h : Int))) ek (os ++ [h]) := by
  have c := b.skip
  have hi := b.oo h (List.mem_append_right _ List.mem_cons_self)
  refine ⟨fun kv hkv => ?_, c.ee, c.oo, Nat.le_trans put_len (Nat.succ_le_succ b.hl), c.el, c.ol⟩
  rcases mem_put hkv with hkv | hkv
  · exact c.hh kv hkv
  · exact ⟨i, h, hkv, by omega, by omega, .inl (List.mem_append_right _ List.mem_cons_self)⟩
theorem BI.close (b : BI i hk ek (os ++ [h])) : BI (i + 1) (putK hk (kI i) (.int (h : Int))) (putK ek (kI h) (.int (i : Int))) os := by
  have c := b.skip
  have hi := b.oo h (List.mem_append_right _ List.mem_cons_self)
  have hol := b.ol
  rw [List.length_append] at hol
  have hv : valV (putK ek (kI h) (.int (i : Int))) (kI h) = some (.int (i : Int)) := by rw [valV_put, if_pos rfl]
  refine ⟨fun kv hkv => ?_, fun kv hkv => ?_, fun z hz => c.oo z (List.mem_append_left _ hz), Nat.le_trans put_len (Nat.succ_le_succ b.hl), Nat.le_trans put_len (Nat.succ_le_succ b.el), by omega⟩
  · rcases mem_put hkv with hkv | hkv
    · obtain ⟨jn, hn, e, h1, h2, h3⟩ := b.hh kv hkv
      refine ⟨jn, hn, e, by omega, by omega, ?_⟩
      by_cases hz : hn = h
      · rw [hz]
        exact .inr ⟨i, hv, by omega, by omega⟩
      · rcases h3 with h3 | ⟨en, a, c, d⟩
        · rcases List.mem_append.mp h3 with h3 | h3
          · exact .inl h3
          · exact absurd (List.mem_singleton.mp h3) hz
        · refine .inr ⟨en, ?_, c, by omega⟩
          rw [valV_put, if_neg ?_]
          · exact a
          · intro z
            have := Sum.inl.inj z
            omega
    · exact ⟨i, h, hkv, by omega, by omega, .inr ⟨i, hv, Nat.le_refl _, by omega⟩⟩
  · rcases mem_put hkv with hkv | hkv
    · exact c.ee kv hkv
    · exact ⟨h, i, hkv, by omega, by omega⟩
end
/-- what the dicts tell of n rows -/
structure FlowOk (n : Nat) (hk ek : List (Key × V)) : Prop where
  hh : ∀ kv ∈ hk, ∃ jn hn en : Nat, kv = (kI jn, .int (hn : Int)) ∧ jn < n ∧ hn < n ∧ valV ek (kI hn) = some (.int (en : Int)) ∧ jn ≤ en ∧ en < n
  ee : ∀ kv ∈ ek, ∃ hn en : Nat, kv = (kI hn, .int (en : Int)) ∧ hn < n ∧ en < n
theorem BI.done {i : Nat} {hk ek : List (Key × V)} (b : BI i hk ek []) : FlowOk i hk ek := by
  refine ⟨fun kv hkv => ?_, b.ee⟩
  obtain ⟨jn, hn, e, h1, h2, h3⟩ := b.hh kv hkv
  rcases h3 with h3 | ⟨en, a, c, d⟩
  · cases h3
  · exact ⟨jn, hn, en, e, h1, h2, a, c, d⟩
end
end H2
namespace H2
open PySem PySem.Spec PyProof.Rows L2 Hx Nd Dun
section
variable {P : Program} {w : World} {K : PySem.W.Frag} {mg : Str → Option Value} {base : Heap} {D : Addr}
/-! ### match_blocks -/
/-- a row with this word -/
def RowW (K : PySem.W.Frag) (C : Addr) (H : Hp) (r : Addr) (x : Str) : Prop := ∃ (dx : Addr) (fs : List (Str × V)), H r = some (.ins C dx fs) ∧ fs.lookup ("word" : Str) = some (V.str x)
def RowsW (K : PySem.W.Frag) (C : Addr) (H : Hp) (rs : List Addr) (wr : List Str) : Prop := rs.length = wr.length ∧ ∀ (i : Nat) (r : Addr) (x : Str), rs[i]? = some r → wr[i]? = some x → RowW K C H r x
theorem RowW.keep {C r : Addr} {x : Str} {H H' : Hp} (h : RowW K C H r x) (e : Same H H') : RowW K C H' r x := by
  obtain ⟨dx, fs, h1, h2⟩ := h
  exact ⟨dx, fs, e _ _ h1, h2⟩
theorem RowsW.keep {C : Addr} {rs : List Addr} {wr : List Str} {H H' : Hp} (h : RowsW K C H rs wr) (e : Same H H') : RowsW K C H' rs wr := ⟨h.1, fun i r x a b => (h.2 i r x a b).keep e⟩
def intsN (os : List Nat) : List V := os.map fun (n : Nat) => V.int (n : Int)
def spMB (K : PySem.W.Frag) (C : Addr) : Sp := fun vs H Q _ => ∃ (t : Addr) (rs : List Addr) (wr : List Str), vs = [.ref t] ∧ SqT K H t (rs.map V.ref) ∧ RowsW K C H rs wr ∧ wr.length ≤ 900 ∧ balF 0 wr = some 0 ∧
  ∀ H' t' he en hk ek, Same H H' → SqT K H' t' [.ref he, .ref en] → H' he = some (.dK hk) → H' en = some (.dK ek) → he ≠ en → H he = none → H en = none → FlowOk rs.length hk ek → Q (.ref t') H'
theorem ok_mb {f CR fI tt aL : Addr} (T : FT K mg "match_blocks" s_match_blocks ["rows"] f) (R : RowT K mg CR fI tt) (cL : TupT K mg "LOOPS" aL loopsV) (enu : mg "enumerate" = none) :
    ∃ fd, Fun K "match_blocks" "match_blocks" s_match_blocks f fd ∧ Binds K fd ["rows"] [] ∧ FnOk P w K mg base CX0 1 f fd ["rows"] (spMB K CR) := by
  obtain ⟨fd, F, b⟩ := T.fn
  refine ⟨fd, F, b, F.ok c_match_blocks (fun vs H Q E h => ?_) (fun cdv A outer s H vs Q E hr h => ?_)⟩
  · obtain ⟨t, rs, wr, rfl, _⟩ := h
    rfl
  obtain ⟨t, rs, wr, rfl, ht, hrs, hlen, hbal, q⟩ := h
  have hu := hu_of hr
  refine ⟨_, pss_cons (ps_set (i := 1) c_match_blocks.nd rfl (Or.inl rfl) pe_dnewK) <| pss_cons (ps_set (i := 2) c_match_blocks.nd rfl (Or.inl rfl) pe_dnewK) <| pss_cons (ps_set (i := 3) c_match_blocks.nd rfl (Or.inl rfl) (pe_lst pa_nil)) <|
    pss_cons (ps_for PassesOwn.never rfl (Nd.pi_enumT (by rfl) enu (pa_cons (pv 0) pa_nil)) (pg_tup rfl (pgs_cons (pg_name (i := 4) c_match_blocks.nd rfl (Or.inl rfl)) (pgs_cons (pg_name (i := 5) c_match_blocks.nd rfl (Or.inl rfl)) pgs_nil)))
      (pss_one (ps_if (PW.pt (pw_or (pt_cmpR op_eq (pe_fld (pv 5) rfl) pe_str (nomark _)) (pw_or1 (pt_cmpR op_in_seq (pe_fld (pv 5) rfl) (pe_glob (v := .ref aL) rfl cL.g rfl) rfl))))
        (pss_one (ps_expr (pe_bm PySem.F.plainAttrs_list PySem.F.slot_list_append PySem.F.type_list_append mt_append (pv 3) (pa_cons (pv 4) pa_nil))))
        (pss_one (ps_if (pt_cmpR op_eq (pe_fld (pv 5) rfl) pe_str (nomark _)) (pss_one (ps_dput hu (pv 1) (pv 4) (pe_ix ix_list (pv 3) (pe_un un_neg pe_int) (fun _ _ => rfl)) rfl))
          (pss_one (ps_if (pt_cmpR op_eq (pe_fld (pv 5) rfl) pe_str (nomark _)) (pss_cons (ps_dput hu (pv 1) (pv 4) (pe_bm0 PySem.F.plainAttrs_list PySem.F.slot_list_pop PySem.F.type_list_pop mt_pop (pv 3)) rfl) (pss_one (ps_dput hu (pv 2) (pe_dget hu (pv 1) (pv 4) (fun _ _ => rfl)) (pv 4) rfl))) pss_nil))))))) <|
    pss_one (ps_ret (pe_tup (pa_cons (pv 1) (pa_cons (pv 2) pa_nil)))), ?_⟩
  refine fun he nhe => fun en nen => ⟨Nat.zero_le _, fun op nop => ?_⟩
  obtain ⟨nen1, nee⟩ := free_upd nen
  obtain ⟨nop1, nope⟩ := free_upd nop
  obtain ⟨nop2, noph⟩ := free_upd nop1
  have s3 : Same H (upd (upd (upd H he (.dK [])) en (.dK [])) op (.lst [])) := same_new (same_new (new_same nhe) nen) nop
  refine ⟨_, rfl, t, _, rfl, sqt_same s3 ht, Nd.for_enumT (K := K) (a := t) (xs := rs.map V.ref) (fun i σ G => ∃ (hk ek : List (Key × V)) (os : List Nat) (v4 v5 : Option V), σ = [some (.ref t), some (.ref he), some (.ref en), some (.ref op), v4, v5] ∧ Same H G ∧ G he = some (.dK hk) ∧ G en = some (.dK ek) ∧ G op = some (.lst (intsN os)) ∧ BI i hk ek os ∧ balF os.length (wr.drop i) = some 0)
    ⟨[], [], [], none, none, rfl, s3, by rw [upd_ne noph.symm, upd_ne nee.symm, upd_same], by rw [upd_ne nope.symm, upd_same], upd_same, .start, hbal⟩ ?_ ?_ ?_⟩
  · rintro i σ G _ ⟨hk, ek, os, v4, v5, rfl, sG, _⟩
    exact sqt_same sG ht
  · rintro i v σ G T hi ⟨hk, ek, os, v4, v5, rfl, sG, ehe, een, eop, bi, hb⟩ nT
    rw [List.getElem?_map] at hi
    cases hri : rs[i]? with
    | none => rw [hri] at hi; cases hi
    | some r =>
      rw [hri] at hi
      cases hi
      have hil : i < rs.length := (List.getElem?_eq_some_iff.mp hri).1
      have hiw : i < wr.length := by rw [← hrs.1]; exact hil
      obtain ⟨x, hx⟩ : ∃ x, wr[i]? = some x := ⟨_, List.getElem?_eq_getElem hiw⟩
      have hd : wr.drop i = x :: wr.drop (i + 1) := by
        rw [List.drop_eq_getElem_cons hiw, (List.getElem?_eq_some_iff.mp hx).2]
      rw [hd, balF] at hb
      have sT := new_same (o := .tup [.int (i : Nat), .ref r]) nT
      have sGT : Same H (upd G T (.tup [.int (i : Nat), .ref r])) := same_new sG nT
      obtain ⟨dx, fs, hr1, hr2⟩ := (hrs.2 i r x hri hx).keep sGT
      have ehe1 := sT _ _ ehe
      have een1 := sT _ _ een
      have eop1 := sT _ _ eop
      have eT : (upd G T (.tup [.int (i : Nat), .ref r])) T = some (.tup [.int (i : Nat), .ref r]) := upd_same
      generalize upd G T (.tup [.int (i : Nat), .ref r]) = G1 at sGT hr1 ehe1 een1 eop1 eT ⊢
      refine ⟨T, _, rfl, SqT.of eT, rfl, _, _, rfl, _, _, rfl, rfl, ?_⟩
      have nhe1 : he ≠ en := nee.symm
      have nhop : op ≠ he := noph
      have big9 : ∀ {n : Nat}, n ≤ 900 → n < sizeLine := fun h => Nat.lt_of_le_of_lt h (by decide)
      -- the word of the row
      refine ⟨_, rfl, r, CR, dx, fs, _, rfl, hr1, R.cl, R.nw, hr2, rfl, _, rfl, ?_⟩
      rw [strV]
      have push : (decide (x = "if") || isLoop x) = true → BI (i + 1) hk ek (os ++ [i]) ∧ balF (os ++ [i]).length (wr.drop (i + 1)) = some 0 := fun c => by
        rw [if_pos c] at hb
        exact ⟨bi.push, by rw [List.length_append]; exact hb⟩
      have hol : (intsN os).length < sizeLine := by
        unfold intsN
        rw [List.length_map]
        exact big9 (by have := bi.ol; have := hrs.1; omega)
      have appnd : (decide (x = "if") || isLoop x) = true → ∀ G2, Same H G2 → G2 he = some (.dK hk) → G2 en = some (.dK ek) → G2 op = some (.lst (intsN os)) → Same H (upd G2 op (.lst (intsN os ++ [.int (i : Nat)]))) ∧ (upd G2 op (.lst (intsN os ++ [.int (i : Nat)]))) he = some (.dK hk) ∧ (upd G2 op (.lst (intsN os ++ [.int (i : Nat)]))) en = some (.dK ek) ∧ (upd G2 op (.lst (intsN os ++ [.int (i : Nat)]))) op = some (.lst (intsN (os ++ [i]))) := fun _ G2 s2 a1 a2 a3 =>
        ⟨same_out s2 nop2, by rw [upd_ne noph.symm]; exact a1, by rw [upd_ne nope.symm]; exact a2, by rw [upd_same]; unfold intsN; rw [List.map_append]; rfl⟩
      refine iteB (fun h1 => ?_) (fun h1 => ?_)
      · have c : (decide (x = "if") || isLoop x) = true := by rw [h1]; rfl
        obtain ⟨p1, p2⟩ := push c
        obtain ⟨a1, a2, a3, a4⟩ := appnd c G1 sGT ehe1 een1 eop1
        refine ⟨_, rfl, .inl ⟨rfl, _, SqL.of eop1⟩, _, rfl, op, _, _, rfl, rfl, eop1, hol, ?_⟩
        exact ⟨hk, ek, os ++ [i], _, _, rfl, a1, a2, a3, a4, p1, p2⟩
      refine ⟨_, rfl, r, CR, dx, fs, _, rfl, hr1, R.cl, R.nw, hr2, aL, _, rfl, .inr (cL.s _), rfl, rfl, _, rfl, ?_⟩
      refine iteB (fun h2 => ?_) (fun h2 => ?_)
      · have h2' : isLoop x = true := h2
        have c : (decide (x = "if") || isLoop x) = true := by rw [h2', Bool.or_true]
        obtain ⟨p1, p2⟩ := push c
        obtain ⟨a1, a2, a3, a4⟩ := appnd c G1 sGT ehe1 een1 eop1
        refine ⟨_, rfl, .inl ⟨rfl, _, SqL.of eop1⟩, _, rfl, op, _, _, rfl, rfl, eop1, hol, ?_⟩
        exact ⟨hk, ek, os ++ [i], _, _, rfl, a1, a2, a3, a4, p1, p2⟩
      have h2' : isLoop x = false := h2
      have c0 : ¬ (decide (x = "if") || isLoop x) = true := by rw [h1, h2']; decide
      rw [if_neg c0] at hb
      refine ⟨_, rfl, r, CR, dx, fs, _, rfl, hr1, R.cl, R.nw, hr2, rfl, _, rfl, ?_⟩
      rw [strV]
      have hkl : hk.length < sizeLine := big9 (by have := bi.hl; have := hrs.1; omega)
      have ekl : ek.length < sizeLine := big9 (by have := bi.el; have := hrs.1; omega)
      refine iteB (fun h3 => ?_) (fun h3 => ?_)
      · have hx3 : x = "else" := of_decide_eq_true h3
        rw [if_pos hx3] at hb
        by_cases hz : os.length = 0
        · rw [if_pos hz] at hb; cases hb
        rw [if_neg hz] at hb
        obtain ⟨os', h, rfl⟩ : ∃ os' h, os = os' ++ [h] := by
          rcases List.eq_nil_or_concat os with e | ⟨r, z, e⟩
          · rw [e] at hz; exact absurd rfl hz
          · exact ⟨r, z, by rw [e, List.concat_eq_append]⟩
        have hlast : atI (intsN (os' ++ [h])) (-1) = some (.int (h : Int)) := by
          unfold intsN
          rw [List.map_append]
          exact atI_last _ _
        refine ⟨_, rfl, _, rfl, op, _, _, _, rfl, rfl, SqL.of eop1, hlast, _, rfl, _, rfl, he, _, rfl, DPut.k (k := kI i) ehe1 hkl, ?_⟩
        refine ⟨putK hk (kI i) (.int (h : Int)), ek, os' ++ [h], _, _, rfl, same_out sGT nhe, upd_same, by rw [upd_ne nhe1.symm]; exact een1, by rw [upd_ne nhop]; exact eop1, bi.other, hb⟩
      have hx3 : ¬ x = "else" := of_decide_eq_false h3
      rw [if_neg hx3] at hb
      refine ⟨_, rfl, r, CR, dx, fs, _, rfl, hr1, R.cl, R.nw, hr2, rfl, _, rfl, ?_⟩
      rw [strV]
      refine iteB (fun h4 => ?_) (fun h4 => ?_)
      · have hx4 : x = "end" := of_decide_eq_true h4
        rw [if_pos hx4] at hb
        by_cases hz : os.length = 0
        · rw [if_pos hz] at hb; cases hb
        rw [if_neg hz] at hb
        obtain ⟨os', h, rfl⟩ : ∃ os' h, os = os' ++ [h] := by
          rcases List.eq_nil_or_concat os with e | ⟨r, z, e⟩
          · rw [e] at hz; exact absurd rfl hz
          · exact ⟨r, z, by rw [e, List.concat_eq_append]⟩
        have hlen2 : (intsN (os' ++ [h])).length = os'.length + 1 := by unfold intsN; rw [List.length_map, List.length_append]; rfl
        have hget : (intsN (os' ++ [h]))[(intsN (os' ++ [h])).length - 1]? = some (.int (h : Int)) := by
          rw [hlen2, Nat.add_sub_cancel]
          unfold intsN
          rw [List.map_append, List.getElem?_append_right (by rw [List.length_map]; exact Nat.le_refl _), List.length_map, Nat.sub_self]
          rfl
        have hdrop : (intsN (os' ++ [h])).dropLast = intsN os' := by
          unfold intsN
          rw [List.map_append]
          exact List.dropLast_concat
        refine ⟨_, rfl, .inl ⟨rfl, _, SqL.of eop1⟩, op, _, _, rfl, rfl, eop1, hget, ?_⟩
        rw [hdrop]
        have ehe2 : (upd G1 op (.lst (intsN os'))) he = some (.dK hk) := by rw [upd_ne noph.symm]; exact ehe1
        refine ⟨_, rfl, _, rfl, he, _, rfl, DPut.k (k := kI i) ehe2 hkl, ?_⟩
        have hput : valV (putK hk (kI i) (.int (h : Int))) (kI i) = some (.int (h : Int)) := by rw [valV_put, if_pos rfl]
        have een3 : (upd (upd G1 op (.lst (intsN os'))) he (.dK (putK hk (kI i) (.int (h : Int))))) en = some (.dK ek) := by rw [upd_ne nhe1.symm, upd_ne nope.symm]; exact een1
        refine ⟨_, rfl, _, rfl, _, rfl, _, rfl, he, _, rfl, (show DGet _ _ (kV (kI i)) (some (.int (h : Int))) from by rw [← hput]; exact DGet.k upd_same), en, _, rfl, DPut.k (k := kI h) een3 ekl, ?_⟩
        refine ⟨putK hk (kI i) (.int (h : Int)), putK ek (kI h) (.int (i : Int)), os', _, _, rfl, same_out (same_out (same_out sGT nop2) nhe) nen1, by rw [upd_ne nhe1]; exact upd_same, upd_same, by rw [upd_ne nope, upd_ne noph]; exact upd_same, bi.close, ?_⟩
        rw [List.length_append] at hb
        exact hb
      · have hx4 : ¬ x = "end" := of_decide_eq_false h4
        rw [if_neg hx4] at hb
        exact ⟨hk, ek, os, _, _, rfl, sGT, ehe1, een1, eop1, bi.skip, hb⟩
  · rintro σ G ⟨hk, ek, os, v4, v5, rfl, sG, ehe, een, eop, bi, hb⟩
    rw [List.length_map] at hb bi
    rw [hrs.1, List.drop_length, balF] at hb
    have hos : os = [] := List.length_eq_zero_iff.mp (Option.some.inj hb)
    subst hos
    refine ⟨_, rfl, _, rfl, (by show 2 ≤ sizeLine; decide), fun T nT => q _ T he en hk ek (same_new sG nT) (SqT.of upd_same) ((new_same nT) _ _ ehe) ((new_same nT) _ _ een) nee.symm nhe nen1 bi.done⟩
end
end H2
namespace H2
open PySem PySem.Spec PyProof.Rows L2 Hx Nd Dun
section
variable {P : Program} {w : World} {K : PySem.W.Frag} {mg : Str → Option Value} {base : Heap} {D : Addr}
/-! ### Flow -/
structure FlowT (K : PySem.W.Frag) (mg : Str → Option Value) (C : Addr) (m : Nat → Addr) : Prop where
  g : mg "Flow" = some (.ref C)
  mak : Mk K C (m 0)
  cl : Cls K C
  nr : NoAttr K C "rows"
  nz : NoAttr K C "size"
  nh : NoAttr K C "heads"
  ne : NoAttr K C "ends"
  na : NoAttr K C "after"
  no : NoAttr K C "other"
  nl : NoAttr K C "loop_of"
  f0 : ∃ fd, Fun K "__init__" "Flow.__init__" s_Flow_init (m 0) fd ∧ Binds K fd ["self", "rows"] []
  f1 : MT K C "landing" "Flow.landing" s_Flow_landing ["self", "at"] (m 1)
  f2 : MT K C "way_past" "Flow.way_past" s_Flow_way_past ["self", "at"] (m 2)
  f3 : MT K C "find_loops" "Flow.find_loops" s_Flow_find_loops ["self"] (m 3)
structure FlowH (K : PySem.W.Frag) (C CR : Addr) (H : Hp) (p tr he en : Addr) (rs : List Addr) (wr : List Str) (hk ek : List (Key × V)) : Prop where
  o : ∃ (dx : Addr) (fs : List (Str × V)), H p = some (.ins C dx fs) ∧ fs.lookup ("rows" : Str) = some (V.ref tr) ∧ fs.lookup ("size" : Str) = some (V.int (rs.length : Nat)) ∧ fs.lookup ("heads" : Str) = some (V.ref he) ∧ fs.lookup ("ends" : Str) = some (V.ref en) ∧
    fs.lookup ("landing" : Str) = none ∧ fs.lookup ("way_past" : Str) = none ∧ fs.lookup ("find_loops" : Str) = none
  t : SqT K H tr (rs.map V.ref)
  r : RowsW K CR H rs wr
  h : Rd H he (.dK hk)
  e : Rd H en (.dK ek)
  ok : FlowOk rs.length hk ek
section
variable {C CR p tr he en : Addr} {rs : List Addr} {wr : List Str} {hk ek : List (Key × V)} {H H' : Hp}
theorem rd_same {a : Addr} {u : HO} (e : Same H H') (r : Rd H a u) : Rd H' a u := by
  rcases r with r | ⟨o, r⟩
  · exact .inl (e _ _ r)
  · exact .inr ⟨o, e _ _ r⟩
theorem FlowH.keep (h : FlowH K C CR H p tr he en rs wr hk ek) (e : Same H H') : FlowH K C CR H' p tr he en rs wr hk ek := by
  obtain ⟨⟨dx, fs, o1, o2⟩, t, r, h1, h2, ok⟩ := h
  exact ⟨⟨dx, fs, e _ _ o1, o2⟩, sqt_same e t, r.keep e, rd_same e h1, rd_same e h2, ok⟩
/-- while a dict is locked -/
theorem FlowH.frz (h : FlowH K C CR H p tr he en rs wr hk ek) {d : Addr} {kvs : List (Key × V)} (hd : H d = some (.dK kvs)) (od : Obj) : FlowH K C CR (upd H d (.frz od (.dK kvs))) p tr he en rs wr hk ek := by
  obtain ⟨⟨dx, fs, o1, o2⟩, t, r, h1, h2, ok⟩ := h
  have rd : ∀ {a : Addr} {ys : List (Key × V)}, Rd H a (.dK ys) → Rd (upd H d (.frz od (.dK kvs))) a (.dK ys) := fun {a ys} r => by
    by_cases e : a = d
    · subst e
      rcases r with r | ⟨o, r⟩
      · rw [hd] at r; cases r; exact .inr ⟨od, upd_same⟩
      · rw [hd] at r; cases r
    · rcases r with r | ⟨o, r⟩
      · exact .inl (by rw [upd_ne e]; exact r)
      · exact .inr ⟨o, by rw [upd_ne e]; exact r⟩
  have tt : Nd.Tups H (upd H d (.frz od (.dK kvs))) := Nd.Tups.upd fun xs r => by
    rcases r with r | ⟨z, r⟩
    · rw [hd] at r; cases r
    · rw [hd] at r; cases r
  refine ⟨⟨dx, fs, by rw [upd_ne (ne_of o1 hd (by intro z; cases z))]; exact o1, o2⟩, sqt_tups tt t, ⟨r.1, fun i a x e1 e2 => ?_⟩, rd h1, rd h2, ok⟩
  obtain ⟨dx', fs', a1, a2⟩ := r.2 i a x e1 e2
  exact ⟨dx', fs', by rw [upd_ne (ne_of a1 hd (by intro z; cases z))]; exact a1, a2⟩
end
theorem rget {H : Hp} {a : Addr} {kvs : List (Key × V)} {k : Key} (r : Rd H a (.dK kvs)) : DGet H a (kV k) (valV kvs k) := .inl ⟨kvs, k, r, rfl, rfl⟩
def spLand (K : PySem.W.Frag) (C CR : Addr) : Sp := fun vs H Q _ => ∃ (p tr he en : Addr) (rs : List Addr) (wr : List Str) (hk ek : List (Key × V)) (a : Int), vs = [.ref p, .int a] ∧ FlowH K C CR H p tr he en rs wr hk ek ∧ 0 ≤ a ∧ ∀ v : Int, Q (.int v) H
def muL (n : Nat) (σ : L2.St) : Nat := match σ[1]? with
  | some (some (V.int k)) => ((n : Int) - k).toNat
  | _ => 0
theorem ok_landing {C CR fI tt aL : Addr} {m : Nat → Addr} (T : FlowT K mg C m) (R : RowT K mg CR fI tt) (cL : TupT K mg "LOOPS" aL loopsV) :
    ∃ fd, Fun K "landing" "Flow.landing" s_Flow_landing (m 1) fd ∧ Binds K fd ["self", "at"] [] ∧ FnOk P w K mg base CX0 1 (m 1) fd ["self", "at"] (spLand K C CR) := by
  obtain ⟨fd, F, b⟩ := T.f1.fn
  refine ⟨fd, F, b, F.ok c_Flow_landing (fun vs H Q E h => ?_) (fun cdv A outer s H vs Q E hr h => ?_)⟩
  · obtain ⟨p, tr, he, en, rs, wr, hk, ek, a, rfl, _⟩ := h
    rfl
  obtain ⟨p, tr, he, en, rs, wr, hk, ek, a, rfl, hf, ha, q⟩ := h
  have hu := hu_of hr
  refine ⟨_, pss_cons (ps_while PassesOwn.never (PW.pt (pw_and (pt_cmpR op_lt (pv 1) (pe_fld (pv 0) rfl) (nomark _)) (pw_and1 (pt_cmp (pc_din hu (pv 1) (pe_fld (pv 0) rfl))))))
      (pss_cons (ps_set (i := 2) c_Flow_landing.nd rfl (Or.inl rfl) (pe_dget hu (pe_fld (pv 0) rfl) (pv 1) (fun _ _ => rfl))) <|
      pss_cons (ps_if (PW.pt (pw_and (pt_cmpR op_eq (pe_fld (pe_ix ix_tup (pe_fld (pv 0) rfl) (pv 1) (fun _ _ => rfl)) rfl) pe_str (nomark _)) (pw_and1 (pt_cmpR op_in_seq (pe_fld (pe_ix ix_tup (pe_fld (pv 0) rfl) (pv 2) (fun _ _ => rfl)) rfl) (pe_glob (v := .ref aL) rfl cL.g rfl) rfl)))) (pss_one (ps_ret (pv 2))) pss_nil) <|
      pss_one (ps_set (i := 1) c_Flow_landing.nd rfl (Or.inl rfl) (pe_op op_add (pe_dget hu (pe_fld (pv 0) rfl) (pv 2) (fun _ _ => rfl)) pe_int)))) <|
    pss_one (ps_ret (pv 1)), ?_⟩
  obtain ⟨⟨dx, fs, o1, l1, l2, l3, l4, _⟩, ht, hrw, hh, hen, ok⟩ := hf
  have rowAt : ∀ {j : Nat}, j < rs.length → ∃ r x, atI (rs.map V.ref) (j : Int) = some (.ref r) ∧ RowW K CR H r x := fun {j} hj => by
    have hw : j < wr.length := by rw [← hrw.1]; exact hj
    exact ⟨rs[j], wr[j], at_of (j := j) rfl (by rw [List.getElem?_map, List.getElem?_eq_getElem hj]; rfl), hrw.2 j _ _ (List.getElem?_eq_getElem hj) (List.getElem?_eq_getElem hw)⟩
  refine while_by (fun σ G => G = H ∧ ∃ (a : Int) (v2 : Option V), σ = [some (.ref p), some (.int a), v2] ∧ 0 ≤ a) (fun σ _ => muL rs.length σ) ⟨rfl, a, none, rfl, ha⟩ ?_ ?_
  · rintro σ G ⟨rfl, a, v2, rfl, ha⟩
    refine ⟨_, rfl, _, rfl, p, C, dx, fs, _, rfl, o1, T.cl, T.nz, l2, _, _, rfl, rfl, _, rfl, iteB (fun h1 => ?_) (fun h1 => ?_)⟩
    · have han : a < (rs.length : Int) := of_decide_eq_true h1
      obtain ⟨k, rfl⟩ : ∃ k : Nat, a = (k : Int) := ⟨a.toNat, by omega⟩
      refine ⟨_, rfl, _, rfl, p, C, dx, fs, _, rfl, o1, T.cl, T.nh, l3, he, _, rfl, rget (k := kI k) hh, _, rfl, ?_⟩
      cases hv : valV hk (kI k) with
      | none => exact iteF ⟨_, rfl, q _⟩
      | some v =>
        refine iteT ?_
        obtain ⟨jn, hn, e1, heq, hjn, hhn, hev, hje, hen1⟩ := ok.hh _ (valV_mem hv)
        have ejk : jn = k := by
          have := congrArg Prod.fst heq
          have := Sum.inl.inj this
          omega
        have ev : v = .int (hn : Int) := congrArg Prod.snd heq
        subst ev ejk
        refine ⟨_, rfl, p, C, dx, fs, _, rfl, o1, T.cl, T.nh, l3, _, rfl, he, _, rfl, (show DGet _ _ (kV (kI jn)) (some (.int (hn : Int))) from by rw [← hv]; exact rget hh), ?_⟩
        obtain ⟨r1, x1, at1, dx1, fs1, b1, c1⟩ := rowAt hjn
        obtain ⟨r2, x2, at2, dx2, fs2, b2, c2⟩ := rowAt hhn
        unfold gName tSeq
        dsimp only
        refine if_with (S := fun G' => G' = G) (fun G' hG => ?_) (fun alt => ?_)
        · subst hG
          refine ⟨_, rfl, p, C, dx, fs, _, rfl, o1, T.cl, T.ne, l4, _, rfl, en, _, rfl, (show DGet _ _ (kV (kI hn)) (some (.int (e1 : Int))) from by rw [← hev]; exact rget hen), _, _, rfl, rfl, ⟨rfl, (e1 : Int) + 1, _, rfl, by omega⟩, ?_⟩
          show ((rs.length : Int) - ((e1 : Int) + 1)).toNat < ((rs.length : Int) - (jn : Int)).toNat
          omega
        · refine ⟨_, rfl, p, C, dx, fs, _, rfl, o1, T.cl, T.nr, l1, _, rfl, tr, _, _, _, rfl, rfl, ht, at1, r1, CR, dx1, fs1, _, rfl, b1, R.cl, R.nw, c1, rfl, _, rfl, iteB (fun h3 => ?_) (fun h3 => iteF (alt _ rfl))⟩
          refine ⟨_, rfl, p, C, dx, fs, _, rfl, o1, T.cl, T.nr, l1, _, rfl, tr, _, _, _, rfl, rfl, ht, at2, r2, CR, dx2, fs2, _, rfl, b2, R.cl, R.nw, c2, aL, _, rfl, .inr (cL.s _), rfl, rfl, _, rfl, iteB (fun h4 => ?_) (fun h4 => alt _ rfl)⟩
          exact ⟨_, rfl, q _⟩
    · exact iteF ⟨_, rfl, q _⟩
  · rintro σ G Q1 Q2 h ⟨x1, e1, x2, e2, a1, C1, dx1, fs1, v1, e3, e4, c1, n1, lk, i, j, r1, r2, b, e5, hq⟩
    refine ⟨x1, e1, x2, e2, a1, C1, dx1, fs1, v1, e3, e4, c1, n1, lk, i, j, r1, r2, b, e5, ?_⟩
    cases b with
    | false =>
      have hq' := hq
      exact h _ _ hq'
    | true =>
      obtain ⟨y1, f1, y2, f2, a2, C2, dx2, fs2, v2, f3, f4, c2, n2, lk2, d, ov, f5, g5, b2, f6, hq2⟩ := hq
      exact ⟨y1, f1, y2, f2, a2, C2, dx2, fs2, v2, f3, f4, c2, n2, lk2, d, ov, f5, g5, b2, f6, h _ _ hq2⟩
end
end H2
namespace H2
open PySem PySem.Spec PyProof.Rows L2 Hx Nd Dun
section
variable {P : Program} {w : World} {K : PySem.W.Frag} {mg : Str → Option Value} {base : Heap} {D : Addr}
/-! ### way_past, find_loops -/
def spWP (K : PySem.W.Frag) (C CR : Addr) : Sp := fun vs H Q _ => ∃ (p tr he en : Addr) (rs : List Addr) (wr : List Str) (hk ek : List (Key × V)) (a : Nat), vs = [.ref p, .int (a : Int)] ∧ FlowH K C CR H p tr he en rs wr hk ek ∧ H he = some (.dK hk) ∧ a < rs.length ∧ ∀ H' (v : Int), Same H H' → Q (.int v) H'
/-- what came while a dict was locked -/
theorem same_unlock {H G : Hp} {d : Addr} {od : Obj} {u : HO} (hd : H d = some u) (s : Same (upd H d (.frz od u)) G) : Same H (upd G d u) := fun b o z => by
  by_cases e : b = d
  · subst e
    rw [hd] at z
    cases z
    exact upd_same
  · rw [upd_ne e]
    exact s _ _ (by rw [upd_ne e]; exact z)
theorem ok_wp {C CR fI tt : Addr} {m : Nat → Addr} (T : FlowT K mg C m) (R : RowT K mg CR fI tt) {ld : FuncData} (FL : Fun K "landing" "Flow.landing" s_Flow_landing (m 1) ld) (bL : Binds K ld ["self", "at"] []) (GL : FnOk P w K mg base CX0 1 (m 1) ld ["self", "at"] (spLand K C CR)) :
    ∃ fd, Fun K "way_past" "Flow.way_past" s_Flow_way_past (m 2) fd ∧ Binds K fd ["self", "at"] [] ∧ FnOk P w K mg base CX0 2 (m 2) fd ["self", "at"] (spWP K C CR) := by
  obtain ⟨fd, F, b⟩ := T.f2.fn
  refine ⟨fd, F, b, F.ok c_Flow_way_past (fun vs H Q E h => ?_) (fun cdv A outer s H vs Q E hr h => ?_)⟩
  · obtain ⟨p, tr, he, en, rs, wr, hk, ek, a, rfl, _⟩ := h
    rfl
  obtain ⟨p, tr, he, en, rs, wr, hk, ek, a, rfl, hf, hhe, ha, q⟩ := h
  have hu := hu_of hr
  have hr1 : Room 1 _ := hr.mono (by decide)
  refine ⟨_, pss_cons (ps_if (pt_cmp (pc_dnotin hu (pv 1) (pe_fld (pv 0) rfl))) (pss_one (ps_ret (pe_fld (pv 0) rfl))) pss_nil) <|
    pss_cons (ps_lock (ps_for PassesOwn.never rfl (pi_items (pe_fld (pv 0) rfl)) (pg_tup rfl (pgs_cons (pg_name (i := 2) c_Flow_way_past.nd rfl (Or.inl rfl)) (pgs_cons (pg_name (i := 3) c_Flow_way_past.nd rfl (Or.inl rfl)) pgs_nil)))
      (pss_one (ps_if (PW.pt (pw_and (pt_cmpR op_eq (pv 3) (pv 1) (nomark _)) (pw_and1 (pt_cmpR op_eq (pe_fld (pe_ix ix_tup (pe_fld (pv 0) rfl) (pv 2) (fun _ _ => rfl)) rfl) pe_str (nomark _))))) (pss_one (ps_ret (pe_meth (pv 0) T.cl T.f1.m GL hr1 bL .nil pass0 (pa_cons (pe_op op_add (pv 2) pe_int) pa_nil)))) pss_nil)))) <|
    pss_one (ps_ret (pe_meth (pv 0) T.cl T.f1.m GL hr1 bL .nil pass0 (pa_cons (pe_op op_add (pe_dget hu (pe_fld (pv 0) rfl) (pv 1) (fun _ _ => rfl)) pe_int) pa_nil))), ?_⟩
  obtain ⟨⟨dx, fs, o1, l1, l2, l3, l4, l5, l6, l7⟩, ht, hrw, hh, hen, ok⟩ := id hf
  refine ⟨_, rfl, _, rfl, p, C, dx, fs, _, rfl, o1, T.cl, T.ne, l4, en, _, rfl, rget (k := kI a) hen, _, rfl, ?_⟩
  cases hv : valV ek (kI a) with
  | none =>
    refine iteT ⟨_, rfl, p, C, dx, fs, _, rfl, o1, T.cl, T.nz, l2, q H _ (Same.refl H)⟩
  | some v =>
    refine iteF ?_
    obtain ⟨hn, e1, heq, hhn, he1⟩ := ok.ee _ (valV_mem hv)
    have ev : v = .int (e1 : Int) := congrArg Prod.snd heq
    subst ev
    refine ⟨he, _, hhe, trivial, fun od => ?_⟩
    have hfz := hf.frz hhe od
    refine ⟨_, rfl, p, C, dx, fs, _, rfl, (by rw [upd_ne (ne_of o1 hhe (by intro z; cases z))]; exact o1), T.cl, T.nh, l3, he, od, hk, rfl, upd_same, for_it walk_items (fun i σ G => Same (upd H he (.frz od (.dK hk))) G ∧ ∃ v2 v3 : Option V, σ = [some (.ref p), some (.int (a : Int)), v2, v3]) ⟨Same.refl _, none, none, rfl⟩ ?_ ?_ ?_⟩
    · rintro i σ G _ ⟨sG, _⟩
      exact sG _ _ upd_same
    · rintro i x σ G G' hi ⟨sG, v2, v3, rfl⟩ ⟨Tn, k, v, rfl, nT, rfl, hk1, hk2⟩
      obtain ⟨kv, hkv⟩ : ∃ kv, hk[i]? = some kv := ⟨_, List.getElem?_eq_getElem hi⟩
      dsimp only at hk1 hk2
      rw [hkv] at hk1 hk2
      obtain ⟨jn, hn2, en2, heq2, hj, hh2, hv2, _⟩ := ok.hh _ (List.mem_of_getElem? hkv)
      rw [heq2] at hk1 hk2
      cases hk1
      cases hk2
      have sT := same_new (o := .tup [kV (kI jn), .int (hn2 : Int)]) sG nT
      have hfT := hfz.keep sT
      have eT : (upd G Tn (.tup [kV (kI jn), .int (hn2 : Int)])) Tn = some (.tup [.int (jn : Int), .int (hn2 : Int)]) := upd_same
      generalize upd G Tn (.tup [kV (kI jn), .int (hn2 : Int)]) = G2 at sT hfT eT ⊢
      obtain ⟨⟨dx2, fs2, p1, p2, p3, p4, p5, p6, p7, p8⟩, ht2, hrw2, _, _, _⟩ := id hfT
      refine ⟨Tn, _, rfl, SqT.of eT, rfl, _, _, rfl, _, _, rfl, rfl, ?_⟩
      refine if_with (S := fun G' => G' = G2) (fun G' hG => ?_) (fun alt => ?_)
      · subst hG
        exact ⟨sT, _, _, rfl⟩
      · have hw2 : jn < wr.length := by rw [← hrw2.1]; exact hj
        obtain ⟨dx1, fs1, b1, c1⟩ := hrw2.2 jn _ _ (List.getElem?_eq_getElem hj) (List.getElem?_eq_getElem hw2)
        refine ⟨_, rfl, _, rfl, rfl, _, rfl, iteB (fun h3 => ?_) (fun h3 => iteF (alt _ rfl))⟩
        refine ⟨_, rfl, p, C, dx2, fs2, _, rfl, p1, T.cl, T.nr, p2, _, rfl, tr, _, _, _, rfl, rfl, ht2, at_of (j := jn) rfl (by rw [List.getElem?_map, List.getElem?_eq_getElem hj]; rfl), rs[jn], CR, dx1, fs1, _, rfl, b1, R.cl, R.nw, c1, rfl, _, rfl, iteB (fun h4 => ?_) (fun h4 => alt _ rfl)⟩
        refine ⟨_, rfl, p, dx2, fs2, rfl, p1, p6, _, rfl, _, _, rfl, rfl, p, tr, he, en, rs, wr, hk, ek, (jn : Int) + 1, rfl, hfT, by omega, fun v => ⟨sT _ _ upd_same, q _ _ (same_unlock hhe sT)⟩⟩
    · rintro σ G ⟨sG, v2, v3, rfl⟩
      refine ⟨sG _ _ upd_same, ?_⟩
      have sU := same_unlock hhe sG
      have hfU := hf.keep sU
      generalize upd G he (.dK hk) = G2 at sU hfU ⊢
      obtain ⟨⟨dx2, fs2, p1, p2, p3, p4, p5, p6, p7, p8⟩, _, _, _, hen2, _⟩ := id hfU
      refine ⟨_, rfl, p, dx2, fs2, rfl, p1, p6, _, rfl, p, C, dx2, fs2, _, rfl, p1, T.cl, T.ne, p5, _, rfl, en, _, rfl, (show DGet _ _ (kV (kI a)) (some (.int (e1 : Int))) from by rw [← hv]; exact rget hen2), _, _, rfl, rfl, p, tr, he, en, rs, wr, hk, ek, (e1 : Int) + 1, rfl, hfU, by omega, fun v => q _ _ sU⟩
def spFL (K : PySem.W.Frag) (C CR : Addr) : Sp := fun vs H Q _ => ∃ (p tr he en : Addr) (rs : List Addr) (wr : List Str) (hk ek : List (Key × V)), vs = [.ref p] ∧ FlowH K C CR H p tr he en rs wr hk ek ∧ H en = some (.dK ek) ∧ rs.length ≤ 900 ∧ ∀ H' r xs, Same H H' → H' r = some (.lst xs) → H r = none → xs.length = rs.length → Q (.ref r) H'
theorem ok_fl {C CR fI tt aL : Addr} {m : Nat → Addr} (T : FlowT K mg C m) (R : RowT K mg CR fI tt) (cL : TupT K mg "LOOPS" aL loopsV) (rng : mg "range" = none) :
    ∃ fd, Fun K "find_loops" "Flow.find_loops" s_Flow_find_loops (m 3) fd ∧ Binds K fd ["self"] [] ∧ FnOk P w K mg base CX0 1 (m 3) fd ["self"] (spFL K C CR) := by
  obtain ⟨fd, F, b⟩ := T.f3.fn
  refine ⟨fd, F, b, F.ok c_Flow_find_loops (fun vs H Q E h => ?_) (fun cdv A outer s H vs Q E hr h => ?_)⟩
  · obtain ⟨p, tr, he, en, rs, wr, hk, ek, rfl, _⟩ := h
    rfl
  obtain ⟨p, tr, he, en, rs, wr, hk, ek, rfl, hf, hen0, hlen, q⟩ := h
  refine ⟨_, pss_cons (ps_set (i := 1) c_Flow_find_loops.nd rfl (Or.inl rfl) (pe_op op_rep (pe_lst (pa_cons (pe_un un_neg pe_int) pa_nil)) (pe_fld (pv 0) rfl))) <|
    pss_cons (ps_lock (ps_for PassesOwn.never rfl (pi_items (pe_fld (pv 0) rfl)) (pg_tup rfl (pgs_cons (pg_name (i := 2) c_Flow_find_loops.nd rfl (Or.inl rfl)) (pgs_cons (pg_name (i := 3) c_Flow_find_loops.nd rfl (Or.inl rfl)) pgs_nil)))
      (pss_one (ps_if (pt_cmpR op_in_seq (pe_fld (pe_ix ix_tup (pe_fld (pv 0) rfl) (pv 2) (fun _ _ => rfl)) rfl) (pe_glob (v := .ref aL) rfl cL.g rfl) rfl)
        (pss_one (ps_for PassesOwn.never rfl (pi_range2 rfl rng (pa_cons (pv 2) (pa_cons (pe_op op_add (pv 3) pe_int) pa_nil))) (pg_name (i := 4) c_Flow_find_loops.nd rfl (Or.inl rfl)) (pss_one (ps_asg (pv 2) (pg_sub (pv 1) (pv 4) set_list))))) pss_nil)))) <|
    pss_one (ps_ret (pv 1)), ?_⟩
  obtain ⟨⟨dx, fs, o1, l1, l2, l3, l4, l5, l6, l7⟩, ht, hrw, hh, hen, ok⟩ := id hf
  refine ⟨_, rfl, (by show 1 ≤ sizeLine; decide), fun l0 nl0 => ⟨_, rfl, p, C, dx, fs, _, rfl, (new_same nl0) _ _ o1, T.cl, T.nz, l2, l0, _, _, rfl, rfl, upd_same, by omega, by omega, by rw [Int.toNat_natCast]; exact Nat.le_of_lt (big (by show 1 * _ ≤ _; omega)), fun fo nfo => ?_⟩⟩
  have s0 := new_same (o := .lst [.int (-1)]) nl0
  have s1 := same_new (o := .lst (List.replicate ((rs.length : Nat) : Int).toNat [.int (-1)]).flatten) s0 nfo
  have nfoH := free_same s0 nfo
  have efo : ∃ xs, (upd (upd H l0 (.lst [.int (-1)])) fo (.lst (List.replicate ((rs.length : Nat) : Int).toNat [.int (-1)]).flatten)) fo = some (.lst xs) ∧ xs.length = rs.length := ⟨_, upd_same, by simp⟩
  have hf1 := hf.keep s1
  have hen1 := s1 _ _ hen0
  have o1' := s1 _ _ o1
  have hno : fo ≠ en := fun z => by rw [z, hen0] at nfoH; cases nfoH
  obtain ⟨xs0, ex0, hx0⟩ := efo
  generalize upd (upd H l0 (.lst [.int (-1)])) fo (.lst (List.replicate ((rs.length : Nat) : Int).toNat [.int (-1)]).flatten) = G1 at s1 hf1 hen1 o1' ex0 ⊢
  refine ⟨en, _, hen1, trivial, fun od => ?_⟩
  have hfz := hf.frz hen0 od
  have sB : Same (upd H en (.frz od (.dK ek))) (upd G1 en (.frz od (.dK ek))) := fun b o z => by
    by_cases e : b = en
    · subst e
      rw [upd_same] at z ⊢
      exact z
    · rw [upd_ne e] at z ⊢
      exact s1 _ _ z
  have nfoB : (upd H en (.frz od (.dK ek))) fo = none := by rw [upd_ne hno]; exact nfoH
  refine ⟨_, rfl, p, C, dx, fs, _, rfl, (by rw [upd_ne (ne_of o1' hen1 (by intro z; cases z))]; exact o1'), T.cl, T.ne, l4, en, od, ek, rfl, upd_same, for_it walk_items (fun i σ G => Same (upd H en (.frz od (.dK ek))) G ∧ (∃ xs, G fo = some (.lst xs) ∧ xs.length = rs.length) ∧ ∃ v2 v3 v4 : Option V, σ = [some (.ref p), some (.ref fo), v2, v3, v4]) ⟨sB, ⟨xs0, by rw [upd_ne hno]; exact ex0, hx0⟩, none, none, none, rfl⟩ ?_ ?_ ?_⟩
  · rintro i σ G _ ⟨sG, _⟩
    exact sG _ _ upd_same
  · rintro i x σ G G' hi ⟨sG, ⟨xs, ex, hx⟩, v2, v3, v4, rfl⟩ ⟨Tn, k, v, rfl, nT, rfl, hk1, hk2⟩
    obtain ⟨kv, hkv⟩ : ∃ kv, ek[i]? = some kv := ⟨_, List.getElem?_eq_getElem hi⟩
    dsimp only at hk1 hk2
    rw [hkv] at hk1 hk2
    obtain ⟨hn, e1, heq, hhn, he1⟩ := ok.ee _ (List.mem_of_getElem? hkv)
    rw [heq] at hk1 hk2
    cases hk1
    cases hk2
    have sT := same_new (o := .tup [kV (kI hn), .int (e1 : Int)]) sG nT
    have hfT := hfz.keep sT
    have eT : (upd G Tn (.tup [kV (kI hn), .int (e1 : Int)])) Tn = some (.tup [.int (hn : Int), .int (e1 : Int)]) := upd_same
    have exT := (new_same (o := .tup [kV (kI hn), .int (e1 : Int)]) nT) _ _ ex
    generalize upd G Tn (.tup [kV (kI hn), .int (e1 : Int)]) = G2 at sT hfT eT exT ⊢
    obtain ⟨⟨dx2, fs2, p1, p2, p3, p4, p5, p6, p7, p8⟩, ht2, hrw2, _, _, _⟩ := id hfT
    refine ⟨Tn, _, rfl, SqT.of eT, rfl, _, _, rfl, _, _, rfl, rfl, ?_⟩
    have hw2 : hn < wr.length := by rw [← hrw2.1]; exact hhn
    obtain ⟨dx1, fs1, b1, c1⟩ := hrw2.2 hn _ _ (List.getElem?_eq_getElem hhn) (List.getElem?_eq_getElem hw2)
    refine ⟨_, rfl, p, C, dx2, fs2, _, rfl, p1, T.cl, T.nr, p2, _, rfl, tr, _, _, _, rfl, rfl, ht2, at_of (j := hn) rfl (by rw [List.getElem?_map, List.getElem?_eq_getElem hhn]; rfl), rs[hn], CR, dx1, fs1, _, rfl, b1, R.cl, R.nw, c1, aL, _, rfl, .inr (cL.s _), rfl, rfl, _, rfl, iteB (fun h3 => ?_) (fun h3 => ?_)⟩
    · refine ⟨_, rfl, _, rfl, _, _, rfl, rfl, (hn : Int), (e1 : Int) + 1, rfl, ⟨by omega, by omega, by omega, by omega⟩, for_range (lo := (hn : Int)) (n := ((e1 : Int) + 1 - (hn : Int)).toNat) (fun j σ G3 => Same (upd H en (.frz od (.dK ek))) G3 ∧ (∃ xs, G3 fo = some (.lst xs) ∧ xs.length = rs.length) ∧ ∃ v4 : Option V, σ = [some (.ref p), some (.ref fo), some (.int (hn : Int)), some (.int (e1 : Int)), v4]) ⟨sT, ⟨xs, exT, hx⟩, v4, rfl⟩ ?_ ?_⟩
      · rintro j σ G3 hj ⟨s3, ⟨ys, ey, hy⟩, v4, rfl⟩
        refine ⟨_, rfl, _, rfl, _, rfl, fo, ys, (hn : Int) + (j : Int), hn + j, rfl, rfl, ey, ?_, same_out s3 nfoB, ⟨_, upd_same, by rw [List.length_set]; exact hy⟩, _, rfl⟩
        unfold ixN
        rw [if_pos (by omega), if_pos (by omega)]
        congr 1
      · rintro σ G3 ⟨s3, ys, v4, rfl⟩
        exact ⟨s3, ys, _, _, _, rfl⟩
    · exact ⟨sT, ⟨xs, exT, hx⟩, _, _, _, rfl⟩
  · rintro σ G ⟨sG, ⟨xs, ex, hx⟩, v2, v3, v4, rfl⟩
    exact ⟨sG _ _ upd_same, _, rfl, q _ fo xs (same_unlock hen0 sG) (by rw [upd_ne hno]; exact ex) nfoH hx⟩
end
end H2
namespace H2
open PySem PySem.Spec PyProof.Rows L2 Hx Nd Dun
section
variable {P : Program} {w : World} {K : PySem.W.Frag} {mg : Str → Option Value} {base : Heap} {D : Addr}
/-! ### Flow.__init__ -/
def spFlow (K : PySem.W.Frag) (C CR : Addr) : Sp := fun vs H Q _ => ∃ (p l dx : Addr) (rs : List Addr) (wr : List Str), vs = [.ref p, .ref l] ∧ H p = some (.ins C dx []) ∧ H l = some (.lst (rs.map V.ref)) ∧ RowsW K CR H rs wr ∧ wr.length ≤ 900 ∧ balF 0 wr = some 0 ∧
  ∀ H', But p H H' → (∃ dx' fs, H' p = some (.ins C dx' fs)) → Q .non H'
def flowF (tr : Addr) (n : Nat) (he en : Addr) (r : List (Str × V)) : List (Str × V) := ("rows", .ref tr) :: ("size", .int (n : Int)) :: ("heads", .ref he) :: ("ends", .ref en) :: r
theorem sqt_ins {H : Hp} {p t : Addr} {C dx : Addr} {fs : List (Str × V)} {o : HO} {xs : List V} (hp : H p = some (.ins C dx fs)) (h : SqT K H t xs) : SqT K (upd H p o) t xs := sqt_tups (Nd.Tups.upd fun xs r => by
  rcases r with r | ⟨z, r⟩
  · rw [hp] at r; cases r
  · rw [hp] at r; cases r) h
/-- the object gets one field more -/
theorem FlowH.set {C CR p tr he en : Addr} {rs : List Addr} {wr : List Str} {hk ek : List (Key × V)} {G : Hp} {dx : Addr} {fs fs' : List (Str × V)} (h : FlowH K C CR G p tr he en rs wr hk ek) (hp : G p = some (.ins C dx fs)) (hnp : ∀ r ∈ rs, r ≠ p)
    (l1 : fs'.lookup ("rows" : Str) = some (V.ref tr)) (l2 : fs'.lookup ("size" : Str) = some (V.int (rs.length : Nat))) (l3 : fs'.lookup ("heads" : Str) = some (V.ref he)) (l4 : fs'.lookup ("ends" : Str) = some (V.ref en))
    (l5 : fs'.lookup ("landing" : Str) = none) (l6 : fs'.lookup ("way_past" : Str) = none) (l7 : fs'.lookup ("find_loops" : Str) = none) : FlowH K C CR (upd G p (.ins C dx fs')) p tr he en rs wr hk ek := by
  have rd : ∀ {a : Addr} {ys : List (Key × V)}, Rd G a (.dK ys) → Rd (upd G p (.ins C dx fs')) a (.dK ys) := fun {a ys} r => by
    rcases r with r | ⟨o, r⟩
    · exact .inl (by rw [upd_ne (ne_of r hp (by intro z; cases z))]; exact r)
    · exact .inr ⟨o, by rw [upd_ne (ne_of r hp (by intro z; cases z))]; exact r⟩
  refine ⟨⟨dx, fs', upd_same, l1, l2, l3, l4, l5, l6, l7⟩, sqt_ins hp h.t, ⟨h.r.1, fun i a x e1 e2 => ?_⟩, rd h.h, rd h.e, h.ok⟩
  obtain ⟨dx', fs2, a1, a2⟩ := h.r.2 i a x e1 e2
  exact ⟨dx', fs2, by rw [upd_ne (hnp a (List.mem_of_getElem? e1))]; exact a1, a2⟩
theorem ok_Flow {C CR fI tt aL gM : Addr} {m : Nat → Addr} (T : FlowT K mg C m) (R : RowT K mg CR fI tt) (cL : TupT K mg "LOOPS" aL loopsV) (rng : mg "range" = none) (len : mg "len" = none) (tup : mg "tuple" = none)
    {md : FuncData} (FM : Fun K "match_blocks" "match_blocks" s_match_blocks gM md) (bM : Binds K md ["rows"] []) (mM : mg "match_blocks" = some (.ref gM)) (GM : FnOk P w K mg base CX0 1 gM md ["rows"] (spMB K CR)) :
    ∃ fd, Fun K "__init__" "Flow.__init__" s_Flow_init (m 0) fd ∧ Binds K fd ["self", "rows"] [] ∧ FnOk P w K mg base CX0 3 (m 0) fd ["self", "rows"] (spFlow K C CR) := by
  obtain ⟨ld, FL, bL, GL⟩ := ok_landing (P := P) (w := w) (base := base) T R cL
  obtain ⟨wd, FW, bW, GW⟩ := ok_wp (P := P) (w := w) (base := base) T R FL bL GL
  obtain ⟨od, FO, bO, GO⟩ := ok_fl (P := P) (w := w) (base := base) T R cL rng
  obtain ⟨fd, F, b⟩ := T.f0
  refine ⟨fd, F, b, F.ok c_Flow_init (fun vs H Q E h => ?_) (fun cdv A outer s H vs Q E hr h => ?_)⟩
  · obtain ⟨p, l, dx, rs, wr, rfl, _⟩ := h
    rfl
  obtain ⟨p, l, dx, rs, wr, rfl, hp, hl, hrw, hlen, hbal, q⟩ := h
  refine ⟨_, pss_cons (ps_fld (pv 0) (pe_callTy call_tuple_of (by rfl) tup (by decide +kernel) (pa_cons (pv 1) pa_nil)) rfl) <|
    pss_cons (ps_fld (pv 0) (pe_callB (call_len_seq) (by rfl) len PySem.boot_len (pa_cons (pe_fld (pv 0) rfl) pa_nil)) rfl) <|
    pss_cons (ps_asg (pe_call GM (hr.mono (by decide)) rfl mM FM.kp bM .nil pass0 (pa_cons (pe_fld (pv 0) rfl) pa_nil)) (pg_tup rfl (pgs_cons (Nd.pg_fld (pv 0)) (pgs_cons (Nd.pg_fld (pv 0)) pgs_nil)))) <|
    pss_cons (ps_fld (pv 0) (pe_callTy call_tuple_of (by rfl) tup (by decide +kernel) (pa_cons (pe_lc (own := [("at", 2)]) (g := gName 2) (tt := tYes) rfl c_Flow_init.nd (pi_range1 rfl rng (pa_cons (pe_fld (pv 0) rfl) pa_nil)) (blkOk_by (own := [("at", 2)]) (N := n_Flow_init) (sc := defScope s_Flow_init) (by decide +kernel))
        (fun _ _ _ _ _ => pg_name (i := 2) c_Flow_init.nd rfl (Or.inl rfl)) (fun _ _ _ _ _ => pts_nil) (fun _ _ _ _ _ => pe_meth (pv 0) T.cl T.f1.m GL (hr.mono (by decide)) bL .nil pass0 (pa_cons (pe_op op_add (pv 2) pe_int) pa_nil))) pa_nil)) rfl) <|
    pss_cons (ps_fld (pv 0) (pe_callTy call_tuple_of (by rfl) tup (by decide +kernel) (pa_cons (pe_lc (own := [("at", 2)]) (g := gName 2) (tt := tYes) rfl c_Flow_init.nd (pi_range1 rfl rng (pa_cons (pe_fld (pv 0) rfl) pa_nil)) (blkOk_by (own := [("at", 2)]) (N := n_Flow_init) (sc := defScope s_Flow_init) (by decide +kernel))
        (fun _ _ _ _ _ => pg_name (i := 2) c_Flow_init.nd rfl (Or.inl rfl)) (fun _ _ _ _ _ => pts_nil) (fun _ _ _ _ _ => pe_meth (pv 0) T.cl T.f2.m GW (hr.mono (by decide)) bW .nil pass0 (pa_cons (pv 2) pa_nil))) pa_nil)) rfl) <|
    pss_one (ps_fld (pv 0) (pe_callTy call_tuple_of (by rfl) tup (by decide +kernel) (pa_cons (pe_meth0 (pv 0) T.cl T.f3.m GO (hr.mono (by decide)) bO .nil pass0) pa_nil)) rfl), ?_⟩
  have hnp : ∀ r ∈ rs, r ≠ p := fun r hr z => by
    subst z
    obtain ⟨i, hi⟩ := List.getElem?_of_mem hr
    have hw : i < wr.length := by rw [← hrw.1]; exact (List.getElem?_eq_some_iff.mp hi).1
    obtain ⟨dx', fs', a1, a2⟩ := hrw.2 i r _ hi (List.getElem?_eq_getElem hw)
    rw [hp] at a1
    cases a1
    cases a2
  have npl : l ≠ p := ne_of hl hp (by intro z; cases z)
  refine ⟨_, rfl, l, _, rfl, .inl ⟨SqL.of hl, fun tr ntr => ⟨_, rfl, p, C, dx, [], rfl, (new_same ntr) _ _ hp, T.cl, T.nr, (by show 0 < 1000; decide), ?_⟩⟩⟩
  have ntrp : tr ≠ p := (ne_of_none hp ntr).symm
  have htr : SqT K (upd (upd H tr (.tup (rs.map V.ref))) p (.ins C dx (putF "rows" (.ref tr) []))) tr (rs.map V.ref) := SqT.of (by rw [upd_ne ntrp, upd_same])
  refine ⟨_, rfl, p, C, dx, _, _, rfl, upd_same, T.cl, T.nr, rfl, tr, _, rfl, .inr htr, _, rfl, p, C, dx, _, rfl, upd_same, T.cl, T.nz, (by show 1 < 1000; decide), ?_⟩
  rw [upd_upd, List.length_map]
  have b3 : But p H (upd (upd H tr (.tup (rs.map V.ref))) p (.ins C dx (putF "size" (.int (rs.length : Nat)) (putF "rows" (.ref tr) [])))) := (Same.but (new_same ntr)).trans But.upd
  have htr3 : SqT K (upd (upd H tr (.tup (rs.map V.ref))) p (.ins C dx (putF "size" (.int (rs.length : Nat)) (putF "rows" (.ref tr) [])))) tr (rs.map V.ref) := SqT.of (by rw [upd_ne ntrp, upd_same])
  have hrw3 : RowsW K CR (upd (upd H tr (.tup (rs.map V.ref))) p (.ins C dx (putF "size" (.int (rs.length : Nat)) (putF "rows" (.ref tr) [])))) rs wr := ⟨hrw.1, fun i a x e1 e2 => by
    obtain ⟨dx', fs', a1, a2⟩ := hrw.2 i a x e1 e2
    exact ⟨dx', fs', b3 _ _ (hnp a (List.mem_of_getElem? e1)) a1, a2⟩⟩
  have hp3 : (upd (upd H tr (.tup (rs.map V.ref))) p (.ins C dx (putF "size" (.int (rs.length : Nat)) (putF "rows" (.ref tr) [])))) p = some (.ins C dx [("rows", .ref tr), ("size", .int (rs.length : Nat))]) := upd_same
  generalize upd (upd H tr (.tup (rs.map V.ref))) p (.ins C dx (putF "size" (.int (rs.length : Nat)) (putF "rows" (.ref tr) []))) = H3 at b3 htr3 hrw3 hp3 ⊢
  refine ⟨_, rfl, p, C, dx, _, _, rfl, hp3, T.cl, T.nr, rfl, tr, rs, wr, rfl, htr3, hrw3, hlen, hbal, fun H4 t' he en hk ek s4 ht' ehe een hne nhe nen hok => ?_⟩
  have hp4 := s4 _ _ hp3
  have nhep : he ≠ p := (ne_of_none hp3 nhe).symm
  have nenp : en ≠ p := (ne_of_none hp3 nen).symm
  refine ⟨t', _, rfl, ht', rfl, _, _, rfl, _, rfl, p, C, dx, _, rfl, hp4, T.cl, T.nh, (by show 2 < 1000; decide), _, _, rfl, _, rfl, p, C, dx, _, rfl, upd_same, T.cl, T.ne, (by show 3 < 1000; decide), rfl, ?_⟩
  rw [upd_upd]
  have f5 : FlowH K C CR (upd H4 p (.ins C dx (putF "ends" (.ref en) (putF "heads" (.ref he) [("rows", .ref tr), ("size", .int (rs.length : Nat))])))) p tr he en rs wr hk ek :=
    ⟨⟨dx, _, upd_same, rfl, rfl, rfl, rfl, rfl, rfl, rfl⟩, sqt_ins hp4 (sqt_same s4 htr3), ⟨hrw3.1, fun i a x e1 e2 => by
      obtain ⟨dx', fs', a1, a2⟩ := (hrw3.keep s4).2 i a x e1 e2
      exact ⟨dx', fs', by rw [upd_ne (hnp a (List.mem_of_getElem? e1))]; exact a1, a2⟩⟩, .inl (by rw [upd_ne nhep]; exact ehe), .inl (by rw [upd_ne nenp]; exact een), hok⟩
  have b5 : But p H (upd H4 p (.ins C dx (putF "ends" (.ref en) (putF "heads" (.ref he) [("rows", .ref tr), ("size", .int (rs.length : Nat))])))) := (b3.trans (Same.but s4)).trans But.upd
  have he5 : (upd H4 p (.ins C dx (putF "ends" (.ref en) (putF "heads" (.ref he) [("rows", .ref tr), ("size", .int (rs.length : Nat))])))) he = some (.dK hk) := by rw [upd_ne nhep]; exact ehe
  have en5 : (upd H4 p (.ins C dx (putF "ends" (.ref en) (putF "heads" (.ref he) [("rows", .ref tr), ("size", .int (rs.length : Nat))])))) en = some (.dK ek) := by rw [upd_ne nenp]; exact een
  have hp5 : (upd H4 p (.ins C dx (putF "ends" (.ref en) (putF "heads" (.ref he) [("rows", .ref tr), ("size", .int (rs.length : Nat))])))) p = some (.ins C dx (flowF tr rs.length he en [])) := upd_same
  generalize upd H4 p (.ins C dx (putF "ends" (.ref en) (putF "heads" (.ref he) [("rows", .ref tr), ("size", .int (rs.length : Nat))]))) = H5 at f5 b5 he5 en5 hp5 ⊢
  have hrl : rs.length ≤ 900 := by rw [hrw.1]; exact hlen
  -- after
  refine ⟨_, rfl, p, C, dx, _, _, rfl, hp5, T.cl, T.nz, rfl, _, rfl, by omega, by omega, fun D nD => ?_⟩
  rw [Int.toNat_natCast]
  refine lc_range (lo := 0) (n := rs.length) (fun i G => Same H5 G ∧ ∃ acc, G D = some (.lst acc) ∧ acc.length = i) ⟨new_same nD, [], upd_same, rfl⟩ ?_ ?_
  · rintro i G hi ⟨sG, acc, eD, hacc⟩
    refine ⟨rfl, ?_⟩
    unfold tYes
    dsimp only
    rw [if_pos rfl]
    refine ⟨_, rfl, p, dx, _, rfl, sG _ _ hp5, rfl, _, rfl, _, _, rfl, rfl, p, tr, he, en, rs, wr, hk, ek, _, rfl, f5.keep sG, by omega, fun v => ⟨acc, eD, big (by omega), same_out sG nD, _, upd_same, by rw [List.length_append, hacc]; rfl⟩⟩
  rintro G6 ⟨s6, acc6, eD6, _⟩
  refine ⟨D, _, rfl, .inl ⟨SqL.of eD6, fun ta nta => ?_⟩⟩
  have s6a := same_new (o := .tup acc6) s6 nta
  have hp6 := s6a _ _ hp5
  refine ⟨_, rfl, p, C, dx, _, rfl, hp6, T.cl, T.na, (by show 4 < 1000; decide), ?_⟩
  have f7 : FlowH K C CR (upd (upd G6 ta (.tup acc6)) p (.ins C dx (putF "after" (.ref ta) (flowF tr rs.length he en [])))) p tr he en rs wr hk ek := (f5.keep s6a).set hp6 hnp rfl rfl rfl rfl rfl rfl rfl
  have b7 : But p H (upd (upd G6 ta (.tup acc6)) p (.ins C dx (putF "after" (.ref ta) (flowF tr rs.length he en [])))) := (b5.trans (Same.but s6a)).trans But.upd
  have he7 : (upd (upd G6 ta (.tup acc6)) p (.ins C dx (putF "after" (.ref ta) (flowF tr rs.length he en [])))) he = some (.dK hk) := by rw [upd_ne nhep]; exact s6a _ _ he5
  have en7 : (upd (upd G6 ta (.tup acc6)) p (.ins C dx (putF "after" (.ref ta) (flowF tr rs.length he en [])))) en = some (.dK ek) := by rw [upd_ne nenp]; exact s6a _ _ en5
  have hp7 : (upd (upd G6 ta (.tup acc6)) p (.ins C dx (putF "after" (.ref ta) (flowF tr rs.length he en [])))) p = some (.ins C dx (flowF tr rs.length he en [("after", .ref ta)])) := upd_same
  generalize upd (upd G6 ta (.tup acc6)) p (.ins C dx (putF "after" (.ref ta) (flowF tr rs.length he en []))) = H7 at f7 b7 he7 en7 hp7 ⊢
  -- other
  refine ⟨_, rfl, p, C, dx, _, _, rfl, hp7, T.cl, T.nz, rfl, _, rfl, by omega, by omega, fun D2 nD2 => ?_⟩
  rw [Int.toNat_natCast]
  refine lc_range (lo := 0) (n := rs.length) (fun i G => Same H7 G ∧ ∃ acc, G D2 = some (.lst acc) ∧ acc.length = i) ⟨new_same nD2, [], upd_same, rfl⟩ ?_ ?_
  · rintro i G hi ⟨sG, acc, eD, hacc⟩
    refine ⟨rfl, ?_⟩
    unfold tYes
    dsimp only
    rw [if_pos rfl]
    refine ⟨_, rfl, p, dx, _, rfl, sG _ _ hp7, rfl, _, rfl, p, tr, he, en, rs, wr, hk, ek, i, by rw [Int.zero_add]; rfl, f7.keep sG, sG _ _ he7, hi, fun G2 v s2 => ⟨acc, s2 _ _ eD, big (by omega), same_out (fun c o z => s2 _ _ (sG _ _ z)) nD2, _, upd_same, by rw [List.length_append, hacc]; rfl⟩⟩
  rintro G8 ⟨s8, acc8, eD8, _⟩
  refine ⟨D2, _, rfl, .inl ⟨SqL.of eD8, fun tb ntb => ?_⟩⟩
  have s8a := same_new (o := .tup acc8) s8 ntb
  have hp8 := s8a _ _ hp7
  refine ⟨_, rfl, p, C, dx, _, rfl, hp8, T.cl, T.no, (by show 5 < 1000; decide), ?_⟩
  have f9 : FlowH K C CR (upd (upd G8 tb (.tup acc8)) p (.ins C dx (putF "other" (.ref tb) (flowF tr rs.length he en [("after", .ref ta)])))) p tr he en rs wr hk ek := (f7.keep s8a).set hp8 hnp rfl rfl rfl rfl rfl rfl rfl
  have b9 : But p H (upd (upd G8 tb (.tup acc8)) p (.ins C dx (putF "other" (.ref tb) (flowF tr rs.length he en [("after", .ref ta)])))) := (b7.trans (Same.but s8a)).trans But.upd
  have en9 : (upd (upd G8 tb (.tup acc8)) p (.ins C dx (putF "other" (.ref tb) (flowF tr rs.length he en [("after", .ref ta)])))) en = some (.dK ek) := by rw [upd_ne nenp]; exact s8a _ _ en7
  have hp9 : (upd (upd G8 tb (.tup acc8)) p (.ins C dx (putF "other" (.ref tb) (flowF tr rs.length he en [("after", .ref ta)])))) p = some (.ins C dx (flowF tr rs.length he en [("after", .ref ta), ("other", .ref tb)])) := upd_same
  generalize upd (upd G8 tb (.tup acc8)) p (.ins C dx (putF "other" (.ref tb) (flowF tr rs.length he en [("after", .ref ta)]))) = H9 at f9 b9 en9 hp9 ⊢
  refine ⟨_, rfl, p, dx, _, rfl, hp9, rfl, p, tr, he, en, rs, wr, hk, ek, rfl, f9, en9, hrl, fun G10 r xs s10 er nr hx => ?_⟩
  refine ⟨r, _, rfl, .inl ⟨SqL.of er, fun tc ntc => ?_⟩⟩
  have s11 := same_new (o := .tup xs) s10 ntc
  exact ⟨_, rfl, p, C, dx, _, rfl, s11 _ _ hp9, T.cl, T.nl, (by show 6 < 1000; decide), q _ ((b9.trans (Same.but s11)).trans But.upd) ⟨dx, _, upd_same⟩⟩
end
end H2
namespace H2
open PySem PySem.Spec PyProof.Rows L2 Hx Nd Dun
section
variable {P : Program} {w : World} {K : PySem.W.Frag} {mg : Str → Option Value} {base : Heap} {D : Addr}
/-! ### Code -/
structure CodeX (K : PySem.W.Frag) (mg : Str → Option Value) (C m : Addr) : Prop where
  g : mg "Code" = some (.ref C)
  mak : Mk K C m
  cl : Cls K C
  nk : NoAttr K C "kind"
  nw : NoAttr K C "width"
  nt : NoAttr K C "text"
  nf : NoAttr K C "flow"
  nm : NoAttr K C "memory"
  nl : NoAttr K C "_lines"
  f0 : ∃ fd, Fun K "__init__" "Code.__init__" s_Code_init m fd ∧ Binds K fd ["self", "kind", "width", "text"] []
def codeF (k wd x : V) (fl me lt : Addr) : List (Str × V) := [("kind", k), ("width", wd), ("text", x), ("flow", .ref fl), ("memory", .ref me), ("_lines", .ref lt)]
/-- the lines of a text -/
def TextOf (x : Str) (ls : List Str) : Prop := (x = "" ∧ ls = []) ∨ ((x.length : Int) ≠ 0 ∧ x.length + 2 ≤ sizeLine ∧ Txt.split x "\n" = ls)
/-- what is_kind or is_width says of the value -/
def IsV (K : PySem.W.Frag) (H : Hp) (ty : String) (xs : List V) (v : V) (r : Bool) : Prop := ∃ (t : Value) (b : Bool), TyX K H v t ∧ PySem.W.kitOne K t (.type ty) = some b ∧ (b = true → flatV v = true) ∧ (b && inV v xs) = r
/-- what the walk over the rows keeps -/
structure Keeps (kd : Str) (ps : List (Str × Pl)) (Pv : Nat → WM → Prop) : Prop where
  z : Pv 0 wm0
  s : ∀ i m p, ps[i]? = some p → Pv i m → stepOk p.1 p.2 m ∧ Bd m ∧ ∀ m', stepR kd p.1 p.2 (1 + (i : Int)) m m' → Pv (i + 1) m'
  e : ∀ m, Pv ps.length m → m.bs.length ≤ 2000000 ∧ m.ws.length ≤ 300
end
end H2
namespace H2
open PySem PySem.Spec PyProof.Rows L2 Hx Nd Dun
section
variable {P : Program} {w : World} {K : PySem.W.Frag} {mg : Str → Option Value} {base : Heap} {D : Addr}
abbrev psCD : List Str := ["self", "kind", "width", "text"]
def spCodeX (K : PySem.W.Frag) (C : Addr) (EC : Nat → Addr) : Sp := fun vs H Q E => ∃ (p dx : Addr) (kd : Str) (wd : Int) (x : Str) (ls : List Str), vs = [.ref p, .str kd, .int wd, .str x] ∧ H p = some (.ins C dx []) ∧ TextOf x ls ∧
  IsV K H "str" kindsV (.str kd) true ∧ IsV K H "int" widthsV (.int wd) true ∧ ls.length ≤ 60 ∧ (∀ y ∈ ls, OkL y) ∧ Wd wd ∧
  match linesOf ls wd with
  | .inl k => ∀ H', Same H H' → err1 (EC 2) "line" (.int k) H' E
  | .inr ps => ∃ Pv, Keeps kd ps Pv ∧ (∀ H' m k, Same H H' → Pv ps.length m → LeastV (endM m).bs (.int k) → err1 (EC 3) "line" (.int k) H' E) ∧
      ∀ H' fl me lt m, Pv ps.length m → (endM m).bs = [] → But p H H' → H' p = some (.ins C dx (codeF (.str kd) (.int wd) (.str x) fl me lt)) → SqT K H' lt (ls.map V.str) → Q .non H'
theorem rows_len {wd : Int} : ∀ {ls : List Str} {os e : List Str} {k : Nat} {ps : List (Str × Pl)}, rowsFrom wd os ls k = .inr (ps, e) → ps.length = ls.length
  | [], os, e, k, ps, h => by
    rw [rowsFrom] at h
    cases h
    rfl
  | l :: r, os, e, k, ps, h => by
    rw [rowsFrom] at h
    cases hp : rowOf l os wd with
    | none => rw [hp] at h; cases h
    | some p =>
      rw [hp] at h
      dsimp only at h
      cases hr : rowsFrom wd (behindOf p.1 os) r (k + 1) with
      | inl j => rw [hr] at h; cases h
      | inr z =>
        obtain ⟨ps', e'⟩ := z
        rw [hr] at h
        cases h
        rw [List.length_cons, List.length_cons, rows_len hr]
theorem lines_len {ls : List Str} {wd : Int} {ps : List (Str × Pl)} (h : linesOf ls wd = .inr ps) : ps.length = ls.length := by
  unfold linesOf at h
  split at h
  · cases h
  · rename_i ps' hr
    cases h
    exact rows_len hr
  · cases h
theorem RowsG.words {C : Addr} {H : Hp} {rs : List Addr} {ps : List (Str × Pl)} (h : RowsG K C H rs ps) : RowsW K C H rs (ps.map (·.1)) := by
  refine ⟨by rw [List.length_map]; exact h.1, fun i r x e1 e2 => ?_⟩
  rw [List.getElem?_map] at e2
  cases hp : ps[i]? with
  | none => rw [hp] at e2; cases e2
  | some p =>
    rw [hp] at e2
    cases e2
    obtain ⟨dx, tt, nu, h1, _⟩ := h.2 i r p e1 hp
    exact ⟨dx, _, h1, rfl⟩
theorem ok_CodeX {CF : Addr} {mF : Nat → Addr} (TF : FlowT K mg CF mF) {fdF : FuncData} (FF : Fun K "__init__" "Flow.__init__" s_Flow_init (mF 0) fdF) (bF : Binds K fdF ["self", "rows"] []) {C CR DB g1 g2 g3 g4 m0 : Addr} {EC EI : Nat → Addr} (T : CodeX K mg C m0) (ET : ErrT K mg DB EC EI) (len : mg "len" = none) (tup : mg "tuple" = none) {tk60 : Value} (GF : FnOk P w K mg base CX0 3 (mF 0) fdF ["self", "rows"] (spFlow K CF CR)) (m60 : mg "MOST_LINES" = some tk60) (r60 : RelV (.int 60) tk60) {d1 d2 d3 d4 : FuncData}
    (F1 : Fun K "is_kind" "is_kind" s_is_kind g1 d1) (b1 : Binds K d1 ["value"] []) (m1 : mg "is_kind" = some (.ref g1)) (G1 : FnOk P w K mg base CX0 1 g1 d1 ["value"] (spIs K "str" kindsV))
    (F2 : Fun K "is_width" "is_width" s_is_width g2 d2) (b2 : Binds K d2 ["value"] []) (m2 : mg "is_width" = some (.ref g2)) (G2 : FnOk P w K mg base CX0 1 g2 d2 ["value"] (spIs K "int" widthsV))
    (F3 : Fun K "read_rows" "read_rows" s_read_rows g3 d3) (b3 : Binds K d3 psLW []) (m3 : mg "read_rows" = some (.ref g3)) (G3 : FnOk P w K mg base (L2.CX P w) 9 g3 d3 psLW (spRows K CR (EC 2)))
    (F4 : Fun K "least_break" "least_break" s_least_break g4 d4) (b4 : Binds K d4 psLB []) (m4 : mg "least_break" = some (.ref g4)) (G4 : FnOk P w K mg base CX0 4 g4 d4 psLB (spLeastX K CR)) :
    ∃ fd, Fun K "__init__" "Code.__init__" s_Code_init m0 fd ∧ Binds K fd psCD [] ∧ FnOk P w K mg base (L2.CX P w) 10 m0 fd psCD (spCodeX K C EC) := by
  obtain ⟨fd, F, b⟩ := T.f0
  refine ⟨fd, F, b, F.okX c_Code_init (fun vs H Q E h => ?_) (fun cdv A outer s H vs Q E hr h => ?_)⟩
  · obtain ⟨p, dx, k, wd, x, ls, rfl, _⟩ := h
    rfl
  obtain ⟨p, dx, kd, wd, x, ls, rfl, hpp, hx, ⟨t1, c1, h11, h12, h13, h14⟩, ⟨t2, c2, h21, h22, h23, h24⟩, h60, hok, hw, q⟩ := h
  have tk : Takes (cxOf (L2.CX P w) P w K mg base n_Code_init "Code.__init__" (defScope s_Code_init) m0 cdv A outer s H E) (fun cls d _ G => E cls d G) := takes_of rfl rfl rfl rfl
  refine ⟨_, pss_cons (ps_if (pt_not (pt_val (pe_call G1 (hr.mono (by decide)) rfl m1 F1.kp b1 .nil pass0 (pa_cons (pv 1) pa_nil)))) (pss_one (ps_rz rfl tk ET.t0 (fun fd F => okBadKind F ET.base) (hr.mono (by decide)) (pa_cons (pv 1) pa_nil))) pss_nil)
    (pss_cons (ps_if (pt_not (pt_val (pe_call G2 (hr.mono (by decide)) rfl m2 F2.kp b2 .nil pass0 (pa_cons (pv 2) pa_nil)))) (pss_one (ps_rz rfl tk ET.t1 (fun fd F => okBadWidth F ET.base) (hr.mono (by decide)) (pa_cons (pv 2) pa_nil))) pss_nil)
    (Evl.pss_cut (ps_set (i := 4) c_Code_init.nd rfl (Or.inl rfl) (pe_ifExp (pt_truth (pv 3) (by intro _; rfl)) (pe_split (pv 3) pe_str) (pe_lst pa_nil)))
    (pss_cons (ps_if (pt_cmpR op_gt (pe_callB call_len_seq (by rfl) len PySem.boot_len (pa_cons (pv 4) pa_nil)) (pe_glob (v := .int 60) rfl m60 r60) (nomark _)) (pss_one (ps_rz rfl tk ET.t4 (fun fd F => okTooMany F ET.base) (hr.mono (by decide)) (pa_cons pe_str (pa_cons (pe_callB call_len_seq (by rfl) len PySem.boot_len (pa_cons (pv 4) pa_nil)) (pa_cons (pe_glob (v := .int 60) rfl m60 r60) pa_nil))))) pss_nil)
    (pss_cons (ps_set (i := 5) c_Code_init.nd rfl (Or.inl rfl) (pe_callS G3 hr rfl m3 F3.kp b3 (fun σ => passAt tk σ) (pa_cons (pv 4) (pa_cons (pv 2) pa_nil))))
    (pss_cons (ps_set (i := 6) c_Code_init.nd rfl (Or.inl rfl) (pe_call G4 (hr.mono (by decide)) rfl m4 F4.kp b4 .nil pass0 (pa_cons (pv 1) (pa_cons (pv 5) pa_nil))))
    (pss_cons (ps_if (pt_cmp (pc_notN (pv 6))) (pss_one (ps_rz rfl tk ET.t3 (fun fd F => okRefused F ET.base) (hr.mono (by decide)) (pa_cons (pv 6) pa_nil))) pss_nil)
    (pss_cons (ps_fld (pv 0) (pv 1) rfl) (pss_cons (ps_fld (pv 0) (pv 2) rfl) (pss_cons (ps_fld (pv 0) (pv 3) rfl) (pss_cons (ps_fld (pv 0) (pe_make TF.mak GF (hr.mono (by decide)) rfl TF.g bF .nil pass0 (pa_cons (pv 5) pa_nil)) rfl) (pss_cons (ps_fld (pv 0) pe_dnewK rfl) (pss_one (ps_fld (pv 0) (pe_callTy call_tuple_of (by rfl) tup (by decide +kernel) (pa_cons (pv 4) pa_nil)) rfl))))))))))))), ?_⟩
  refine ⟨_, rfl, .str kd, t1, c1, rfl, h11, h12, h13, _, rfl, iteBF (by rw [h14]; rfl) ?_⟩
  refine ⟨_, rfl, .int wd, t2, c2, rfl, h21, h22, h23, _, rfl, iteBF (by rw [h24]; rfl) ?_⟩
  refine ⟨fun σ G => ∃ l, σ = [some (.ref p), some (.str kd), some (.int wd), some (.str x), some (.ref l), none, none] ∧ Same H G ∧ G l = some (.lst (ls.map V.str)), ?_, ?_⟩
  · rcases hx with ⟨rfl, rfl⟩ | ⟨hn, hz, rfl⟩
    · refine ⟨_, rfl, false, ⟨by decide +kernel, by decide +kernel⟩, iteF ⟨Nat.zero_le _, fun l nl => ?_⟩⟩
      exact ⟨l, rfl, new_same nl, upd_same⟩
    · refine ⟨_, rfl, true, ⟨by omega, by simpa using hn⟩, iteT ?_⟩
      refine ⟨_, rfl, ⟨_, rfl⟩, x, _, rfl, rfl, by decide +kernel, hz, fun l nl => ?_⟩
      exact ⟨l, rfl, new_same nl, upd_same⟩
  · rintro σ G ⟨l, rfl, sG, hl⟩
    refine ⟨_, rfl, l, _, rfl, .inl (SqL.of hl), _, _, rfl, rfl, _, rfl, ?_⟩
    rw [List.length_map]
    refine iteBF (decide_eq_false (by omega)) ?_
    refine ⟨_, rfl, _, rfl, l, wd, ls, rfl, SqL.of hl, by omega, hok, hw, ?_⟩
    cases hlo : linesOf ls wd with
    | inl k =>
      rw [hlo] at q
      exact fun H' s' => q H' (sG.trans s')
    | inr ps =>
      rw [hlo] at q
      obtain ⟨Pv, kp, q1, q2⟩ := q
      refine fun H2 r rs s2 er hrows => ?_
      refine ⟨_, rfl, _, rfl, r, kd, rs, ps, Pv, rfl, er, hrows, kp.z, kp.s, kp.e, fun H3 M v s3 hp hv => ?_⟩
      have sH := (sG.trans s2).trans s3
      rcases id hv with ⟨hb, rfl⟩ | ⟨k, _, _, rfl⟩
      · refine ⟨_, rfl, _, rfl, iteBF (by decide) ?_⟩
        have hp3 := sH _ _ hpp
        refine ⟨_, rfl, _, rfl, p, C, dx, _, rfl, hp3, T.cl, T.nk, (by show 0 < 1000; decide), ?_⟩
        refine ⟨_, rfl, _, rfl, p, C, dx, _, rfl, upd_same, T.cl, T.nw, (by show 1 < 1000; decide), ?_⟩
        refine ⟨_, rfl, _, rfl, p, C, dx, _, rfl, upd_same, T.cl, T.nt, (by show 2 < 1000; decide), ?_⟩
        rw [upd_upd, upd_upd]
        have hl3 := s2.trans s3 _ _ hl
        have er3 := s3 _ _ er
        have npl : l ≠ p := ne_of hl3 hp3 (by intro z; cases z)
        have npr : r ≠ p := ne_of er3 hp3 (by intro z; cases z)
        have hw3 := hrows.words.keep s3
        have hbal := lines_bal hlo
        have hplen : (ps.map (·.1)).length ≤ 900 := by rw [List.length_map, lines_len hlo]; omega
        have hnp : ∀ a ∈ rs, a ≠ p := fun a ha z => by
          subst z
          obtain ⟨i, hi⟩ := List.getElem?_of_mem ha
          have hwi : i < (ps.map (·.1)).length := by rw [← hw3.1]; exact (List.getElem?_eq_some_iff.mp hi).1
          obtain ⟨dx', fs', a1, a2⟩ := hw3.2 i a _ hi (List.getElem?_eq_getElem hwi)
          rw [hp3] at a1
          cases a1
          cases a2
        have bA : But p H3 (upd H3 p (.ins C dx (putF "text" (.str x) (putF "width" (.int wd) (putF "kind" (.str kd) []))))) := But.upd
        have lA : (upd H3 p (.ins C dx (putF "text" (.str x) (putF "width" (.int wd) (putF "kind" (.str kd) []))))) l = some (.lst (ls.map V.str)) := bA _ _ npl hl3
        have rA : (upd H3 p (.ins C dx (putF "text" (.str x) (putF "width" (.int wd) (putF "kind" (.str kd) []))))) r = some (.lst (rs.map V.ref)) := bA _ _ npr er3
        have wA : RowsW K CR (upd H3 p (.ins C dx (putF "text" (.str x) (putF "width" (.int wd) (putF "kind" (.str kd) []))))) rs (ps.map (·.1)) := ⟨hw3.1, fun i a y e1 e2 => by
          obtain ⟨dx', fs', a1, a2⟩ := hw3.2 i a y e1 e2
          exact ⟨dx', fs', bA _ _ (hnp a (List.mem_of_getElem? e1)) a1, a2⟩⟩
        have pA : (upd H3 p (.ins C dx (putF "text" (.str x) (putF "width" (.int wd) (putF "kind" (.str kd) []))))) p = some (.ins C dx [("kind", .str kd), ("width", .int wd), ("text", .str x)]) := upd_same
        generalize upd H3 p (.ins C dx (putF "text" (.str x) (putF "width" (.int wd) (putF "kind" (.str kd) [])))) = HA at bA lA rA wA pA ⊢
        refine ⟨_, rfl, fun xf dxf nx ndx ne => ?_⟩
        have sAB := made_row (C := CF) (o := .ins CF dxf []) (Same.refl HA) nx ndx ne
        refine ⟨xf, r, dxf, rs, ps.map (·.1), rfl, upd_same, sAB _ _ rA, wA.keep sAB, hplen, hbal, fun H5 b5 _ => ⟨rfl, ?_⟩⟩
        have sA5 : Same HA H5 := fun c o z => b5 _ _ (ne_of_none z nx) (sAB _ _ z)
        refine ⟨_, rfl, p, C, dx, _, rfl, sA5 _ _ pA, T.cl, T.nf, (by show 3 < 1000; decide), ?_⟩
        refine fun me nme => ⟨_, rfl, p, C, dx, _, rfl, (new_same nme) _ _ upd_same, T.cl, T.nm, (by show 4 < 1000; decide), ?_⟩
        obtain ⟨nme5, nmep⟩ := free_upd nme
        have bF' : But p HA (upd (upd (upd H5 p (.ins C dx (putF "flow" (.ref xf) [("kind", .str kd), ("width", .int wd), ("text", .str x)]))) me (.dK [])) p (.ins C dx (putF "memory" (.ref me) (putF "flow" (.ref xf) [("kind", .str kd), ("width", .int wd), ("text", .str x)])))) :=
          ((((Same.but sA5).trans But.upd).trans (Same.but (new_same nme))).trans But.upd)
        have pF : (upd (upd (upd H5 p (.ins C dx (putF "flow" (.ref xf) [("kind", .str kd), ("width", .int wd), ("text", .str x)]))) me (.dK [])) p (.ins C dx (putF "memory" (.ref me) (putF "flow" (.ref xf) [("kind", .str kd), ("width", .int wd), ("text", .str x)])))) p = some (.ins C dx [("kind", .str kd), ("width", .int wd), ("text", .str x), ("flow", .ref xf), ("memory", .ref me)]) := upd_same
        generalize upd (upd (upd H5 p (.ins C dx (putF "flow" (.ref xf) [("kind", .str kd), ("width", .int wd), ("text", .str x)]))) me (.dK [])) p (.ins C dx (putF "memory" (.ref me) (putF "flow" (.ref xf) [("kind", .str kd), ("width", .int wd), ("text", .str x)]))) = HF at bF' pF ⊢
        refine ⟨_, rfl, l, _, rfl, .inl ⟨SqL.of (bF' _ _ npl lA), fun lt nlt => ?_⟩⟩
        refine ⟨_, rfl, p, C, dx, _, rfl, (new_same nlt) _ _ pF, T.cl, T.nl, (by show 5 < 1000; decide), ?_⟩
        have nltp : lt ≠ p := (ne_of_none pF nlt).symm
        exact q2 _ xf me lt M hp hb ((Same.but sH).trans (bA.trans (bF'.trans ((Same.but (new_same nlt)).trans But.upd)))) upd_same (SqT.of (by rw [upd_ne nltp, upd_same]))
      · refine ⟨_, rfl, _, rfl, iteBT (by simp) ?_⟩
        exact rd1 (W := fun cls d _ G => E cls d G) ET.t3.ex.oex (ET.t3.nf _ List.mem_cons_self) rfl (q1 H3 M k sH hp hv)
end
end H2
namespace H2
open PySem PySem.Spec PyProof.Rows L2 Hx Nd Dun
section
variable {P : Program} {w : World} {K : PySem.W.Frag} {mg : Str → Option Value} {base : Heap} {D : Addr}
/-! ### the walk over rows that are read keeps within its bounds -/
def topsN : List Str → Nat
  | [] => 0
  | x :: r => if isLoop x = true then 0 else topsN r + 1
theorem loopsOf_cons (x : Str) (r : List Str) : loopsOf (x :: r) = if isLoop x = true then x :: loopsOf r else loopsOf r := by
  unfold loopsOf
  rw [List.filter_cons]
theorem loopsOf_app (xs ys : List Str) : loopsOf (xs ++ ys) = loopsOf xs ++ loopsOf ys := by unfold loopsOf; exact List.filter_append ..
theorem topsN_app0 : ∀ {os : List Str} (ys : List Str), loopsOf os = [] → topsN (os ++ ys) = os.length + topsN ys
  | [], ys, _ => by simp
  | x :: r, ys, h => by
    rw [loopsOf_cons] at h
    by_cases e : isLoop x = true
    · rw [if_pos e] at h; cases h
    · rw [if_neg e] at h
      rw [List.cons_append, topsN, if_neg e, topsN_app0 ys h, List.length_cons]
      omega
theorem topsN_none {os : List Str} (h : loopsOf os = []) : topsN os = os.length := by
  have := topsN_app0 [] h
  rw [List.append_nil] at this
  exact this
theorem topsN_app : ∀ {os : List Str} (ys : List Str), loopsOf os ≠ [] → topsN (os ++ ys) = topsN os
  | [], ys, h => absurd rfl h
  | x :: r, ys, h => by
    rw [loopsOf_cons] at h
    by_cases e : isLoop x = true
    · rw [List.cons_append, topsN, topsN, if_pos e, if_pos e]
    · rw [if_neg e] at h
      rw [List.cons_append, topsN, topsN, if_neg e, if_neg e, topsN_app ys h]
theorem topsN_drop {os : List Str} (h : loopsOf os ≠ []) : topsN os.dropLast = topsN os := by
  have hne : os ≠ [] := fun e => h (by rw [e]; rfl)
  have e := (List.dropLast_concat_getLast hne).symm
  by_cases g : loopsOf os.dropLast = []
  · have l : isLoop (os.getLast hne) = true := by
      rw [e, loopsOf_app, g, List.nil_append] at h
      by_cases z : isLoop (os.getLast hne) = true
      · exact z
      · exact absurd (by rw [loopsOf_cons, if_neg z]; rfl) h
    conv => rhs; rw [e]
    rw [topsN_app0 _ g, topsN_none g, topsN, if_pos l]
    omega
  · conv => rhs; rw [e]
    rw [topsN_app _ g]
theorem topsN_le (os : List Str) : topsN os ≤ os.length := by
  induction os with
  | nil => exact Nat.le_refl _
  | cons x r ih =>
    rw [topsN]
    split
    · exact Nat.zero_le _
    · rw [List.length_cons]; omega
theorem loopsOf_drop {os : List Str} (h : loopsOf os = []) : loopsOf os.dropLast = [] := by
  by_cases hne : os = []
  · rw [hne]; rfl
  · rw [(List.dropLast_concat_getLast hne).symm, loopsOf_app] at h
    exact (List.append_eq_nil_iff.mp h).1
inductive RR (wd : Int) : List Str → List (Str × Pl) → List Str → Prop
  | nil (os : List Str) : RR wd os [] os
  | cons {os e : List Str} {l : Str} {p : Str × Pl} {ps : List (Str × Pl)} : rowOf l os wd = some p → RR wd (behindOf p.1 os) ps e → RR wd os (p :: ps) e
theorem rowsFrom_RR {wd : Int} : ∀ {ls os : List Str} {k : Nat} {ps : List (Str × Pl)} {e : List Str}, rowsFrom wd os ls k = .inr (ps, e) → RR wd os ps e
  | [], os, k, ps, e, h => by
    unfold rowsFrom at h
    cases h
    exact .nil _
  | l :: r, os, k, ps, e, h => by
    unfold rowsFrom at h
    cases hr : rowOf l os wd with
    | none => rw [hr] at h; cases h
    | some p =>
      rw [hr] at h
      dsimp only at h
      cases hf : rowsFrom wd (behindOf p.1 os) r (k + 1) with
      | inl j => rw [hf] at h; cases h
      | inr z =>
        rw [hf] at h
        obtain ⟨qs, e'⟩ := z
        cases h
        exact .cons hr (rowsFrom_RR hf)
theorem row_cases {l : Str} {os : List Str} {wd : Int} {w : Str} {pl : Pl} (h : rowOf l os wd = some (w, pl)) :
    ((w = "else" ∨ w = "end") ∧ pl = placeOf os ∧ blockOf w os = true) ∨ (pl = placeOf os ∧ inV (.str w) (if (loopsOf os).isEmpty = true then topV else inLoopV) = true) ∨ (w = "if" ∧ pl = placeOf os) ∨ (isLoop w = true ∧ loopsOf os = [] ∧ pl = plOf w) ∨ (w = "pick" ∧ pl = placeOf os ∧ isDown pl = true) := by
  unfold rowOf at h
  by_cases hb : inV (.str l) blocksV = true
  · rw [if_pos hb] at h
    by_cases hk : blockOf l os = true
    · rw [if_pos hk] at h
      injection h with h
      injection h with h1 h2
      subst h1 h2
      refine .inl ⟨?_, rfl, hk⟩
      rcases List.mem_cons.mp (inV_strs (ls := [("else" : Str), ("end" : Str)]).mp hb) with e | e
      · exact .inl e
      · exact .inr (List.mem_singleton.mp e)
    · rw [if_neg hk] at h; cases h
  rw [if_neg hb] at h
  by_cases hk : inV (.str l) (if (loopsOf os).isEmpty = true then topV else inLoopV) = true
  · rw [if_pos hk] at h
    injection h with h
    injection h with h1 h2
    subst h1 h2
    exact .inr (.inl ⟨rfl, hk⟩)
  rw [if_neg hk] at h
  by_cases hi : (Txt.partition l " ").1 = "if"
  · rw [if_pos hi] at h
    by_cases ht : testOf (Txt.partition l " ").2.2 (placeOf os) wd = true
    · rw [if_pos ht] at h
      injection h with h
      injection h with h1 h2
      exact .inr (.inr (.inl ⟨by rw [← h1]; exact hi, h2.symm⟩))
    · rw [if_neg ht] at h; cases h
  rw [if_neg hi] at h
  by_cases hl : (isLoop (Txt.partition l " ").1 && (loopsOf os).isEmpty) = true
  · rw [if_pos hl] at h
    by_cases ht : testOf (Txt.partition l " ").2.2 (plOf (Txt.partition l " ").1) wd = true
    · rw [if_pos ht] at h
      injection h with h
      injection h with h1 h2
      rw [Bool.and_eq_true] at hl
      refine .inr (.inr (.inr (.inl ⟨by rw [← h1]; exact hl.1, List.isEmpty_iff.mp hl.2, by rw [← h1]; exact h2.symm⟩)))
    · rw [if_neg ht] at h; cases h
  rw [if_neg hl] at h
  by_cases hp : (Txt.partition l " ").1 = "pick"
  · rw [if_pos hp] at h
    by_cases ht : (isDown (placeOf os) && okNum (Txt.partition l " ").2.2 wd) = true
    · rw [if_pos ht] at h
      injection h with h
      injection h with h1 h2
      rw [Bool.and_eq_true] at ht
      exact .inr (.inr (.inr (.inr ⟨h1.symm, h2.symm, by rw [← h2]; exact ht.1⟩)))
    · rw [if_neg ht] at h; cases h
  · rw [if_neg hp] at h; cases h
theorem place_top {os : List Str} : isTop (placeOf os) = (loopsOf os).isEmpty := by
  unfold placeOf
  cases h : loopsOf os with
  | nil => rfl
  | cons x r =>
    have hx : isLoop x = true := by
      have : x ∈ loopsOf os := by rw [h]; exact List.mem_cons_self
      exact (List.mem_filter.mp this).2
    rcases loop_cases hx with rfl | rfl <;> rfl
theorem plOf_top {x : Str} (h : isLoop x = true) : isTop (plOf x) = false := by rcases loop_cases h with rfl | rfl <;> rfl
def topL : List Str := ["tell", "grab", "grab last", "grab given", "lay", "longer", "shorter", "trade", "to start", "note", "quit"]
def inLoopL : List Str := ["go", "pull", "swap", "lay", "note", "note mate", "stop", "quit"]
theorem top_words {w : Str} (h : inV (.str w) topV = true) : w ∈ allowWords ∧ inV (.str w) forkV = false ∧ isLoop w = false ∧ decide (w = ("if" : Str)) = false ∧ w ≠ "else" ∧ w ≠ "end" := by
  have h' : w ∈ topL := inV_strs.mp h
  have key : ∀ x ∈ topL, x ∈ allowWords ∧ inV (.str x) forkV = false ∧ isLoop x = false ∧ decide (x = ("if" : Str)) = false ∧ x ≠ "else" ∧ x ≠ "end" := by decide +kernel
  exact key w h'
theorem loop_words {w : Str} (h : inV (.str w) inLoopV = true) : isLoop w = false ∧ decide (w = ("if" : Str)) = false ∧ w ≠ "else" ∧ w ≠ "end" := by
  have h' : w ∈ inLoopL := inV_strs.mp h
  have key : ∀ x ∈ inLoopL, isLoop x = false ∧ decide (x = ("if" : Str)) = false ∧ x ≠ "else" ∧ x ≠ "end" := by decide +kernel
  exact key w h'
theorem behind_same {w : Str} (os : List Str) (h1 : isLoop w = false) (h2 : decide (w = ("if" : Str)) = false) (h3 : w ≠ "else") (h4 : w ≠ "end") : behindOf w os = os := by
  unfold behindOf
  rw [h1, h2, if_neg (by decide), if_neg h3, if_neg h4]
theorem behind_if (os : List Str) : behindOf "if" os = os ++ [("if" : Str)] := by unfold behindOf; rw [if_pos (by decide +kernel)]
theorem behind_loop {w : Str} (os : List Str) (h : isLoop w = true) : behindOf w os = os ++ [w] := by unfold behindOf; rw [h, Bool.or_true, if_pos rfl]
theorem behind_else (os : List Str) : behindOf "else" os = os.dropLast ++ [("else" : Str)] := by unfold behindOf; rw [if_neg (by decide +kernel), if_pos rfl]
theorem behind_end (os : List Str) : behindOf "end" os = os.dropLast := by unfold behindOf; rw [if_neg (by decide +kernel), if_neg (by decide +kernel), if_pos rfl]
theorem block_last {w : Str} {os : List Str} (h : blockOf w os = true) : ∃ ys l, os = ys ++ [l] ∧ inV (.str l) (takersV w) = true := by
  unfold blockOf at h
  cases hl : os.getLast? with
  | none => rw [hl] at h; cases h
  | some l =>
    rw [hl] at h
    obtain ⟨ys, e⟩ := List.getLast?_eq_some_iff.mp hl
    exact ⟨ys, l, e, h⟩
def sumW (m : WM) : Nat := m.ws.length + (m.fs.map fun p => p.1.length + p.2.length).sum
def ifsN (ps : List (Str × Pl)) : Nat := (ps.filter fun p => decide (p.1 = ("if" : Str))).length
theorem ifsN_snoc (ps : List (Str × Pl)) (p : Str × Pl) : ifsN (ps ++ [p]) = ifsN ps + (if decide (p.1 = ("if" : Str)) = true then 1 else 0) := by
  unfold ifsN
  rw [List.filter_append, List.length_append, List.filter_cons, List.filter_nil]
  split <;> rfl
theorem sum_mem {f : List Way × List Way → Nat} : ∀ {qs : List (List Way × List Way)} {p : List Way × List Way}, p ∈ qs → f p ≤ (qs.map f).sum
  | q :: r, p, h => by
    rw [List.map_cons, List.sum_cons]
    rcases List.mem_cons.mp h with rfl | h
    · omega
    · have := sum_mem (f := f) h
      omega
theorem bd_of {m : WM} {i : Nat} (hS : sumW m ≤ 256) (hb : m.bs.length ≤ 600 * i) (hi : i ≤ 60) (hf : m.fs.length ≤ i) : Bd m := by
  unfold sumW at hS
  refine ⟨by omega, by omega, fun p hp => ?_, by omega⟩
  have := sum_mem (f := fun p => p.1.length + p.2.length) hp
  have h2 : p.1.length + p.2.length ≤ ((m.fs.map fun p => p.1.length + p.2.length)).sum := this
  omega
theorem homes_le (m : WM) : (homesOf m.ws).length ≤ m.ws.length := homesOf_len _
theorem passM_bs (kd : Str) (m : WM) (n : Int) (x : Str) : (passM kd m n x).bs.length ≤ m.bs.length + 2 * m.ws.length := by
  show (passM2 kd m n x).bs.length ≤ _
  have h1 := passM1_len kd m n x
  unfold passM2
  split
  · show ((passM1 kd m n x).bs ++ homesOf (passM1 kd m n x).ws).length ≤ _
    rw [List.length_append]
    have h2 := homesOf_len (passM1 kd m n x).ws
    have h3 : (passM1 kd m n x).ws = m.ws := rfl
    rw [h3] at h2 ⊢
    omega
  · omega
theorem passM_ws (kd : Str) (m : WM) (n : Int) (x : Str) : (passM kd m n x).ws.length ≤ m.ws.length := by
  show (dedW _).length ≤ _
  refine Nat.le_trans (dedW_len _) ?_
  rw [List.length_map]
  exact passM2_ws kd m n x
theorem passM_fs (kd : Str) (m : WM) (n : Int) (x : Str) : (passM kd m n x).fs = m.fs := by
  show (passM2 kd m n x).fs = _
  unfold passM2
  split <;> rfl
theorem step_sum {kd wd : Str} {pl : Pl} {n : Int} {m m' : WM} (h : stepR kd wd pl n m m') : sumW m' ≤ sumW m * (if decide (wd = ("if" : Str)) = true then 2 else 1) ∧ m'.bs.length ≤ m.bs.length + 2 * m.ws.length + 1 := by
  have one : ∀ {a b : Nat}, a ≤ b → a ≤ b * (if decide (wd = ("if" : Str)) = true then 2 else 1) := fun {a b} h => by split <;> omega
  unfold stepR at h
  split at h
  · subst h
    refine ⟨one ?_, ?_⟩
    · have := beginWs_len wd m.ws
      show (beginWs wd m.ws).length + _ ≤ m.ws.length + _
      exact Nat.add_le_add_right this _
    · show (m.bs ++ beginBs n wd m.ws).length ≤ _
      rw [List.length_append]
      have := beginBs_len n wd m.ws
      omega
  split at h
  · subst h
    unfold stayM
    split
    · refine ⟨one (Nat.le_refl _), ?_⟩
      show (m.bs ++ [n]).length ≤ _
      rw [List.length_append]
      show m.bs.length + 1 ≤ _
      omega
    · exact ⟨one (Nat.le_refl _), by omega⟩
  split at h
  · rcases h with ⟨rfl, g, rfl⟩ | ⟨rfl, ps, a, f, hf, rfl⟩ | ⟨rfl, ps, a, f, hf, rfl⟩
    · refine ⟨?_, ?_⟩
      · rw [if_pos (by decide)]
        unfold sumW ifM
        rw [List.map_append, List.sum_append]
        show m.ws.length + (_ + (m.ws.length + 0 + 0)) ≤ _
        omega
      · show (m.bs ++ _).length ≤ _
        rw [List.length_append]
        split
        · show m.bs.length + 1 ≤ _; omega
        · show m.bs.length + 0 ≤ _; omega
    · refine ⟨one ?_, by show m.bs.length ≤ _; omega⟩
      unfold sumW elseM
      rw [hf, List.map_append, List.sum_append, List.map_append, List.sum_append]
      show (dedW a).length + (_ + (0 + m.ws.length + 0)) ≤ m.ws.length + (_ + (a.length + f.length + 0))
      have := dedW_len a
      omega
    · refine ⟨one ?_, by show m.bs.length ≤ _; omega⟩
      have e : (m.fs.map fun p => p.1.length + p.2.length).sum = (ps.map fun p => p.1.length + p.2.length).sum + (a.length + f.length) := by rw [hf]; simp
      unfold sumW finM
      rw [e]
      have := dedW_len ((m.ws ++ a) ++ f)
      rw [List.length_append, List.length_append] at this
      dsimp only
      omega
  · subst h
    refine ⟨one ?_, ?_⟩
    · unfold sumW
      rw [passM_fs]
      have := passM_ws kd m n wd
      omega
    · have := passM_bs kd m n wd
      omega
def keepV (wd : Int) (ps : List (Str × Pl)) (i : Nat) (m : WM) : Prop := i ≤ ps.length ∧ ∃ os, RR wd os (ps.drop i) [] ∧ m.fs.length = topsN os ∧ os.length ≤ i ∧ sumW m ≤ 2 ^ ifsN (ps.take i) ∧ m.bs.length ≤ 600 * i
theorem ifsN_take (ps : List (Str × Pl)) (i : Nat) : ifsN (ps.take i) ≤ ifsN ps := by
  unfold ifsN
  exact List.Sublist.length_le ((List.take_sublist i ps).filter _)
theorem two_pow {a : Nat} (h : a ≤ 8) : 2 ^ a ≤ 256 := Nat.pow_le_pow_right (n := 2) (by decide) h
theorem keeps_of {wd : Int} {kd : Str} {ps : List (Str × Pl)} (h : RR wd [] ps []) (hl : ps.length ≤ 60) (hi : ifsN ps ≤ 8) : Keeps kd ps (keepV wd ps) := by
  refine ⟨⟨Nat.zero_le _, [], by rw [List.drop_zero]; exact h, rfl, Nat.le_refl _, by show 1 + 0 ≤ 2 ^ ifsN (ps.take 0); rw [List.take_zero]; decide, Nat.le_refl _⟩, ?_, ?_⟩
  · rintro i m ⟨w, pl⟩ hp ⟨hil, os, hR, hf, hos, hS, hb⟩
    have hlt : i < ps.length := (List.getElem?_eq_some_iff.mp hp).1
    have hd : ps.drop i = (w, pl) :: ps.drop (i + 1) := by
      rw [List.drop_eq_getElem_cons hlt, (List.getElem?_eq_some_iff.mp hp).2]
    have ht : ps.take (i + 1) = ps.take i ++ [(w, pl)] := by rw [List.take_add_one, hp]; rfl
    rw [hd] at hR
    have hS8 : sumW m ≤ 256 := Nat.le_trans hS (two_pow (Nat.le_trans (ifsN_take ps i) hi))
    have hfl : m.fs.length ≤ i := by rw [hf]; exact Nat.le_trans (topsN_le os) hos
    have hBd : Bd m := bd_of hS8 hb (by omega) hfl
    cases hR with
    | @cons _ _ l _ _ hrow hR =>
      have hws : m.ws.length ≤ 256 := by unfold sumW at hS8; omega
      have common : ∀ m', stepR kd w pl (1 + (i : Int)) m m' → m'.fs.length = topsN (behindOf w os) → keepV wd ps (i + 1) m' := fun m' hst hft => by
        obtain ⟨s1, s2⟩ := step_sum hst
        refine ⟨hlt, behindOf w os, hR, hft, Nat.le_trans (behind_len w os) (by omega), ?_, by omega⟩
        rw [ht, ifsN_snoc]
        by_cases e : decide (w = ("if" : Str)) = true
        · rw [if_pos e] at s1
          rw [show decide (((w, pl) : Str × Pl).1 = ("if" : Str)) = true from e, if_pos rfl, Nat.pow_succ]
          omega
        · rw [if_neg e] at s1
          rw [if_neg e, Nat.add_zero]
          omega
      have hcs := row_cases hrow
      have hpl : isLoop w = false → pl = placeOf os := fun z => by
        rcases hcs with ⟨_, e, _⟩ | ⟨e, _⟩ | ⟨_, e⟩ | ⟨e, _⟩ | ⟨_, e, _⟩
        · exact e
        · exact e
        · exact e
        · rw [z] at e; cases e
        · exact e
      refine ⟨fun hnl htop => ?_, hBd, fun m' hst => common m' hst ?_⟩
      · have e := hpl hnl
        rw [e, place_top] at htop
        have hlo := List.isEmpty_iff.mp htop
        refine ⟨fun hfk => ?_, fun hfk => ?_⟩
        · rcases hcs with ⟨_, _, hk⟩ | ⟨_, hw⟩ | ⟨e, _⟩ | ⟨e, _⟩ | ⟨e, _, _⟩
          · obtain ⟨ys, l0, e0, _⟩ := block_last hk
            refine .inr fun z => ?_
            have : m.fs.length = os.length := by rw [hf, topsN_none hlo]
            rw [z, e0, List.length_append] at this
            cases this
          · rw [hlo] at hw
            rw [(top_words hw).2.1] at hfk
            cases hfk
          · exact .inl e
          · rw [hnl] at e; cases e
          · rw [show ((w, pl) : Str × Pl).1 = ("pick" : Str) from e] at hfk; exact absurd hfk (by decide +kernel)
        · rcases hcs with ⟨he, _, hk⟩ | ⟨_, hw⟩ | ⟨e, _⟩ | ⟨e, _⟩ | ⟨e, hq, hdn⟩
          · rcases he with e | e
            · rw [show ((w, pl) : Str × Pl).1 = ("else" : Str) from e] at hfk; exact absurd hfk (by decide +kernel)
            · rw [show ((w, pl) : Str × Pl).1 = ("end" : Str) from e] at hfk; exact absurd hfk (by decide +kernel)
          · rw [hlo] at hw
            exact (top_words hw).1
          · rw [show ((w, pl) : Str × Pl).1 = ("if" : Str) from e] at hfk; exact absurd hfk (by decide +kernel)
          · rw [hnl] at e; cases e
          · exfalso
            have : isTop pl = true := by rw [hpl hnl, place_top]; exact htop
            cases pl with
            | top => cases hdn
            | down => cases this
            | up => cases this
      · unfold stepR at hst
        by_cases hl' : isLoop w = true
        · rw [if_pos hl'] at hst
          have hlo : loopsOf os = [] := by
            rcases hcs with ⟨he, _, _⟩ | ⟨_, hw⟩ | ⟨e, _⟩ | ⟨_, e, _⟩ | ⟨e, _, _⟩
            · rcases he with rfl | rfl <;> exact absurd hl' (by decide +kernel)
            · split at hw
              · rw [(top_words hw).2.2.1] at hl'; cases hl'
              · rw [(loop_words hw).1] at hl'; cases hl'
            · rw [e] at hl'; exact absurd hl' (by decide +kernel)
            · exact e
            · rw [e] at hl'; exact absurd hl' (by decide +kernel)
          rw [hst, behind_loop os hl', topsN_app0 _ hlo, topsN, if_pos hl']
          show m.fs.length = _
          rw [hf, topsN_none hlo, Nat.add_zero]
        · have hnl : isLoop w = false := by simpa using hl'
          rw [if_neg hl'] at hst
          have e := hpl hnl
          by_cases htop : isTop pl = false
          · rw [if_pos htop] at hst
            have hlo : loopsOf os ≠ [] := fun z => by rw [e, place_top, z] at htop; cases htop
            have hm' : m'.fs = m.fs := by rw [hst]; unfold stayM; split <;> rfl
            rw [hm', hf]
            rcases hcs with ⟨he, _, hk⟩ | ⟨_, hw⟩ | ⟨e, _⟩ | ⟨e, _⟩ | ⟨e, _, _⟩
            · rcases he with rfl | rfl
              · rw [behind_else]
                by_cases hd0 : loopsOf os.dropLast = []
                · obtain ⟨ys, l0, e0, hl0⟩ := block_last hk
                  exfalso
                  rw [e0, List.dropLast_concat] at hd0
                  rw [e0, loopsOf_app, hd0, List.nil_append, loopsOf_cons] at hlo
                  have : l0 = "if" := by
                    have := inV_strs (ls := [("if" : Str)]).mp hl0
                    exact List.mem_singleton.mp this
                  rw [this] at hlo
                  exact hlo (by decide +kernel)
                · rw [topsN_app _ hd0, topsN_drop hlo]
              · rw [behind_end, topsN_drop hlo]
            · split at hw
              · rename_i z; exact absurd (List.isEmpty_iff.mp z) hlo
              · obtain ⟨a, b, c, d⟩ := loop_words hw
                rw [behind_same os a b c d]
            · rw [e, behind_if, topsN_app _ hlo]
            · rw [hnl] at e; cases e
            · rw [e, behind_same os (by decide +kernel) (by decide +kernel) (by decide +kernel) (by decide +kernel)]
          · rw [if_neg htop] at hst
            have htop' : isTop pl = true := by simpa using htop
            have hlo : loopsOf os = [] := by rw [e, place_top] at htop'; exact List.isEmpty_iff.mp htop'
            rw [topsN_none hlo] at hf
            by_cases hfk : inV (.str w) forkV = true
            · rw [if_pos hfk] at hst
              rcases hst with ⟨rfl, g, rfl⟩ | ⟨rfl, qs, a, f, hqs, rfl⟩ | ⟨rfl, qs, a, f, hqs, rfl⟩
              · rw [behind_if, topsN_app0 _ hlo]
                show (m.fs ++ [(m.ws, [])]).length = _
                rw [List.length_append, hf]
                rfl
              · rw [behind_else, topsN_app0 _ (loopsOf_drop hlo), List.length_dropLast]
                show (qs ++ [([], m.ws)]).length = _
                rw [hqs, List.length_append] at hf
                rw [List.length_append]
                have z : topsN [("else" : Str)] = 1 := by decide +kernel
                rw [z]
                have a1 : [(a, f)].length = 1 := rfl
                have a2 : [(([] : List Way), m.ws)].length = 1 := rfl
                omega
              · rw [behind_end, topsN_none (loopsOf_drop hlo), List.length_dropLast]
                show qs.length = _
                rw [hqs, List.length_append] at hf
                have a1 : [(a, f)].length = 1 := rfl
                omega
            · rw [if_neg hfk] at hst
              have hb' : behindOf w os = os := by
                rcases hcs with ⟨he, _, _⟩ | ⟨_, hw⟩ | ⟨e, _⟩ | ⟨e, _⟩ | ⟨e, _, hdn⟩
                · rcases he with rfl | rfl <;> exact absurd (by decide +kernel) hfk
                · rw [hlo] at hw
                  obtain ⟨_, _, a, b, c, d⟩ := top_words hw
                  exact behind_same os a b c d
                · rw [e] at hfk; exact absurd (by decide +kernel) hfk
                · rw [hnl] at e; cases e
                · exact behind_same os (by rw [e]; decide +kernel) (by rw [e]; decide +kernel) (by rw [e]; decide +kernel) (by rw [e]; decide +kernel)
              rw [hb', hst, passM_fs, topsN_none hlo]
              exact hf
  · rintro m ⟨_, os, hR, hf, hos, hS, hb⟩
    have hS8 : sumW m ≤ 256 := Nat.le_trans hS (two_pow (Nat.le_trans (ifsN_take ps _) hi))
    unfold sumW at hS8
    exact ⟨by omega, by omega⟩
end
end H2
namespace H2
open PySem PySem.Spec PyProof.Rows L2 Hx Nd Dun
section
variable {P : Program} {w : World} {K : PySem.W.Frag} {mg : Str → Option Value} {base : Heap} {D : Addr}
/-! ### the texts of the law: lines, tests -/
section
open TL
abbrev andS : Str := " and "
abbrev sepL : List Nat := [32, 97, 110, 100, 32]
def okWB (x : Str) : Bool := decide (x.length + 2 ≤ sizeLine) && (!(Txt.split x " ").isEmpty && (decide ((Txt.split x " ").length ≤ 1000) && (Txt.split x " ").all PyData.strOk))
theorem okW_of {x : Str} (h : okWB x = true) : OkW x := by
  unfold okWB at h
  simp only [Bool.and_eq_true, decide_eq_true_eq, Bool.not_eq_true', List.all_eq_true] at h
  exact ⟨h.1, fun z => by rw [z] at h; exact absurd h.2.1 (by decide), h.2.2.1, h.2.2.2⟩
def okPB (x : Str) : Bool := decide (x.length ≤ sizeLine) && okWB (notOf x)
theorem okP_of {x : Str} (h : okPB x = true) : OkP x := by
  unfold okPB at h
  rw [Bool.and_eq_true] at h
  exact ⟨of_decide_eq_true h.1, okW_of h.2⟩
def okTB (x : Str) : Bool := decide (x.length + 2 ≤ sizeLine) && (decide ((Txt.split x " and ").length ≤ 1000) && (Txt.split x " and ").all okPB)
theorem okT_of {x : Str} (h : okTB x = true) : OkT x := by
  unfold okTB at h
  simp only [Bool.and_eq_true, decide_eq_true_eq, List.all_eq_true] at h
  exact ⟨h.1, h.2.1, fun y hy => okP_of (h.2.2 y hy)⟩
def okLB (x : Str) : Bool := decide (x.length ≤ sizeLine) && okTB (Txt.partition x " ").2.2
theorem okL_of {x : Str} (h : okLB x = true) : OkL x := by
  unfold okLB at h
  rw [Bool.and_eq_true] at h
  exact ⟨of_decide_eq_true h.1, okT_of h.2⟩
/-- a line that may stand in a text -/
structure LnOk (x : Str) : Prop where
  l : OkL x
  n : 10 ∉ tl x
  z : x.length ≤ 100
def lnB (x : Str) : Bool := okLB x && ((tl x).all (fun c => c != 10) && decide (x.length ≤ 100))
theorem ln_of {x : Str} (h : lnB x = true) : LnOk x := by
  unfold lnB at h
  simp only [Bool.and_eq_true, decide_eq_true_eq, List.all_eq_true, bne_iff_ne] at h
  exact ⟨okL_of h.1, fun z => h.2.1 10 z rfl, h.2.2⟩
def numS (k : Int) : Str := toString k
def kidS (k : Int) : Str := ("kid " : Str) ++ numS k
def sidesS (pl : Pl) (k : Int) : List Str := [("hand" : Str), "at", if isTop pl = true then "given" else "mate"] ++ (if isDown pl = true then [kidS k] else [])
def opsS : List Str := [" < ", " <= "]
def moreS : List Str := ["", " less", " more"]
def notS : List Str := ["", "not "]
def cmpsS (pl : Pl) (k : Int) : List Str := (sidesS pl k).flatMap fun a => opsS.flatMap fun o => ((sidesS pl k).filter fun b => !decide (a = b)).map fun b => (a ++ o) ++ b
def hasS (k : Int) : List Str := moreS.map fun m => (("has " : Str) ++ numS k) ++ m
def plainS : List Str := ["inside", "below root", "below start"]
def ksOf (wd : Int) : List Int := (List.range wd.toNat).map fun (i : Nat) => 1 + (i : Int)
def partsS (pl : Pl) (wd : Int) : List Str := notS.flatMap fun n => (plainS ++ ((ksOf wd).flatMap (cmpsS pl) ++ (if isDown pl = true then (ksOf wd).flatMap hasS else []))).map fun p => n ++ p
def partB (pl : Pl) (wd : Int) (p : Str) : Bool := partOf p pl wd && (SX.free sepL (tl p) && (decide (spl sepL 0 [] (tl p) = [tl p]) && (okPB p && ((tl p).all (fun c => c != 10) && decide (p.length ≤ 25)))))
theorem parts_t2 : (partsS .top 2).all (partB .top 2) = true := by decide +kernel
theorem parts_t3 : (partsS .top 3).all (partB .top 3) = true := by decide +kernel
theorem parts_t4 : (partsS .top 4).all (partB .top 4) = true := by decide +kernel
theorem parts_u2 : (partsS .up 2).all (partB .up 2) = true := by decide +kernel
theorem parts_u3 : (partsS .up 3).all (partB .up 3) = true := by decide +kernel
theorem parts_u4 : (partsS .up 4).all (partB .up 4) = true := by decide +kernel
theorem parts_d2 : (partsS .down 2).all (partB .down 2) = true := by decide +kernel
theorem parts_d3 : (partsS .down 3).all (partB .down 3) = true := by decide +kernel
theorem parts_d4 : (partsS .down 4).all (partB .down 4) = true := by decide +kernel
theorem parts_ok (pl : Pl) {wd : Int} (hw : Wd wd) : ∀ p ∈ partsS pl wd, partB pl wd p = true := by
  have key : (partsS pl wd).all (partB pl wd) = true := by
    rcases hw with rfl | rfl | rfl
    · cases pl
      · exact parts_t2
      · exact parts_d2
      · exact parts_u2
    · cases pl
      · exact parts_t3
      · exact parts_d3
      · exact parts_u3
    · cases pl
      · exact parts_t4
      · exact parts_d4
      · exact parts_u4
  exact List.all_eq_true.mp key
end
end
end H2
namespace H2
open PySem PySem.Spec PyProof.Rows L2 Hx Nd Dun
section
variable {P : Program} {w : World} {K : PySem.W.Frag} {mg : Str → Option Value} {base : Heap} {D : Addr}
/-! ### lines that are right, lines that are none -/
section
open TL
theorem tl_and : tl andS = sepL := by decide +kernel
theorem spl_joinF : ∀ {ps : List (List Nat)}, ps ≠ [] → (∀ p ∈ ps, SX.free sepL p = true ∧ spl sepL 0 [] p = [p]) → spl sepL 0 [] (joinL sepL ps) = ps
  | [], h, _ => absurd rfl h
  | [p], _, hp => (hp p List.mem_cons_self).2
  | p :: q :: r, _, hp => by
    show spl sepL 0 [] (p ++ (sepL ++ joinL sepL (q :: r))) = p :: q :: r
    rw [SX.spl_free _ (by decide) (hp p List.mem_cons_self).1, spl_joinF (by simp) fun z hz => hp z (List.mem_cons_of_mem _ hz)]
theorem joinF_len : ∀ (ps : List (List Nat)), (∀ p ∈ ps, p.length ≤ 25) → (joinL sepL ps).length ≤ 30 * ps.length
  | [], _ => Nat.zero_le _
  | [p], h => by
    have := h p List.mem_cons_self
    show p.length ≤ 30 * 1
    omega
  | p :: q :: r, h => by
    have a := h p List.mem_cons_self
    have b := joinF_len (q :: r) fun x hx => h x (List.mem_cons_of_mem _ hx)
    show (p ++ (sepL ++ joinL sepL (q :: r))).length ≤ 30 * (r.length + 1 + 1)
    rw [List.length_append, List.length_append]
    have b' : (joinL sepL (q :: r)).length ≤ 30 * (r.length + 1) := b
    have c : sepL.length = 5 := rfl
    omega
theorem joinF_mem : ∀ (ps : List (List Nat)), (∀ p ∈ ps, 10 ∉ p) → 10 ∉ joinL sepL ps
  | [], _ => by simp [joinL]
  | [p], h => h p List.mem_cons_self
  | p :: q :: r, h => by
    show 10 ∉ p ++ (sepL ++ joinL sepL (q :: r))
    rw [List.mem_append, List.mem_append]
    rintro (z | z | z)
    · exact h p List.mem_cons_self z
    · exact absurd z (by decide)
    · exact joinF_mem (q :: r) (fun x hx => h x (List.mem_cons_of_mem _ hx)) z
theorem strOk_tl (x : Str) : PyData.strOk x = (tl x).all fun c => decide (c < 0x110000) := by
  unfold PyData.strOk
  rw [← Array.all_toList]
theorem joinF_all : ∀ (ps : List (List Nat)), (∀ p ∈ ps, (p.all fun c => decide (c < 0x110000)) = true) → ((joinL sepL ps).all fun c => decide (c < 0x110000)) = true
  | [], _ => rfl
  | [p], h => h p List.mem_cons_self
  | p :: q :: r, h => by
    show ((p ++ (sepL ++ joinL sepL (q :: r))).all fun c => decide (c < 0x110000)) = true
    rw [List.all_append, List.all_append, h p List.mem_cons_self, joinF_all (q :: r) fun x hx => h x (List.mem_cons_of_mem _ hx)]
    decide
theorem str_app {a b : Str} (ha : PyData.strOk a = true) (hb : PyData.strOk b = true) : PyData.strOk (a ++ b) = true := by
  rw [strOk_tl] at ha hb ⊢
  rw [tl_append, List.all_append, ha, hb]
  rfl
theorem str_list {l : List Str} (h : l.all PyData.strOk = true) : ∀ x ∈ l, PyData.strOk x = true := List.all_eq_true.mp h
theorem ks_str : ∀ k ∈ [(1 : Int), 2, 3, 4], PyData.strOk (numS k) = true := by decide +kernel
theorem parts_str {pl : Pl} {wd : Int} (hw : Wd wd) : ∀ p ∈ partsS pl wd, PyData.strOk p = true := by
  have hks : ∀ k ∈ ksOf wd, PyData.strOk (numS k) = true := fun k hk => by
    obtain ⟨i, hi, rfl⟩ := List.mem_map.mp hk
    have hi' := List.mem_range.mp hi
    have : wd ≤ 4 := by rcases hw with rfl | rfl | rfl <;> decide
    refine ks_str _ ?_
    have : i = 0 ∨ i = 1 ∨ i = 2 ∨ i = 3 := by omega
    rcases this with rfl | rfl | rfl | rfl <;> decide
  have hsides : ∀ k ∈ ksOf wd, ∀ a ∈ sidesS pl k, PyData.strOk a = true := fun k hk a ha => by
    unfold sidesS at ha
    rcases List.mem_append.mp ha with ha | ha
    · cases pl with
      | top => exact str_list (l := [("hand" : Str), "at", "given"]) (by decide +kernel) a ha
      | down => exact str_list (l := [("hand" : Str), "at", "mate"]) (by decide +kernel) a ha
      | up => exact str_list (l := [("hand" : Str), "at", "mate"]) (by decide +kernel) a ha
    · split at ha
      · rw [List.mem_singleton.mp ha]
        exact str_app (by decide +kernel) (hks k hk)
      · cases ha
  intro p hp
  obtain ⟨n, hn, hp⟩ := List.mem_flatMap.mp hp
  obtain ⟨q, hq, rfl⟩ := List.mem_map.mp hp
  refine str_app (str_list (l := notS) (by decide +kernel) n hn) ?_
  rcases List.mem_append.mp hq with hq | hq
  · exact str_list (l := plainS) (by decide +kernel) q hq
  · rcases List.mem_append.mp hq with hq | hq
    · obtain ⟨k, hk, hq⟩ := List.mem_flatMap.mp hq
      unfold cmpsS at hq
      obtain ⟨a, ha, hq⟩ := List.mem_flatMap.mp hq
      obtain ⟨o, ho, hq⟩ := List.mem_flatMap.mp hq
      obtain ⟨b, hb, rfl⟩ := List.mem_map.mp hq
      exact str_app (str_app (hsides k hk a ha) (str_list (l := opsS) (by decide +kernel) o ho)) (hsides k hk b (List.mem_filter.mp hb).1)
    · split at hq
      · obtain ⟨k, hk, hq⟩ := List.mem_flatMap.mp hq
        obtain ⟨m, hm, rfl⟩ := List.mem_map.mp hq
        exact str_app (str_app (by decide +kernel) (hks k hk)) (str_list (l := moreS) (by decide +kernel) m hm)
      · cases hq
/-- a right test of the place -/
structure TestOk (pl : Pl) (wd : Int) (x : Str) : Prop where
  t : testOf x pl wd = true
  o : OkT x
  n : 10 ∉ tl x
  z : x.length ≤ 90
  s : PyData.strOk x = true
theorem test_ok {pl : Pl} {wd : Int} {ps : List Str} (hw : Wd wd) (h : ∀ p ∈ ps, p ∈ partsS pl wd) (ne : ps ≠ []) (hl : ps.length ≤ 3) : TestOk pl wd (Txt.join andS ps) := by
  have hp : ∀ p ∈ ps, partOf p pl wd = true ∧ (SX.free sepL (tl p) = true ∧ spl sepL 0 [] (tl p) = [tl p]) ∧ OkP p ∧ 10 ∉ tl p ∧ p.length ≤ 25 := fun p hp => by
    have := parts_ok pl hw p (h p hp)
    unfold partB at this
    simp only [Bool.and_eq_true, decide_eq_true_eq, List.all_eq_true, bne_iff_ne] at this
    exact ⟨this.1, ⟨this.2.1, this.2.2.1⟩, okP_of this.2.2.2.1, fun z => this.2.2.2.2.1 10 z rfl, this.2.2.2.2.2⟩
  have et : tl (Txt.join andS ps) = joinL sepL (ps.map tl) := by rw [join_eq, tl_join, tl_and]
  have sp : Txt.split (Txt.join andS ps) " and " = ps := by
    refine map_tl_inj ?_
    rw [split_spl _ andS (by rw [tl_and]; decide) (kind_ok (by decide +kernel)), et, tl_and]
    refine spl_joinF (fun e => ne (List.map_eq_nil_iff.mp e)) fun p hp' => ?_
    obtain ⟨q, hq, rfl⟩ := List.mem_map.mp hp'
    exact (hp q hq).2.1
  have hz : (Txt.join andS ps).length ≤ 90 := by
    rw [len_tl, et]
    have := joinF_len (ps.map tl) fun p hp' => by
      obtain ⟨q, hq, rfl⟩ := List.mem_map.mp hp'
      have := (hp q hq).2.2.2.2
      rwa [len_tl] at this
    rw [List.length_map] at this
    omega
  refine ⟨?_, ⟨Nat.le_trans (Nat.add_le_add_right hz 2) (by decide), by rw [sp]; exact Nat.le_trans hl (by decide), by rw [sp]; exact fun y hy => (hp y hy).2.2.1⟩, ?_, hz, ?_⟩
  · unfold testOf
    rw [sp, List.all_eq_true]
    intro b hb
    obtain ⟨p, hp', rfl⟩ := List.mem_map.mp hb
    exact (hp p hp').1
  · rw [et]
    exact joinF_mem _ fun p hp' => by
      obtain ⟨q, hq, rfl⟩ := List.mem_map.mp hp'
      exact (hp q hq).2.2.2.1
  · rw [strOk_tl, et]
    exact joinF_all _ fun p hp' => by
      obtain ⟨q, hq, rfl⟩ := List.mem_map.mp hp'
      rw [← strOk_tl]
      exact parts_str hw q (h q hq)
def blkL : List Str := ["else", "end"]
theorem words_part : ∀ w ∈ blkL ++ (topL ++ inLoopL), (Txt.partition w " ").1 ≠ "if" ∧ isLoop (Txt.partition w " ").1 = false ∧ lnB w = true ∧ 1 ≤ w.length := by decide +kernel
theorem part_app {a x : Str} (h : 32 ∉ tl a) : Txt.partition ((a ++ (" " : Str)) ++ x) " " = (a, (" " : Str), x) := partition_app (y := " ") (s := 32) (S := []) (by decide +kernel) h
theorem not_word {L : Str} (h : (Txt.partition L " ").1 = "if" ∨ isLoop (Txt.partition L " ").1 = true) : inV (.str L) blocksV = false ∧ inV (.str L) topV = false ∧ inV (.str L) inLoopV = false := by
  have key : ∀ ls : List Str, (∀ w ∈ ls, w ∈ blkL ++ (topL ++ inLoopL)) → inV (.str L) (ls.map V.str) = false := fun ls hls => by
    cases hb : inV (.str L) (ls.map V.str) with
    | false => rfl
    | true =>
      exfalso
      obtain ⟨h1, h2, _⟩ := words_part L (hls L (inV_strs.mp hb))
      rcases h with h | h
      · exact h1 h
      · rw [h2] at h; cases h
  exact ⟨key blkL (fun w hw => List.mem_append_left _ hw), key topL (fun w hw => List.mem_append_right _ (List.mem_append_left _ hw)), key inLoopL (fun w hw => List.mem_append_right _ (List.mem_append_right _ hw))⟩
theorem if_sp : ("if " : Str) = ("if" : Str) ++ (" " : Str) := by decide +kernel
theorem row_if {x : Str} {os : List Str} {wd : Int} (h : testOf x (placeOf os) wd = true) : rowOf (("if " : Str) ++ x) os wd = some (("if" : Str), placeOf os) := by
  have hp : Txt.partition (("if " : Str) ++ x) " " = (("if" : Str), (" " : Str), x) := by rw [if_sp]; exact part_app (by decide +kernel)
  obtain ⟨n1, n2, n3⟩ := not_word (L := ("if " : Str) ++ x) (.inl (by rw [hp]))
  have n4 : inV (.str (("if " : Str) ++ x)) (if (loopsOf os).isEmpty = true then topV else inLoopV) = false := by split <;> assumption
  unfold rowOf
  rw [n1, if_neg (by decide), n4, if_neg (by decide), hp, if_pos rfl, if_pos h]
theorem row_loop {w x : Str} {os : List Str} {wd : Int} (hw : isLoop w = true) (ho : loopsOf os = []) (h : testOf x (plOf w) wd = true) : rowOf ((w ++ (" " : Str)) ++ x) os wd = some (w, plOf w) := by
  have hp : Txt.partition ((w ++ (" " : Str)) ++ x) " " = (w, (" " : Str), x) := part_app (by rcases loop_cases hw with rfl | rfl <;> decide +kernel)
  obtain ⟨n1, n2, n3⟩ := not_word (L := (w ++ (" " : Str)) ++ x) (.inr (by rw [hp]; exact hw))
  have ni : w ≠ "if" := by rcases loop_cases hw with rfl | rfl <;> decide +kernel
  unfold rowOf
  rw [n1, if_neg (by decide), ho, List.isEmpty_nil, if_pos rfl, n2, if_neg (by decide), hp, if_neg ni]
  dsimp only
  rw [hw]
  rw [if_pos (by decide), if_pos h]
theorem row_word {w : Str} {os : List Str} {wd : Int} (h : w ∈ (if (loopsOf os).isEmpty = true then topL else inLoopL)) : rowOf w os wd = some (w, placeOf os) := by
  have hb : inV (.str w) blocksV = false := by
    have key : ∀ x ∈ topL ++ inLoopL, inV (.str x) blocksV = false := by decide +kernel
    refine key w ?_
    split at h
    · exact List.mem_append_left _ h
    · exact List.mem_append_right _ h
  have hk : inV (.str w) (if (loopsOf os).isEmpty = true then topV else inLoopV) = true := by
    split
    · rename_i e; rw [if_pos e] at h; exact inV_strs.mpr h
    · rename_i e; rw [if_neg e] at h; exact inV_strs.mpr h
  unfold rowOf
  rw [hb, if_neg (by decide), if_pos hk]
def pickS (k : Int) : Str := ("pick " : Str) ++ numS k
def os0 : Pl → List Str
  | .top => []
  | .down => ["down"]
  | .up => ["up"]
theorem place0 (pl : Pl) : placeOf (os0 pl) = pl := by cases pl <;> rfl
theorem row_pl {b : Str} {os : List Str} {wd : Int} (h : inV (.str b) blocksV = false) : rowOf b os wd = rowOf b (os0 (placeOf os)) wd := by
  have e1 := place_top (os := os)
  have e2 := place_top (os := os0 (placeOf os))
  rw [place0] at e2
  have e3 : (loopsOf os).isEmpty = (loopsOf (os0 (placeOf os))).isEmpty := by rw [← e1, ← e2]
  unfold rowOf
  rw [h, place0, e3]
  rfl
def isPickB (o : Option (Str × Pl)) : Bool := match o with
  | some p => decide (p.1 = ("pick" : Str)) && isDown p.2
  | none => false
theorem isPick {o : Option (Str × Pl)} (h : isPickB o = true) : o = some (("pick" : Str), Pl.down) := by
  cases o with
  | none => cases h
  | some p =>
    obtain ⟨x, pl⟩ := p
    unfold isPickB at h
    dsimp only at h
    rw [Bool.and_eq_true, decide_eq_true_eq] at h
    cases pl with
    | top => exact absurd h.2 (by decide)
    | up => exact absurd h.2 (by decide)
    | down => rw [h.1]
theorem pick_rowB : ∀ wd ∈ [(2 : Int), 3, 4], ∀ k ∈ ksOf wd, isPickB (rowOf (pickS k) (os0 .down) wd) = true ∧ lnB (pickS k) = true ∧ inV (.str (pickS k)) blocksV = false ∧ 1 ≤ (pickS k).length := by decide +kernel
theorem pick_row : ∀ wd ∈ [(2 : Int), 3, 4], ∀ k ∈ ksOf wd, rowOf (pickS k) (os0 .down) wd = some (("pick" : Str), Pl.down) ∧ lnB (pickS k) = true ∧ inV (.str (pickS k)) blocksV = false ∧ 1 ≤ (pickS k).length := fun wd hw k hk => by
  obtain ⟨a, b⟩ := pick_rowB wd hw k hk
  exact ⟨isPick a, b⟩
theorem wd_mem {wd : Int} (h : Wd wd) : wd ∈ [(2 : Int), 3, 4] := by rcases h with rfl | rfl | rfl <;> decide
theorem row_pick {k wd : Int} {os : List Str} (hw : Wd wd) (hk : k ∈ ksOf wd) (ho : placeOf os = .down) : rowOf (pickS k) os wd = some (("pick" : Str), placeOf os) := by
  obtain ⟨h1, _, h3, _⟩ := pick_row wd (wd_mem hw) k hk
  rw [row_pl h3, ho]
  exact h1
theorem row_blk {w : Str} {os : List Str} {wd : Int} (hw : w ∈ blkL) : rowOf w os wd = if blockOf w os = true then some (w, placeOf os) else none := by
  unfold rowOf
  rw [if_pos (show inV (.str w) blocksV = true from inV_strs (ls := blkL).mpr hw)]
theorem tl_app (a b : Str) : tl (a ++ b) = tl a ++ tl b := tl_append a b
theorem ln_test {a x : Str} {pl : Pl} {wd : Int} (ha : 32 ∉ tl a ∧ 10 ∉ tl a ∧ a.length ≤ 5) (h : TestOk pl wd x) : LnOk ((a ++ (" " : Str)) ++ x) := by
  have hl : ((a ++ (" " : Str)) ++ x).length ≤ 100 := by
    rw [len_tl, tl_app, tl_app, List.length_append, List.length_append, ← len_tl, ← len_tl, ← len_tl]
    have := h.z
    have : (" " : Str).length = 1 := by decide +kernel
    omega
  refine ⟨⟨Nat.le_trans hl (by decide), ?_⟩, ?_, hl⟩
  · rw [part_app ha.1]; exact h.o
  · rw [tl_app, tl_app, List.mem_append, List.mem_append]
    rintro ((z | z) | z)
    · exact ha.2.1 z
    · exact absurd z (by decide +kernel)
    · exact h.n z
end
end
end H2
namespace H2
open PySem PySem.Spec PyProof.Rows L2 Hx Nd Dun
section
variable {P : Program} {w : World} {K : PySem.W.Frag} {mg : Str → Option Value} {base : Heap} {D : Addr}
/-! ### the bag, its list told -/
def BagL (H : Hp) (p l : Addr) (n : Nat) : Prop := ∃ (ns : List Int) (i dg fd : Int), H p = some (.dK (bagK l i dg (n : Int) fd)) ∧ H l = some (.lst (ns.map V.int)) ∧ ns.length ≤ 63 ∧ 0 ≤ i ∧ 0 ≤ dg ∧ 0 ≤ fd ∧ fd < 2147483587
theorem Bag.l {H : Hp} {p : Addr} {n : Nat} (b : Bag H p n) : ∃ l, BagL H p l n := b
theorem BagL.b {H : Hp} {p l : Addr} {n : Nat} (b : BagL H p l n) : Bag H p n := ⟨l, b⟩
theorem BagL.keep {H H' : Hp} {p l : Addr} {n : Nat} (b : BagL H p l n) (e : Same H H') : BagL H' p l n := by
  obtain ⟨ns, i, dg, fd, h1, h2, q⟩ := b
  exact ⟨ns, i, dg, fd, e _ _ h1, e _ _ h2, q⟩
theorem BagL.out {H : Hp} {p l d : Addr} {n : Nat} {o : HO} (b : BagL H p l n) (h : ∃ ys, H d = some (.lst ys)) (hd : d ≠ l) : BagL (upd H d o) p l n := by
  obtain ⟨ns, i, dg, fd, h1, h2, q⟩ := b
  obtain ⟨ys, hy⟩ := h
  have hp : p ≠ d := ne_of h1 hy (by intro z; cases z)
  exact ⟨ns, i, dg, fd, by rw [upd_ne hp]; exact h1, by rw [upd_ne hd.symm]; exact h2, q⟩
def spDrawL : Sp := fun vs H Q _ => ∃ (p : Addr) (n : Nat) (m : Int) (l : Addr), vs = [.ref p, .int m] ∧ BagL H p l n ∧ n ≤ 1000000 ∧ 0 < m ∧ m.natAbs < 2 ^ 8000 ∧
  ∀ (r : Int) (H' : Hp), 0 ≤ r → r < m → BagL H' p l (n + 1) → But p H H' → Q (.int r) H'
theorem ok_drawL {f : Addr} {fd : FuncData} (F : Fun K "_law_draw" "_law_draw" sDraw f fd) (B : BltT mg) : FnOk P w K mg base CX0 1 f fd ["_law_bag_here", "_law_limit"] spDrawL := by
  refine F.ok scDraw (fun vs H Q E h => ?_) (fun cdv A outer s H vs Q E hr h => ?_)
  · obtain ⟨p, n, m, l, rfl, _⟩ := h
    rfl
  · obtain ⟨p, n, m, l, rfl, ⟨ns, i, dg, fo, hp, hl, hlen, i0, d0, f0, f1⟩, hn, m0, m1, q⟩ := h
    have hu := hu_of hr
    have npl : l ≠ p := ne_of hl hp (by intro z; cases z)
    refine ⟨_, pss_cons (ps_dput hu (pv 0) pe_str (pe_op op_add (pe_dget hu (pv 0) pe_str (fun _ _ => rfl)) pe_int) rfl)
      (Evl.pss_cut (ps_if (PW.pt (pw_and (pt_cmpR op_eq (pe_dget hu (pv 0) pe_str (fun _ _ => rfl)) pe_int (nomark _)) (pw_and1 (pt_cmpR op_lt (pe_dget hu (pv 0) pe_str (fun _ _ => rfl)) (pe_callB call_len_seq (by rfl) B.len PySem.boot_len (pa_cons (pe_dget hu (pv 0) pe_str (fun _ _ => rfl)) pa_nil)) (nomark _)))))
          (pss_cons (ps_set (i := 2) scDraw.nd rfl (Or.inl rfl) (pe_ix ix_list (pe_dget hu (pv 0) pe_str (fun _ _ => rfl)) (pe_dget hu (pv 0) pe_str (fun _ _ => rfl)) (fun _ _ => rfl)))
          (pss_cons (ps_dput hu (pv 0) pe_str (pe_op op_add (pe_dget hu (pv 0) pe_str (fun _ _ => rfl)) pe_int) rfl)
          (pss_one (ps_if (pt_cmpR op_ge (pv 2) (pe_op op_pow pe_int pe_int) (nomark _))
            (pss_one (ps_dput hu (pv 0) pe_str (pe_op op_sub (pv 2) (pe_op op_pow pe_int pe_int)) rfl))
            (pss_one (ps_dput hu (pv 0) pe_str (pe_op op_mod (pe_callTy call_int1 (by rfl) B.int (by decide +kernel) (pa_cons (pe_op op_add (pe_op op_mul (pe_dget hu (pv 0) pe_str (fun _ _ => rfl)) pe_int) (pv 2)) pa_nil)) pe_int) rfl))))))
          pss_nil)
      (pss_cons (ps_if (pt_cmpR op_gt (pe_dget hu (pv 0) pe_str (fun _ _ => rfl)) pe_int (nomark _))
          (pss_cons (ps_set (i := 3) scDraw.nd rfl (Or.inl rfl) (pe_op op_mod (pe_callTy call_int1 (by rfl) B.int (by decide +kernel) (pa_cons (pe_dget hu (pv 0) pe_str (fun _ _ => rfl)) pa_nil)) (pv 1)))
          (pss_cons (ps_dput hu (pv 0) pe_str (pe_op op_fdivW (pe_dget hu (pv 0) pe_str (fun _ _ => rfl)) (pv 1)) rfl)
          (pss_one (ps_ret (pv 3)))))
          pss_nil)
      (pss_cons (ps_set (i := 4) scDraw.nd rfl (Or.inl rfl) (pe_op op_add (pe_op op_add (pe_dget hu (pv 0) pe_str (fun _ _ => rfl)) (pe_op op_mul (pe_dget hu (pv 0) pe_str (fun _ _ => rfl)) pe_int)) pe_int))
      (pss_one (ps_ret (pe_op op_mod (pe_op op_fdiv (pe_callTy call_int1 (by rfl) B.int (by decide +kernel) (pa_cons (pe_op op_mod (pe_op op_pow (pv 4) pe_int) pe_int) pa_nil)) pe_int) (pv 1))))))), ?_⟩
    have five : ∀ {l i dg ct fo}, (bagK l i dg ct fo).length < sizeLine := fun {l i dg ct fo} => by show 5 < sizeLine; decide
    -- bag["count"] = bag["count"] + 1
    refine ⟨_, rfl, p, _, rfl, (show DGet _ _ (kV kN) _ from by rw [← gN l i dg n fo]; exact DGet.k hp), _, _, rfl, rfl, _, rfl, p, _, rfl, DPut.k (k := kN) hp five, ?_⟩
    rw [pN]
    -- Mid: a bag again, with one more
    refine ⟨fun σ G => ∃ v : Option V, σ = [some (.ref p), some (.int m), v, none, none] ∧ BagL G p l (n + 1) ∧ But p H G, ?_, ?_⟩
    · have hp1 : (upd H p (.dK (bagK l i dg ((n : Int) + 1) fo))) p = some (.dK (bagK l i dg ((n : Int) + 1) fo)) := upd_same
      have hl1 : ∀ o, (upd H p o) l = some (.lst (ns.map V.int)) := fun o => by rw [upd_ne npl]; exact hl
      have en : ((n : Int) + 1) = ((n + 1 : Nat) : Int) := by omega
      have mid : ∀ (i dg fo : Int), 0 ≤ i → 0 ≤ dg → 0 ≤ fo → fo < 2147483587 → BagL (upd H p (.dK (bagK l i dg ((n : Int) + 1) fo))) p l (n + 1) := fun i dg fo a b c d =>
        ⟨ns, i, dg, fo, (by rw [upd_same, en]), hl1 _, hlen, a, b, c, d⟩
      refine ⟨_, rfl, p, _, rfl, (show DGet _ _ (kV kD) _ from by rw [← gD l i dg ((n : Int) + 1) fo]; exact DGet.k hp1), rfl, _, rfl, ?_⟩
      refine ite2 (fun c => ?_) (fun c => ?_)
      · refine ⟨_, rfl, p, _, rfl, (show DGet _ _ (kV kA) _ from by rw [← gA l i dg ((n : Int) + 1) fo]; exact DGet.k hp1), _, rfl, p, _, rfl, (show DGet _ _ (kV kC) _ from by rw [← gC l i dg ((n : Int) + 1) fo]; exact DGet.k hp1), l, _, rfl, .inl (SqL.of (hl1 _)), _, _, rfl, rfl, _, rfl, ?_⟩
        refine ite2 (fun c2 => ?_) (fun c2 => ?_)
        · have c3 : i < (ns.length : Int) := by
            have z := of_decide_eq_true c2
            rw [List.length_map] at z
            exact z
          obtain ⟨v, hv⟩ : ∃ v, ns[i.toNat]? = some v := ⟨_, List.getElem?_eq_getElem (by omega)⟩
          have hat : atI (ns.map V.int) i = some (.int v) := at_of (j := i.toNat) (by omega) (by rw [List.getElem?_map, hv] <;> rfl)
          refine ⟨_, rfl, p, _, rfl, (show DGet _ _ (kV kC) _ from by rw [← gC l i dg ((n : Int) + 1) fo]; exact DGet.k hp1), _, rfl, p, _, rfl, (show DGet _ _ (kV kA) _ from by rw [← gA l i dg ((n : Int) + 1) fo]; exact DGet.k hp1), l, _, _, _, rfl, rfl, SqL.of (hl1 _), hat, ?_⟩
          refine ⟨_, rfl, p, _, rfl, (show DGet _ _ (kV kA) _ from by rw [← gA l i dg ((n : Int) + 1) fo]; exact DGet.k hp1), _, _, rfl, rfl, _, rfl, p, _, rfl, DPut.k (k := kA) hp1 five, ?_⟩
          rw [pA, upd_upd]
          have hp2 : (upd H p (.dK (bagK l (i + 1) dg ((n : Int) + 1) fo))) p = some (.dK (bagK l (i + 1) dg ((n : Int) + 1) fo)) := upd_same
          refine ⟨_, rfl, _, _, rfl, rfl, ⟨by decide, by decide, by decide⟩, _, _, rfl, rfl, _, rfl, ?_⟩
          refine ite2 (fun c4 => ?_) (fun c4 => ?_)
          · have c5 : v ≥ (10 : Int) ^ (18 : Int).toNat := of_decide_eq_true c4
            refine ⟨_, rfl, _, _, rfl, rfl, ⟨by decide, by decide, by decide⟩, _, _, rfl, rfl, _, rfl, p, _, rfl, DPut.k (k := kD) hp2 five, ?_⟩
            rw [pD, upd_upd]
            exact ⟨_, rfl, mid _ _ _ (by omega) (Int.sub_nonneg_of_le c5) f0 f1, But.upd⟩
          · refine ⟨_, rfl, p, _, rfl, (show DGet _ _ (kV kF) _ from by rw [← gF l (i + 1) dg ((n : Int) + 1) fo]; exact DGet.k hp2), _, _, rfl, rfl, .inl ⟨by omega, by omega⟩, _, rfl, _, _, rfl, rfl, .inl ⟨_, rfl, _, _, rfl, rfl, (by show (0 : Int) < 2147483587; decide), _, rfl, p, _, rfl, DPut.k (k := kF) hp2 five, ?_⟩⟩
            rw [pF, upd_upd]
            exact ⟨_, rfl, mid _ _ _ (by omega) d0 (Int.emod_nonneg _ (by decide)) (Int.emod_lt_of_pos _ (by decide)), But.upd⟩
        · exact ⟨_, rfl, mid _ _ _ i0 d0 f0 f1, But.upd⟩
      · exact ⟨_, rfl, mid _ _ _ i0 d0 f0 f1, But.upd⟩
    · rintro σ G ⟨v, rfl, ⟨ns, i, dg, fo, hp, hl, hlen, i0, d0, f0, f1⟩, hB⟩
      have npl : l ≠ p := ne_of hl hp (by intro z; cases z)
      have hc : ((n + 1 : Nat) : Int) = (n : Int) + 1 := by omega
      refine ⟨_, rfl, p, _, rfl, (show DGet _ _ (kV kD) _ from by rw [← gD l i dg ((n + 1 : Nat) : Int) fo]; exact DGet.k hp), _, _, rfl, rfl, _, rfl, ?_⟩
      refine ite2 (fun c => ?_) (fun c => ?_)
      · refine ⟨_, rfl, p, _, rfl, (show DGet _ _ (kV kD) _ from by rw [← gD l i dg ((n + 1 : Nat) : Int) fo]; exact DGet.k hp), .inl ⟨_, rfl, _, rfl, _, _, rfl, rfl, m0, ?_⟩⟩
        refine ⟨_, rfl, p, _, rfl, (show DGet _ _ (kV kD) _ from by rw [← gD l i dg ((n + 1 : Nat) : Int) fo]; exact DGet.k hp), _, rfl, _, _, rfl, rfl, wide_div m0 m1 (by decide) (by decide), _, rfl, p, _, rfl, DPut.k (k := kD) hp five, ?_⟩
        rw [pD]
        refine ⟨_, rfl, ?_⟩
        refine q _ _ (Int.emod_nonneg _ (by omega)) (Int.emod_lt_of_pos _ m0) ⟨ns, i, dg / m, fo, upd_same, by rw [upd_ne npl]; exact hl, hlen, i0, Int.ediv_nonneg d0 (by omega), f0, f1⟩ (hB.trans But.upd)
      · refine ⟨_, rfl, p, _, rfl, (show DGet _ _ (kV kF) _ from by rw [← gF l i dg ((n + 1 : Nat) : Int) fo]; exact DGet.k hp), _, rfl, p, _, rfl, (show DGet _ _ (kV kN) _ from by rw [← gN l i dg ((n + 1 : Nat) : Int) fo]; exact DGet.k hp), _, _, rfl, rfl, .inl ⟨by omega, by omega⟩, _, _, rfl, rfl, _, _, rfl, rfl, ?_⟩
        refine ⟨_, rfl, _, _, rfl, rfl, big17 (by omega) (by omega), _, _, rfl, rfl, (by show (0 : Int) < 2305843009213693951; decide), .inl ⟨_, rfl, _, _, rfl, rfl, ⟨by decide, by decide⟩, _, rfl, _, _, rfl, rfl, m0, ?_⟩⟩
        exact q _ _ (Int.emod_nonneg _ (by omega)) (Int.emod_lt_of_pos _ m0) ⟨ns, i, dg, fo, hp, hl, hlen, i0, d0, f0, f1⟩ hB
theorem bag_dk {H : Hp} {p : Addr} {n : Nat} (b : Bag H p n) : ∃ kvs, H p = some (.dK kvs) := by
  obtain ⟨l, ns, i, dg, fd, h1, _⟩ := b
  exact ⟨_, h1⟩
theorem lst_but {H H' : Hp} {p a : Addr} {xs : List V} (b : But p H H') (hp : ∃ kvs, H p = some (.dK kvs)) (h : H a = some (.lst xs)) : H' a = some (.lst xs) := by
  obtain ⟨kvs, hk⟩ := hp
  exact b a _ (fun e => by rw [e, hk] at h; cases h) h
theorem small16 {m : Int} (h0 : 0 ≤ m) (h : m ≤ 1000) : m.natAbs < 2 ^ 8000 := by
  have h1 : m.natAbs < 2 ^ 10 := by omega
  exact Nat.lt_of_lt_of_le h1 (Nat.pow_le_pow_right (by decide) (by decide))
abbrev psBD : List Str := ["_law_bag_here", "_law_place", "_law_width"]
theorem len_app (a b : Str) : (a ++ b).length = a.length + b.length := by
  rw [TL.len_tl, TL.len_tl, TL.len_tl, tl_app, List.length_append]
def mkS (l : List Nat) : Str := ⟨l.toArray⟩
theorem split_list (x y : Str) (hy : TL.tl y ≠ []) (hk : y.cps.all (· < 256) = true) : Txt.split x y = (TL.spl (TL.tl y) 0 [] (TL.tl x)).map mkS := by
  rw [← TL.split_spl x y hy (TL.kind_ok hk), List.map_map]
  conv => lhs; rw [← List.map_id (Txt.split x y)]
  refine List.map_congr_left fun z _ => ?_
  exact (TL.mk_tl z).symm
end
end H2
namespace H2
open PySem PySem.Spec PyProof.Rows L2 Hx Nd Dun
section
variable {P : Program} {w : World} {K : PySem.W.Frag} {mg : Str → Option Value} {base : Heap} {D : Addr}
/-! ### _law_test -/
theorem ks_mem {r wd : Int} (h0 : 0 ≤ r) (h1 : r < wd) : 1 + r ∈ ksOf wd := by
  unfold ksOf
  exact List.mem_map.mpr ⟨r.toNat, List.mem_range.mpr (by omega), by omega⟩
theorem ks_four {k wd : Int} (hw : Wd wd) (h : k ∈ ksOf wd) : k = 1 ∨ k = 2 ∨ k = 3 ∨ k = 4 := by
  obtain ⟨i, hi, rfl⟩ := List.mem_map.mp h
  have hi' := List.mem_range.mp hi
  have : wd ≤ 4 := by rcases hw with rfl | rfl | rfl <;> decide
  omega
theorem num_len : ∀ k ∈ [(1 : Int), 2, 3, 4], (numS k).length ≤ 1 := by decide +kernel
theorem four_mem {k : Int} (h : k = 1 ∨ k = 2 ∨ k = 3 ∨ k = 4) : k ∈ [(1 : Int), 2, 3, 4] := by rcases h with rfl | rfl | rfl | rfl <;> decide
def sideB (xs : List Str) : Bool := xs.all (fun a => decide (a.length ≤ 5)) && decide xs.Nodup
theorem sides_t : ∀ k ∈ [(1 : Int), 2, 3, 4], sideB (sidesS .top k) = true ∧ (sidesS .top k).length = 3 := by decide +kernel
theorem sides_d : ∀ k ∈ [(1 : Int), 2, 3, 4], sideB (sidesS .down k) = true ∧ (sidesS .down k).length = 4 := by decide +kernel
theorem sides_u : ∀ k ∈ [(1 : Int), 2, 3, 4], sideB (sidesS .up k) = true ∧ (sidesS .up k).length = 3 := by decide +kernel
def sidesN (pl : Pl) : Nat := if isDown pl = true then 4 else 3
theorem sides_ok {pl : Pl} {k : Int} (h : k ∈ [(1 : Int), 2, 3, 4]) : (∀ a ∈ sidesS pl k, a.length ≤ 5) ∧ (sidesS pl k).Nodup ∧ (sidesS pl k).length = sidesN pl := by
  have key : sideB (sidesS pl k) = true ∧ (sidesS pl k).length = sidesN pl := by
    cases pl with
    | top => exact sides_t k h
    | down => exact sides_d k h
    | up => exact sides_u k h
  obtain ⟨h1, h2⟩ := key
  unfold sideB at h1
  simp only [Bool.and_eq_true, List.all_eq_true, decide_eq_true_eq] at h1
  exact ⟨h1.1, h1.2, h2⟩
theorem ops_len : ∀ o ∈ opsS, o.length ≤ 4 := by decide +kernel
theorem more_len : ∀ o ∈ moreS, o.length ≤ 5 := by decide +kernel
theorem not_len : ∀ o ∈ notS, o.length ≤ 4 := by decide +kernel
theorem plain_len : ∀ o ∈ plainS, o.length ≤ 11 := by decide +kernel
theorem cmp_mem {pl : Pl} {k : Int} {a o b : Str} (ha : a ∈ sidesS pl k) (ho : o ∈ opsS) (hb : b ∈ sidesS pl k) (hn : a ≠ b) : (a ++ o) ++ b ∈ cmpsS pl k := by
  unfold cmpsS
  refine List.mem_flatMap.mpr ⟨a, ha, List.mem_flatMap.mpr ⟨o, ho, List.mem_map.mpr ⟨b, List.mem_filter.mpr ⟨hb, ?_⟩, rfl⟩⟩⟩
  rw [decide_eq_false hn]
  rfl
theorem part_cmp {pl : Pl} {wd k : Int} {n a o b : Str} (hk : k ∈ ksOf wd) (hn : n ∈ notS) (ha : a ∈ sidesS pl k) (ho : o ∈ opsS) (hb : b ∈ sidesS pl k) (hne : a ≠ b) : n ++ ((a ++ o) ++ b) ∈ partsS pl wd :=
  List.mem_flatMap.mpr ⟨n, hn, List.mem_map.mpr ⟨_, List.mem_append_right _ (List.mem_append_left _ (List.mem_flatMap.mpr ⟨k, hk, cmp_mem ha ho hb hne⟩)), rfl⟩⟩
theorem part_plain {pl : Pl} {wd : Int} {n a : Str} (hn : n ∈ notS) (ha : a ∈ plainS) : n ++ a ∈ partsS pl wd :=
  List.mem_flatMap.mpr ⟨n, hn, List.mem_map.mpr ⟨_, List.mem_append_left _ ha, rfl⟩⟩
theorem part_has {pl : Pl} {wd k : Int} {n m : Str} (hd : isDown pl = true) (hk : k ∈ ksOf wd) (hn : n ∈ notS) (hm : m ∈ moreS) : n ++ ((("has " : Str) ++ numS k) ++ m) ∈ partsS pl wd :=
  List.mem_flatMap.mpr ⟨n, hn, List.mem_map.mpr ⟨_, List.mem_append_right _ (List.mem_append_right _ (by rw [if_pos hd]; exact List.mem_flatMap.mpr ⟨k, hk, List.mem_map.mpr ⟨m, hm, rfl⟩⟩)), rfl⟩⟩
theorem pick_str {H : Hp} {l : Addr} {ys : List Str} {r : Int} {Q : VK} (e : H l = some (.lst (ys.map V.str))) (h0 : 0 ≤ r) (h1 : r < (ys.length : Int)) (q : ∀ (hj : r.toNat < ys.length), Q (.str (ys[r.toNat]'hj)) H) : rIxL K (.ref l) (.int r) H Q := by
  have hj : r.toNat < ys.length := by omega
  exact ⟨l, _, r, .str ys[r.toNat], rfl, rfl, SqL.of e, at_of (j := r.toNat) (by omega) (by rw [List.getElem?_map, List.getElem?_eq_getElem hj]; rfl), q hj⟩
theorem but_out {p d : Addr} {H H' : Hp} {o : HO} (h : But p H H') (n : H d = none) : But p H (upd H' d o) := fun b u hb z => by
  rw [upd_ne (ne_of_none z n)]
  exact h b u hb z
theorem part_len {pl : Pl} {wd : Int} {x : Str} (hw : Wd wd) (h : x ∈ partsS pl wd) : x.length ≤ 25 := by
  have := parts_ok pl hw x h
  unfold partB at this
  simp only [Bool.and_eq_true, decide_eq_true_eq] at this
  exact this.2.2.2.2.2
theorem sum_25 : ∀ {ps : List Str}, (∀ x ∈ ps, x.length ≤ 25) → (ps.map (·.length)).sum ≤ 25 * ps.length
  | [], _ => Nat.le_refl _
  | x :: r, h => by
    rw [List.map_cons, List.sum_cons, List.length_cons]
    have := h x List.mem_cons_self
    have := sum_25 fun y hy => h y (List.mem_cons_of_mem _ hy)
    omega
def spLTest : Sp := fun vs H Q _ => ∃ (p l : Addr) (n : Nat) (pl : Pl) (wd : Int), vs = [.ref p, .str pl.str, .int wd] ∧ BagL H p l n ∧ n ≤ 900000 ∧ Wd wd ∧ ∀ H' x n', But p H H' → BagL H' p l n' → n' ≤ n + 30 → TestOk pl wd x → Q (.str x) H'
theorem ok_ltest {f g : Addr} (T0 : FT K mg "_law_test" s_Ltest psBD f) (BT : BltT mg) (st : mg "str" = none) (rng : mg "range" = none) {gd : FuncData} (FD : Fun K "_law_draw" "_law_draw" sDraw g gd) (bD : Binds K gd ["_law_bag_here", "_law_limit"] []) (mD : mg "_law_draw" = some (.ref g)) :
    ∃ fd, Fun K "_law_test" "_law_test" s_Ltest f fd ∧ Binds K fd psBD [] ∧ FnOk P w K mg base CX0 2 f fd psBD spLTest := by
  obtain ⟨fd, F, b⟩ := T0.fn
  have GD : FnOk P w K mg base CX0 1 g gd ["_law_bag_here", "_law_limit"] spDrawL := ok_drawL FD BT
  refine ⟨fd, F, b, F.ok c_Ltest (fun vs H Q E h => ?_) (fun cdv A outer s H vs Q E hr h => ?_)⟩
  · obtain ⟨p, l, n, pl, wd, rfl, _⟩ := h
    rfl
  obtain ⟨p, l, n, pl, wd, rfl, hb, hn, hw, q⟩ := h
  refine ⟨_, pss_cons (ps_set (i := 3) c_Ltest.nd rfl (Or.inl rfl) (pe_op op_add_str pe_str (pe_callTy call_str_int (by rfl) st (by decide +kernel) (pa_cons (pe_op op_add pe_int (pe_call GD hr rfl mD FD.kp bD .nil pass0 (pa_cons (pv 0) (pa_cons (pv 2) pa_nil)))) pa_nil)))) <| Evl.pss_cut (ps_set (i := 4) c_Ltest.nd rfl (Or.inl rfl) (pe_op op_cat (pe_lst (pa_cons pe_str (pa_cons pe_str (pa_cons (pe_ifExp (pt_cmpR op_eq (pv 1) pe_str (nomark _)) pe_str pe_str) pa_nil)))) (pe_op op_rep (pe_lst (pa_cons (pv 3) pa_nil)) (pe_callTy call_int1 (by rfl) BT.int (by decide +kernel) (pa_cons (pe_cmpR op_eq (pv 1) pe_str (nomark _)) pa_nil)))))
    (pss_cons (ps_set (i := 5) c_Ltest.nd rfl (Or.inl rfl) (pe_lst pa_nil)) <| pss_cons (ps_for PassesOwn.never rfl (pi_range1 rfl rng (pa_cons (pe_op op_add pe_int (pe_call GD hr rfl mD FD.kp bD .nil pass0 (pa_cons (pv 0) (pa_cons pe_int pa_nil)))) pa_nil)) (pg_name (i := 6) c_Ltest.nd rfl (Or.inl rfl))
      (Evl.pss_cut (ps_set (i := 7) c_Ltest.nd rfl (Or.inl rfl) (pe_call GD hr rfl mD FD.kp bD .nil pass0 (pa_cons (pv 0) (pa_cons (pe_ifExp (pt_cmpR op_eq (pv 1) pe_str (nomark _)) pe_int pe_int) pa_nil))))
      (pss_cons (ps_set (i := 8) c_Ltest.nd rfl (Or.inl rfl) (pe_call GD hr rfl mD FD.kp bD .nil pass0 (pa_cons (pv 0) (pa_cons (pe_callB call_len_seq (by rfl) BT.len PySem.boot_len (pa_cons (pv 4) pa_nil)) pa_nil)))) <| pss_cons (ps_set (i := 9) c_Ltest.nd rfl (Or.inl rfl) (pe_ix ix_list (pv 4) (pe_op op_mod (pe_callTy call_int1 (by rfl) BT.int (by decide +kernel) (pa_cons (pe_op op_add (pe_op op_add (pv 8) pe_int) (pe_call GD hr rfl mD FD.kp bD .nil pass0 (pa_cons (pv 0) (pa_cons (pe_op op_sub (pe_callB call_len_seq (by rfl) BT.len PySem.boot_len (pa_cons (pv 4) pa_nil)) pe_int) pa_nil)))) pa_nil)) (pe_callB call_len_seq (by rfl) BT.len PySem.boot_len (pa_cons (pv 4) pa_nil))) (fun _ _ => rfl))) <| Evl.pss_cut (ps_set (i := 10) c_Ltest.nd rfl (Or.inl rfl) (pe_ix ix_list (pe_lst (pa_cons pe_str (pa_cons pe_str (pa_cons pe_str (pa_cons pe_str (pa_cons (pe_op op_add_str pe_str (pe_callTy call_str_int (by rfl) st (by decide +kernel) (pa_cons (pe_op op_add pe_int (pe_call GD hr rfl mD FD.kp bD .nil pass0 (pa_cons (pv 0) (pa_cons (pv 2) pa_nil)))) pa_nil))) pa_nil)))))) (pv 7) (fun _ _ => rfl)))
        (Evl.pss_cut (ps_if (pt_cmpR op_eq (pv 7) pe_int (nomark _)) (pss_one (ps_set (i := 10) c_Ltest.nd rfl (Or.inl rfl) (pe_op op_add_str (pe_op op_add_str (pe_ix ix_list (pv 4) (pv 8) (fun _ _ => rfl)) (pe_ix ix_list (pe_lst (pa_cons pe_str (pa_cons pe_str pa_nil))) (pe_call GD hr rfl mD FD.kp bD .nil pass0 (pa_cons (pv 0) (pa_cons pe_int pa_nil))) (fun _ _ => rfl))) (pv 9)))) pss_nil)
        (Evl.pss_cut (ps_if (pt_cmpR op_eq (pv 7) pe_int (nomark _)) (pss_one (ps_set (i := 10) c_Ltest.nd rfl (Or.inl rfl) (pe_op op_add_str (pv 10) (pe_ix ix_list (pe_lst (pa_cons pe_str (pa_cons pe_str (pa_cons pe_str pa_nil)))) (pe_call GD hr rfl mD FD.kp bD .nil pass0 (pa_cons (pv 0) (pa_cons pe_int pa_nil))) (fun _ _ => rfl))))) pss_nil)
        (pss_one (ps_expr (pe_bm PySem.F.plainAttrs_list PySem.F.slot_list_append PySem.F.type_list_append mt_append (pv 5) (pa_cons (pe_op op_add_str (pe_ix ix_list (pe_lst (pa_cons pe_str (pa_cons pe_str pa_nil))) (pe_call GD hr rfl mD FD.kp bD .nil pass0 (pa_cons (pv 0) (pa_cons pe_int pa_nil))) (fun _ _ => rfl)) (pv 10)) pa_nil))))))))) <| pss_one (ps_ret (pe_join pe_str (pv 5)))), ?_⟩
  have wd0 : 0 < wd ∧ wd ≤ 4 := by rcases hw with rfl | rfl | rfl <;> decide
  refine ⟨_, rfl, _, rfl, p, n, wd, l, rfl, hb, by omega, wd0.1, small16 (by omega) (by omega), fun r0 H1 a0 a1 bH1 uH1 => ?_⟩
  have hk := ks_mem a0 a1
  have hk4 := four_mem (ks_four hw hk)
  obtain ⟨hs5, hsn, hsl⟩ := sides_ok (pl := pl) hk4
  have hkl := num_len _ hk4
  have hz : ∀ {m : Nat}, m ≤ 3000 → m ≤ sizeLine := fun h => Nat.le_trans h (by decide)
  refine ⟨_, _, rfl, rfl, _, rfl, by rcases ks_four hw hk with e | e | e | e <;> rw [e] <;> decide +kernel, _, _, rfl, rfl, ?_, ?_⟩
  · exact hz (Nat.le_trans (Nat.add_le_add (show ("kid " : Str).length ≤ 4 by decide +kernel) hkl) (by decide))
  refine ⟨fun σ G => ∃ ls, σ = [some (.ref p), some (.str pl.str), some (.int wd), some (.str (kidS (1 + r0))), some (.ref ls), none, none, none, none, none, none] ∧ Same H1 G ∧ H1 ls = none ∧ G ls = some (.lst ((sidesS pl (1 + r0)).map V.str)), ?_, ?_⟩
  · cases pl with
    | top =>
      refine ⟨_, rfl, rfl, _, rfl, iteBT (by decide +kernel) ⟨(by show 3 ≤ sizeLine; decide), fun l1 n1 => ?_⟩⟩
      refine ⟨_, rfl, (by show 1 ≤ sizeLine; decide), fun l2 n2 => ⟨_, rfl, rfl, .inr ⟨_, rfl, ?_⟩⟩⟩
      refine ⟨l2, 0, [.str (kidS (1 + r0))], rfl, by decide +kernel, upd_same, by decide, by decide, (by show 1 * 0 ≤ sizeLine; decide), fun l3 n3 => ?_⟩
      have s1 := new_same (o := .lst [.str "hand", .str "at", .str "given"]) n1
      have t2 := new_same (o := .lst [.str (kidS (1 + r0))]) n2
      have t3 := new_same (o := .lst []) n3
      refine ⟨l1, l3, _, _, rfl, rfl, t3 _ _ (t2 _ _ upd_same), upd_same, (by show 3 + 0 ≤ sizeLine; decide), fun l4 n4 => ?_⟩
      have S3 := (s1.trans t2).trans t3
      exact ⟨l4, rfl, same_new S3 n4, free_same S3 n4, upd_same⟩
    | down =>
      refine ⟨_, rfl, rfl, _, rfl, iteBF (by decide +kernel) ⟨(by show 3 ≤ sizeLine; decide), fun l1 n1 => ?_⟩⟩
      refine ⟨_, rfl, (by show 1 ≤ sizeLine; decide), fun l2 n2 => ⟨_, rfl, rfl, .inr ⟨_, rfl, ?_⟩⟩⟩
      refine ⟨l2, 1, [.str (kidS (1 + r0))], rfl, by decide +kernel, upd_same, by decide, by decide, (by show 1 * 1 ≤ sizeLine; decide), fun l3 n3 => ?_⟩
      have s1 := new_same (o := .lst [.str "hand", .str "at", .str "mate"]) n1
      have t2 := new_same (o := .lst [.str (kidS (1 + r0))]) n2
      have t3 := new_same (o := .lst [.str (kidS (1 + r0))]) n3
      refine ⟨l1, l3, _, _, rfl, rfl, t3 _ _ (t2 _ _ upd_same), upd_same, (by show 3 + 1 ≤ sizeLine; decide), fun l4 n4 => ?_⟩
      have S3 := (s1.trans t2).trans t3
      exact ⟨l4, rfl, same_new S3 n4, free_same S3 n4, upd_same⟩
    | up =>
      refine ⟨_, rfl, rfl, _, rfl, iteBF (by decide +kernel) ⟨(by show 3 ≤ sizeLine; decide), fun l1 n1 => ?_⟩⟩
      refine ⟨_, rfl, (by show 1 ≤ sizeLine; decide), fun l2 n2 => ⟨_, rfl, rfl, .inr ⟨_, rfl, ?_⟩⟩⟩
      refine ⟨l2, 0, [.str (kidS (1 + r0))], rfl, by decide +kernel, upd_same, by decide, by decide, (by show 1 * 0 ≤ sizeLine; decide), fun l3 n3 => ?_⟩
      have s1 := new_same (o := .lst [.str "hand", .str "at", .str "mate"]) n1
      have t2 := new_same (o := .lst [.str (kidS (1 + r0))]) n2
      have t3 := new_same (o := .lst []) n3
      refine ⟨l1, l3, _, _, rfl, rfl, t3 _ _ (t2 _ _ upd_same), upd_same, (by show 3 + 0 ≤ sizeLine; decide), fun l4 n4 => ?_⟩
      have S3 := (s1.trans t2).trans t3
      exact ⟨l4, rfl, same_new S3 n4, free_same S3 n4, upd_same⟩
  · rintro σ G ⟨ls, rfl, sG, nls, els⟩
    refine ⟨Nat.zero_le _, fun lf nlf => ?_⟩
    have sF := new_same (o := .lst []) nlf
    have nlfG := free_same sG nlf
    have bG := (bH1.keep sG).keep sF
    have nfl : lf ≠ l := fun e => by
      obtain ⟨ns, i, dg, fd, _, h2, _⟩ := bH1.keep sG
      rw [e, h2] at nlf; cases nlf
    have nfs : lf ≠ ls := fun e => by rw [e, els] at nlf; cases nlf
    have nfH : H lf = none := uH1.free bH1.b nlfG
    have dk := bag_dk bG.b
    refine ⟨_, rfl, p, n + 1, 3, l, rfl, bG, by omega, by decide, small16 (by decide) (by decide), fun r G2 c0 c1 bG2 uG2 => ?_⟩
    refine ⟨_, _, rfl, rfl, 1 + r, rfl, by omega, by omega, for_range (n := (1 + r).toNat) (fun i σ G => ∃ (ps : List Str) (n' : Nat) (v6 v7 v8 v9 v10 : Option V), σ = [some (.ref p), some (.str pl.str), some (.int wd), some (.str (kidS (1 + r0))), some (.ref ls), some (.ref lf), v6, v7, v8, v9, v10] ∧ BagL G p l n' ∧ n' ≤ n + 2 + 7 * i ∧ But p H G ∧
      G ls = some (.lst ((sidesS pl (1 + r0)).map V.str)) ∧ G lf = some (.lst (ps.map V.str)) ∧ ps.length = i ∧ ∀ x ∈ ps, x ∈ partsS pl wd)
      ⟨[], n + 2, none, none, none, none, none, rfl, bG2, Nat.le_refl _, (uH1.trans (Hx.Same.but (sG.trans sF))).trans uG2, lst_but uG2 dk (sF _ _ els), lst_but uG2 dk upd_same, rfl, fun x hx => by cases hx⟩ ?_ ?_⟩
    · rintro i σ G hi ⟨ps, n', v6, v7, v8, v9, v10, rfl, bG, hn', uG, els, elf, hps, hpp⟩
      have hi3 : i < 3 := by omega
      refine ⟨fun σ G => ∃ (pk : Int) (n' : Nat), σ = [some (.ref p), some (.str pl.str), some (.int wd), some (.str (kidS (1 + r0))), some (.ref ls), some (.ref lf), some (.int (0 + (i : Int))), some (.int pk), v8, v9, v10] ∧ 0 ≤ pk ∧ pk ≤ 4 ∧ (pk = 4 → isDown pl = true) ∧ BagL G p l n' ∧ n' ≤ n + 3 + 7 * i ∧ But p H G ∧
        G ls = some (.lst ((sidesS pl (1 + r0)).map V.str)) ∧ G lf = some (.lst (ps.map V.str)), ?_, ?_⟩
      · have dk := bag_dk bG.b
        refine ⟨_, rfl, _, rfl, rfl, _, rfl, ite2 (fun hd => ?_) (fun hd => ?_)⟩
        · rw [down_eq] at hd
          exact ⟨p, n', 5, l, rfl, bG, by omega, by decide, small16 (by decide) (by decide), fun r2 G3 d0 d1 bG3 uG3 => ⟨r2, n' + 1, rfl, d0, by omega, fun _ => hd, bG3, by omega, uG.trans uG3, lst_but uG3 dk els, lst_but uG3 dk elf⟩⟩
        · exact ⟨p, n', 4, l, rfl, bG, by omega, by decide, small16 (by decide) (by decide), fun r2 G3 d0 d1 bG3 uG3 => ⟨r2, n' + 1, rfl, d0, by omega, fun z => by omega, bG3, by omega, uG.trans uG3, lst_but uG3 dk els, lst_but uG3 dk elf⟩⟩
      rintro σ G ⟨pk, n2, rfl, pk0, pk4, pkd, bG, hn2, uG, els, elf⟩
      have dk := bag_dk bG.b
      have hN3 : 3 ≤ sidesN pl ∧ sidesN pl ≤ 4 := by unfold sidesN; split <;> omega
      refine ⟨_, rfl, _, rfl, ls, _, rfl, .inl (SqL.of els), ?_⟩
      rw [List.length_map, hsl]
      refine ⟨p, n2, _, l, rfl, bG, by omega, by omega, small16 (by omega) (by omega), fun one G2 o0 o1 bG2 uG2 => ?_⟩
      have els2 := lst_but uG2 dk els
      have elf2 := lst_but uG2 dk elf
      have dk2 := bag_dk bG2.b
      refine ⟨_, rfl, _, rfl, _, _, rfl, rfl, _, rfl, _, rfl, ls, _, rfl, .inl (SqL.of els2), _, _, rfl, rfl, ?_⟩
      rw [List.length_map, hsl]
      refine ⟨p, n2 + 1, _, l, rfl, bG2, by omega, by omega, small16 (by omega) (by omega), fun d G3 d0 d1 bG3 uG3 => ?_⟩
      have els3 := lst_but uG3 dk2 els2
      have elf3 := lst_but uG3 dk2 elf2
      refine ⟨_, _, rfl, rfl, .inl ⟨_, rfl, _, rfl, ls, _, rfl, .inl (SqL.of els3), _, _, rfl, rfl, ?_, ?_⟩⟩
      · rw [List.length_map, hsl]; omega
      rw [List.length_map, hsl]
      have mo0 : 0 ≤ (one + 1 + d) % ((sidesN pl : Nat) : Int) := Int.emod_nonneg _ (by omega)
      have mo1 : (one + 1 + d) % ((sidesN pl : Nat) : Int) < ((sidesN pl : Nat) : Int) := Int.emod_lt_of_pos _ (by omega)
      have hone : one.toNat < (sidesS pl (1 + r0)).length := by rw [hsl]; omega
      refine pick_str els3 mo0 (by rw [hsl]; exact mo1) fun hj => ?_
      obtain ⟨av, hav⟩ : ∃ av, av = (sidesS pl (1 + r0))[one.toNat] := ⟨_, rfl⟩
      obtain ⟨oth, hoth⟩ : ∃ oth, oth = (sidesS pl (1 + r0))[((one + 1 + d) % ((sidesN pl : Nat) : Int)).toNat] := ⟨_, rfl⟩
      have hne : av ≠ oth := by
        rw [hav, hoth]
        intro z
        have z2 := (List.getElem_inj hsn).mp z
        have hN : sidesN pl = 3 ∨ sidesN pl = 4 := by omega
        rcases hN with e | e <;> rw [e] at z2 o1 d1 <;> omega
      have ha : av ∈ sidesS pl (1 + r0) := by rw [hav]; exact List.getElem_mem _
      have hb' : oth ∈ sidesS pl (1 + r0) := by rw [hoth]; exact List.getElem_mem _
      rw [← hoth]
      have uHG3 := (uG.trans uG2).trans uG3
      refine ⟨fun σ G => ∃ (part : Str) (n' : Nat), σ = [some (.ref p), some (.str pl.str), some (.int wd), some (.str (kidS (1 + r0))), some (.ref ls), some (.ref lf), some (.int (0 + (i : Int))), some (.int pk), some (.int one), some (.str oth), some (.str part)] ∧ (pk = 4 → ∃ k ∈ ksOf wd, part = ("has " : Str) ++ numS k) ∧ (pk ≠ 0 → pk ≠ 4 → part ∈ plainS) ∧ part.length ≤ 11 ∧ BagL G p l n' ∧ n' ≤ n + 6 + 7 * i ∧ But p H G ∧ G ls = some (.lst ((sidesS pl (1 + r0)).map V.str)) ∧ G lf = some (.lst (ps.map V.str)), ?_, ?_⟩
      · have dk3 := bag_dk bG3.b
        refine ⟨_, rfl, _, rfl, p, n2 + 1 + 1, wd, l, rfl, bG3, by omega, wd0.1, small16 (by omega) (by omega), fun hk0 G4 e0 e1 bG4 uG4 => ?_⟩
        have hkk := ks_mem e0 e1
        have hkk4 := four_mem (ks_four hw hkk)
        have hkkl := num_len _ hkk4
        have hlen : (("has " : Str) ++ numS (1 + hk0)).length ≤ 11 := by
          rw [len_app]
          exact Nat.le_trans (Nat.add_le_add (show ("has " : Str).length ≤ 4 by decide +kernel) hkkl) (by decide)
        refine ⟨_, _, rfl, rfl, _, rfl, by rcases ks_four hw hkk with e | e | e | e <;> rw [e] <;> decide +kernel, _, _, rfl, rfl, ?_, ?_⟩
        · have := hlen
          rw [len_app] at this
          exact hz (Nat.le_trans this (by decide))
        refine ⟨(by show 5 ≤ sizeLine; decide), fun lx nlx => ⟨_, rfl, ?_⟩⟩
        have sx := new_same (o := .lst [.str "inside", .str "inside", .str "below root", .str "below start", .str (("has " : Str) ++ numS (1 + hk0))]) nlx
        have fin : ∀ part : Str, (pk = 4 → ∃ k ∈ ksOf wd, part = ("has " : Str) ++ numS k) → (pk ≠ 0 → pk ≠ 4 → part ∈ plainS) → part.length ≤ 11 → ∃ (part2 : Str) (n' : Nat), ([some (.ref p), some (.str pl.str), some (.int wd), some (.str (kidS (1 + r0))), some (.ref ls), some (.ref lf), some (.int (0 + (i : Int))), some (.int pk), some (.int one), some (.str oth), some (.str part)] : L2.St) = [some (.ref p), some (.str pl.str), some (.int wd), some (.str (kidS (1 + r0))), some (.ref ls), some (.ref lf), some (.int (0 + (i : Int))), some (.int pk), some (.int one), some (.str oth), some (.str part2)] ∧ (pk = 4 → ∃ k ∈ ksOf wd, part2 = ("has " : Str) ++ numS k) ∧ (pk ≠ 0 → pk ≠ 4 → part2 ∈ plainS) ∧ part2.length ≤ 11 ∧ BagL (upd G4 lx (.lst [.str "inside", .str "inside", .str "below root", .str "below start", .str (("has " : Str) ++ numS (1 + hk0))])) p l n' ∧ n' ≤ n + 6 + 7 * i ∧ But p H (upd G4 lx (.lst [.str "inside", .str "inside", .str "below root", .str "below start", .str (("has " : Str) ++ numS (1 + hk0))])) ∧ (upd G4 lx (.lst [.str "inside", .str "inside", .str "below root", .str "below start", .str (("has " : Str) ++ numS (1 + hk0))])) ls = some (.lst ((sidesS pl (1 + r0)).map V.str)) ∧ (upd G4 lx (.lst [.str "inside", .str "inside", .str "below root", .str "below start", .str (("has " : Str) ++ numS (1 + hk0))])) lf = some (.lst (ps.map V.str)) := fun part h1 h2 h3 =>
          ⟨part, n2 + 3, rfl, h1, h2, h3, bG4.keep sx, by omega, (uHG3.trans uG4).trans (Hx.Same.but sx), sx _ _ (lst_but uG4 dk3 els3), sx _ _ (lst_but uG4 dk3 elf3)⟩
        have hpk : pk = 0 ∨ pk = 1 ∨ pk = 2 ∨ pk = 3 ∨ pk = 4 := by omega
        have hin : ("inside" : Str).length ≤ 11 := by decide +kernel
        rcases hpk with e | e | e | e | e
        · refine ⟨lx, _, pk, .str "inside", rfl, rfl, SqL.of upd_same, at_of (j := 0) (by omega) rfl, fin _ (fun z => by omega) (fun z _ => absurd e z) (by decide +kernel)⟩
        · refine ⟨lx, _, pk, .str "inside", rfl, rfl, SqL.of upd_same, at_of (j := 1) (by omega) rfl, fin _ (fun z => by omega) (fun _ _ => by decide +kernel) (by decide +kernel)⟩
        · refine ⟨lx, _, pk, .str "below root", rfl, rfl, SqL.of upd_same, at_of (j := 2) (by omega) rfl, fin _ (fun z => by omega) (fun _ _ => by decide +kernel) (by decide +kernel)⟩
        · refine ⟨lx, _, pk, .str "below start", rfl, rfl, SqL.of upd_same, at_of (j := 3) (by omega) rfl, fin _ (fun z => by omega) (fun _ _ => by decide +kernel) (by decide +kernel)⟩
        · refine ⟨lx, _, pk, .str (("has " : Str) ++ numS (1 + hk0)), rfl, rfl, SqL.of upd_same, at_of (j := 4) (by omega) rfl, fin _ (fun _ => ⟨_, hkk, rfl⟩) (fun _ z => absurd e z) hlen⟩
      rintro σ G ⟨part, n3, rfl, hp4, hpm, hpl, bG, hn3, uG, els, elf⟩
      refine ⟨fun σ G => ∃ (part : Str) (n' : Nat), σ = [some (.ref p), some (.str pl.str), some (.int wd), some (.str (kidS (1 + r0))), some (.ref ls), some (.ref lf), some (.int (0 + (i : Int))), some (.int pk), some (.int one), some (.str oth), some (.str part)] ∧ (pk = 0 → ∃ o ∈ opsS, part = (av ++ o) ++ oth) ∧ (pk = 4 → ∃ k ∈ ksOf wd, part = ("has " : Str) ++ numS k) ∧ (pk ≠ 0 → pk ≠ 4 → part ∈ plainS) ∧ part.length ≤ 15 ∧ BagL G p l n' ∧ n' ≤ n + 7 + 7 * i ∧ But p H G ∧ G ls = some (.lst ((sidesS pl (1 + r0)).map V.str)) ∧ G lf = some (.lst (ps.map V.str)), ?_, ?_⟩
      · refine ⟨_, rfl, rfl, _, rfl, ite2 (fun h0 => ?_) (fun h0 => ?_)⟩
        · have e0 : pk = 0 := V.int.inj (of_decide_eq_true h0)
          have dk := bag_dk bG.b
          refine ⟨_, rfl, _, rfl, pick_str els o0 (by rw [hsl]; exact o1) fun _ => ?_⟩
          rw [← hav]
          refine ⟨(by show 2 ≤ sizeLine; decide), fun lx nlx => ?_⟩
          have sx := new_same (o := .lst [.str " < ", .str " <= "]) nlx
          refine ⟨_, rfl, p, n3, 2, l, rfl, bG.keep sx, by omega, by decide, small16 (by decide) (by decide), fun ro G4 f0 f1 bG4 uG4 => ?_⟩
          have elx := lst_but (xs := opsS.map V.str) uG4 (bag_dk (bG.keep sx).b) upd_same
          refine pick_str elx f0 f1 fun hjo => ?_
          have ho : opsS[ro.toNat] ∈ opsS := List.getElem_mem hjo
          have l1 := hs5 _ ha
          have l2 := ops_len _ ho
          have l3 := hs5 _ hb'
          refine ⟨_, _, rfl, rfl, hz (by omega), _, rfl, _, _, rfl, rfl, hz (by rw [len_app]; omega), ?_⟩
          refine ⟨_, n3 + 1, rfl, fun _ => ⟨_, ho, rfl⟩, fun z => by omega, fun z => absurd e0 z, by rw [len_app, len_app]; omega, bG4, by omega, (uG.trans (Hx.Same.but sx)).trans uG4, lst_but uG4 (bag_dk (bG.keep sx).b) (sx _ _ els), lst_but uG4 (bag_dk (bG.keep sx).b) (sx _ _ elf)⟩
        · have e0 : pk ≠ 0 := fun z => h0 (decide_eq_true (by rw [z]))
          exact ⟨part, n3, rfl, fun z => absurd z e0, hp4, hpm, by omega, bG, by omega, uG, els, elf⟩
      rintro σ G ⟨part, n4, rfl, hp0, hp4, hpm, hpl, bG, hn4, uG, els, elf⟩
      refine ⟨fun σ G => ∃ (part : Str) (n' : Nat), σ = [some (.ref p), some (.str pl.str), some (.int wd), some (.str (kidS (1 + r0))), some (.ref ls), some (.ref lf), some (.int (0 + (i : Int))), some (.int pk), some (.int one), some (.str oth), some (.str part)] ∧ (∀ n ∈ notS, n ++ part ∈ partsS pl wd) ∧ part.length ≤ 20 ∧ BagL G p l n' ∧ n' ≤ n + 8 + 7 * i ∧ But p H G ∧ G ls = some (.lst ((sidesS pl (1 + r0)).map V.str)) ∧ G lf = some (.lst (ps.map V.str)), ?_, ?_⟩
      · refine ⟨_, rfl, rfl, _, rfl, ite2 (fun h0 => ?_) (fun h0 => ?_)⟩
        · have e0 : pk = 4 := V.int.inj (of_decide_eq_true h0)
          obtain ⟨k, hk2, rfl⟩ := hp4 e0
          have hkl2 := num_len _ (four_mem (ks_four hw hk2))
          refine ⟨_, rfl, (by show 3 ≤ sizeLine; decide), fun lx nlx => ?_⟩
          have sx := new_same (o := .lst [.str "", .str " less", .str " more"]) nlx
          refine ⟨_, rfl, p, n4, 3, l, rfl, bG.keep sx, by omega, by decide, small16 (by decide) (by decide), fun ro G4 f0 f1 bG4 uG4 => ?_⟩
          have elx := lst_but (xs := moreS.map V.str) uG4 (bag_dk (bG.keep sx).b) upd_same
          refine pick_str elx f0 f1 fun hjo => ?_
          have ho : moreS[ro.toNat] ∈ moreS := List.getElem_mem hjo
          have l2 := more_len _ ho
          have l3 : (("has " : Str) ++ numS k).length ≤ 5 := by
            rw [len_app]
            exact Nat.add_le_add (show ("has " : Str).length ≤ 4 by decide +kernel) hkl2
          refine ⟨_, _, rfl, rfl, hz (by omega), ?_⟩
          refine ⟨_, n4 + 1, rfl, fun m hm => part_has (pkd e0) hk2 hm ho, by rw [len_app]; omega, bG4, by omega, (uG.trans (Hx.Same.but sx)).trans uG4, lst_but uG4 (bag_dk (bG.keep sx).b) (sx _ _ els), lst_but uG4 (bag_dk (bG.keep sx).b) (sx _ _ elf)⟩
        · have e0 : pk ≠ 4 := fun z => h0 (decide_eq_true (by rw [z]))
          refine ⟨part, n4, rfl, fun m hm => ?_, by omega, bG, by omega, uG, els, elf⟩
          by_cases e1 : pk = 0
          · obtain ⟨o, ho, rfl⟩ := hp0 e1
            exact part_cmp hk hm ha ho hb' hne
          · exact part_plain hm (hpm e1 e0)
      rintro σ G ⟨part, n5, rfl, hpart, hpl, bG, hn5, uG, els, elf⟩
      refine ⟨_, rfl, .inl ⟨rfl, _, SqL.of elf⟩, (by show 2 ≤ sizeLine; decide), fun lx nlx => ?_⟩
      have sx := new_same (o := .lst [.str "", .str "not "]) nlx
      refine ⟨_, rfl, p, n5, 2, l, rfl, bG.keep sx, by omega, by decide, small16 (by decide) (by decide), fun ro G4 f0 f1 bG4 uG4 => ?_⟩
      have dkx := bag_dk (bG.keep sx).b
      have elx := lst_but (xs := notS.map V.str) uG4 dkx upd_same
      refine pick_str elx f0 f1 fun hjo => ?_
      have ho : notS[ro.toNat] ∈ notS := List.getElem_mem hjo
      have l2 := not_len _ ho
      have elf4 := lst_but uG4 dkx (sx _ _ elf)
      refine ⟨_, rfl, _, _, rfl, rfl, hz (by omega), lf, _, _, rfl, rfl, elf4, ?_, ?_⟩
      · rw [List.length_map]
        exact Nat.lt_of_lt_of_le (show ps.length < 10 by omega) (by decide)
      · refine ⟨ps ++ [_], n5 + 1, _, _, _, _, _, rfl, bG4.out ⟨_, elf4⟩ nfl, by omega, but_out ((uG.trans (Hx.Same.but sx)).trans uG4) nfH, by rw [upd_ne nfs.symm]; exact lst_but uG4 dkx (sx _ _ els), by rw [upd_same, List.map_append]; rfl, by rw [List.length_append, hps]; rfl, fun x hx => ?_⟩
        rcases List.mem_append.mp hx with hx | hx
        · exact hpp x hx
        · rw [List.mem_singleton.mp hx]; exact hpart _ ho
    · rintro σ G ⟨ps, n', v6, v7, v8, v9, v10, rfl, bG, hn', uG, els, elf, hps, hpp⟩
      have hps3 : 1 ≤ ps.length ∧ ps.length ≤ 3 := by omega
      have ht := test_ok hw hpp (fun e => by rw [e] at hps3; exact absurd hps3.1 (by decide)) hps3.2
      have hsum := sum_25 fun x hx => part_len hw (hpp x hx)
      refine ⟨⟨_, rfl⟩, _, rfl, andS, lf, ps, rfl, rfl, .inl (SqL.of elf), ?_, q G _ n' uG bG (by omega) ht⟩
      have : andS.length = 5 := by decide +kernel
      rw [this]
      omega
end
end H2
namespace H2
open PySem PySem.Spec PyProof.Rows L2 Hx Nd Dun
section
variable {P : Program} {w : World} {K : PySem.W.Frag} {mg : Str → Option Value} {base : Heap} {D : Addr}
/-! ### drawn lines -/
def openV : List V := [.str "if", .str "down", .str "up"]
def firstW (x : Str) : Str := (Txt.split x " ").getD 0 ""
def openOf (x : Str) (d : Int) : Int := (d + (if inV (.str (firstW x)) openV = true then 1 else 0)) - (if decide (V.str x = V.str "end") = true then 1 else 0)
/-! ### the text behind a drawn line -/
theorem split_head {a x : Str} (h : 32 ∉ TL.tl a) : ∃ r, Txt.split ((a ++ (" " : Str)) ++ x) " " = a :: r := by
  have e1 : TL.tl (" " : Str) = [32] := by decide +kernel
  have e := split_list ((a ++ (" " : Str)) ++ x) " " (by rw [e1]; decide) (by decide +kernel)
  rw [e1, tl_app, tl_app, e1, List.append_assoc, TL.spl_part1 h, List.nil_append, List.map_cons] at e
  exact ⟨_, by rw [e]; exact congrArg (fun z => z :: _) (TL.mk_tl a)⟩
theorem split_ne (x : Str) : Txt.split x " " ≠ [] := by
  have e1 : TL.tl (" " : Str) = [32] := by decide +kernel
  rw [split_list x " " (by rw [e1]; decide) (by decide +kernel), e1]
  intro z
  have z2 := List.map_eq_nil_iff.mp z
  have key : ∀ (l : List Nat) (n : Nat) (acc : List Nat), TL.spl [32] n acc l ≠ [] := by
    intro l
    induction l with
    | nil => intro n acc; rw [TL.spl_nil]; simp
    | cons c r ih =>
      intro n acc
      cases n with
      | zero =>
        show (if TL.pre [32] (c :: r) = true then acc :: TL.spl [32] ([32].length - 1) [] r else TL.spl [32] 0 (acc ++ [c]) r) ≠ []
        split
        · simp
        · exact ih _ _
      | succ n => exact ih n acc
  exact key _ _ _ z2
theorem open_of {L a : Str} {n : Int} (h : ∃ r, Txt.split L " " = a :: r) (ha : inV (.str a) openV = true) : openOf L n = n + 1 := by
  obtain ⟨r, hr⟩ := h
  have hf : firstW L = a := by unfold firstW; rw [hr]; rfl
  have hn : decide (V.str L = V.str "end") = false := by
    refine decide_eq_false fun e => ?_
    have e' : L = "end" := V.str.inj e
    rw [e'] at hf
    have : firstW "end" = "end" := by decide +kernel
    rw [this] at hf
    rw [← hf] at ha
    exact absurd ha (by decide +kernel)
  unfold openOf
  rw [hf, ha, hn]
  simp
theorem open_none {w : Str} {n : Int} (h : inV (.str (firstW w)) openV = false) (h2 : decide (V.str w = V.str "end") = false) : openOf w n = n := by
  unfold openOf
  rw [h, h2]
  simp
theorem open_words : ∀ w ∈ topL ++ inLoopL, inV (.str (firstW w)) openV = false ∧ decide (V.str w = V.str "end") = false := by decide +kernel
theorem open_picks : ∀ k ∈ [(1 : Int), 2, 3, 4], inV (.str (firstW (pickS k))) openV = false ∧ decide (V.str (pickS k) = V.str "end") = false := by decide +kernel
theorem open_else (n : Int) : openOf "else" n = n := open_none (by decide +kernel) (by decide +kernel)
theorem open_end (n : Int) : openOf "end" (n + 1) = n := by
  have h1 : inV (.str (firstW "end")) openV = false := by decide +kernel
  have h2 : decide (V.str ("end" : Str) = V.str "end") = true := by decide +kernel
  unfold openOf
  rw [h1, h2]
  simp
/-- a drawn line: the text, its place, how deep -/
abbrev L3 := Str × Pl × Nat
/-- lines that are right behind the blocks, each with its place and how deep -/
inductive Dr (wd : Int) : List Str → List L3 → List (Str × Pl) → List Str → Prop
  | nil (os : List Str) : Dr wd os [] [] os
  | cons {os e : List Str} {x : Str} {p : Str × Pl} {ts : List L3} {ps : List (Str × Pl)} : rowOf x os wd = some p → LnOk x → PyData.strOk x = true → 1 ≤ x.length → openOf x (os.length : Int) = ((behindOf p.1 os).length : Int) → Dr wd (behindOf p.1 os) ts ps e → Dr wd os ((x, placeOf os, os.length) :: ts) (p :: ps) e
theorem Dr.app {wd : Int} {os m e : List Str} {a b : List L3} {ps qs : List (Str × Pl)} (h : Dr wd os a ps m) (g : Dr wd m b qs e) : Dr wd os (a ++ b) (ps ++ qs) e := by
  induction h with
  | nil os => exact g
  | cons h1 h2 h3 h4 ho h5 ih => exact .cons h1 h2 h3 h4 ho (ih g)
theorem Dr.one {wd : Int} {os : List Str} {x : Str} {p : Str × Pl} (h1 : rowOf x os wd = some p) (h2 : LnOk x) (h3 : PyData.strOk x = true) (h4 : 1 ≤ x.length) (ho : openOf x (os.length : Int) = ((behindOf p.1 os).length : Int)) : Dr wd os [(x, placeOf os, os.length)] [p] (behindOf p.1 os) := .cons h1 h2 h3 h4 ho (.nil _)
theorem ifsN_app (a b : List (Str × Pl)) : ifsN (a ++ b) = ifsN a + ifsN b := by
  unfold ifsN
  rw [List.filter_append, List.length_append]
theorem ifsN_cons (p : Str × Pl) (b : List (Str × Pl)) : ifsN (p :: b) = (if decide (p.1 = ("if" : Str)) = true then 1 else 0) + ifsN b := by
  have := ifsN_app [p] b
  rw [show [p] ++ b = p :: b from rfl] at this
  rw [this]
  congr 1
  unfold ifsN
  rw [List.filter_cons, List.filter_nil]
  split <;> rfl
theorem word_facts : ∀ w ∈ blkL ++ (topL ++ inLoopL), lnB w = true ∧ PyData.strOk w = true ∧ 1 ≤ w.length := by decide +kernel
theorem pick_str1 : ∀ k ∈ [(1 : Int), 2, 3, 4], PyData.strOk (pickS k) = true := by decide +kernel
/-- a word -/
theorem dr_word {w : Str} {os : List Str} {wd : Int} (h : w ∈ (if (loopsOf os).isEmpty = true then topL else inLoopL)) : Dr wd os [(w, placeOf os, os.length)] [(w, placeOf os)] os ∧ ifsN [(w, placeOf os)] = 0 := by
  have hm : w ∈ blkL ++ (topL ++ inLoopL) := by
    split at h
    · exact List.mem_append_right _ (List.mem_append_left _ h)
    · exact List.mem_append_right _ (List.mem_append_right _ h)
  obtain ⟨f1, f2, f3⟩ := word_facts w hm
  have hw0 : w ∈ topL ++ inLoopL := by
    split at h
    · exact List.mem_append_left _ h
    · exact List.mem_append_right _ h
  obtain ⟨o1, o2⟩ := open_words w hw0
  have hb : isLoop w = false ∧ decide (w = ("if" : Str)) = false ∧ w ≠ "else" ∧ w ≠ "end" := by
    split at h
    · exact (top_words (inV_strs.mpr h)).2.2
    · exact loop_words (inV_strs.mpr h)
  obtain ⟨b1, b2, b3, b4⟩ := hb
  have d := Dr.one (row_word (wd := wd) h) (ln_of f1) f2 f3 (by rw [show behindOf ((w, placeOf os) : Str × Pl).1 os = os from behind_same os b1 b2 b3 b4]; exact open_none o1 o2)
  rw [show behindOf ((w, placeOf os) : Str × Pl).1 os = os from behind_same os b1 b2 b3 b4] at d
  refine ⟨d, ?_⟩
  rw [ifsN_cons, show decide (((w, placeOf os) : Str × Pl).1 = ("if" : Str)) = false from b2]
  rfl
theorem dr_pick {k wd : Int} {os : List Str} (hw : Wd wd) (hk : k ∈ ksOf wd) (hk4 : k ∈ [(1 : Int), 2, 3, 4]) (ho : placeOf os = .down) : Dr wd os [(pickS k, placeOf os, os.length)] [(("pick" : Str), placeOf os)] os ∧ ifsN [(("pick" : Str), placeOf os)] = 0 := by
  obtain ⟨_, h2, _, h4⟩ := pick_row wd (wd_mem hw) k hk
  obtain ⟨o1, o2⟩ := open_picks k hk4
  have hbs : behindOf ((("pick" : Str), placeOf os) : Str × Pl).1 os = os := behind_same (w := "pick") os (by decide +kernel) (by decide +kernel) (by decide +kernel) (by decide +kernel)
  have d := Dr.one (row_pick hw hk ho) (ln_of h2) (pick_str1 k hk4) h4 (by rw [hbs]; exact open_none o1 o2)
  rw [show behindOf ((("pick" : Str), placeOf os) : Str × Pl).1 os = os from behind_same (w := "pick") os (by decide +kernel) (by decide +kernel) (by decide +kernel) (by decide +kernel)] at d
  exact ⟨d, by rw [ifsN_cons, if_neg (by show ¬ decide (("pick" : Str) = ("if" : Str)) = true; decide +kernel)]; rfl⟩
theorem place_if {os : List Str} {w : Str} (h : isLoop w = false) : placeOf (os ++ [w]) = placeOf os := by
  unfold placeOf
  rw [loopsOf_app, loopsOf_cons, h, if_neg (by decide)]
  have e : loopsOf os ++ loopsOf [] = loopsOf os := List.append_nil _
  rw [e]
theorem place_loop {os : List Str} {w : Str} (h : isLoop w = true) (ho : loopsOf os = []) : placeOf (os ++ [w]) = plOf w := by
  unfold placeOf
  rw [loopsOf_app, ho, loopsOf_cons, h, if_pos rfl]
  rfl
theorem blk_end {os : List Str} {w : Str} (h : inV (.str w) (takersV "end") = true) : blockOf "end" (os ++ [w]) = true := by
  unfold blockOf
  rw [List.getLast?_concat]
  exact h
theorem dr_blk {os : List Str} {a w : Str} {wd : Int} (ha : a ∈ blkL) (h : inV (.str w) (takersV a) = true) : Dr wd (os ++ [w]) [(a, placeOf (os ++ [w]), os.length + 1)] [(a, placeOf (os ++ [w]))] (behindOf a (os ++ [w])) := by
  have hb : blockOf a (os ++ [w]) = true := by
    unfold blockOf
    rw [List.getLast?_concat]
    exact h
  obtain ⟨f1, f2, f3⟩ := word_facts a (List.mem_append_left _ ha)
  have hr : rowOf a (os ++ [w]) wd = some (a, placeOf (os ++ [w])) := by rw [row_blk ha, if_pos hb]
  have hop : openOf a ((os ++ [w]).length : Int) = ((behindOf ((a, placeOf (os ++ [w])) : Str × Pl).1 (os ++ [w])).length : Int) := by
    show openOf a _ = ((behindOf a (os ++ [w])).length : Int)
    have hl : ((os ++ [w]).length : Int) = (os.length : Int) + 1 := by rw [List.length_append]; rfl
    rcases List.mem_cons.mp ha with e | e
    · rw [e, open_else, behind_else, List.dropLast_concat, List.length_append, List.length_append]; rfl
    · rw [List.mem_singleton.mp e, behind_end, List.dropLast_concat, hl, open_end]
  have d := Dr.one hr (ln_of f1) f2 f3 hop
  rw [List.length_append] at d
  exact d
theorem ifs_blk {a : Str} {pl : Pl} (ha : a ∈ blkL) : ifsN [(a, pl)] = 0 := by
  rw [ifsN_cons]
  have : decide (a = ("if" : Str)) = false := by
    rcases List.mem_cons.mp ha with e | e
    · rw [e]; decide +kernel
    · rw [List.mem_singleton.mp e]; decide +kernel
  rw [show decide (((a, pl) : Str × Pl).1 = ("if" : Str)) = false from this]
  rfl
theorem if_len {x : Str} : 1 ≤ (("if " : Str) ++ x).length := by
  rw [TL.len_tl, tl_app, List.length_append]
  have : (TL.tl ("if " : Str)).length = 3 := by decide +kernel
  omega
theorem ifs_if {pl : Pl} : ifsN [(("if" : Str), pl)] = 1 := by
  rw [ifsN_cons, show decide (((("if" : Str), pl) : Str × Pl).1 = ("if" : Str)) = true from decide_eq_true rfl]
  rfl
theorem ifs_loop {w : Str} {pl : Pl} (h : isLoop w = true) : ifsN [(w, pl)] = 0 := by
  have : decide (w = ("if" : Str)) = false := by rcases loop_cases h with rfl | rfl <;> decide +kernel
  rw [ifsN_cons, show decide (((w, pl) : Str × Pl).1 = ("if" : Str)) = false from this]
  rfl
/-- an if, without else -/
theorem dr_if {x : Str} {os : List Str} {wd : Int} {ts : List L3} {ps : List (Str × Pl)} (ht : TestOk (placeOf os) wd x) (h : Dr wd (os ++ [("if" : Str)]) ts ps (os ++ [("if" : Str)])) :
    ∃ qs, Dr wd os ((("if " : Str) ++ x, placeOf os, os.length) :: (ts ++ [(("end" : Str), placeOf os, os.length + 1)])) qs os ∧ ifsN qs = ifsN ps + 1 := by
  have hl : LnOk (("if " : Str) ++ x) := by rw [if_sp]; exact ln_test (a := "if") (by decide +kernel) ht
  have d1 : Dr wd os [(("if " : Str) ++ x, placeOf os, os.length)] [(("if" : Str), placeOf os)] (os ++ [("if" : Str)]) := by
    have := Dr.one (row_if (os := os) ht.t) hl (str_app (by decide +kernel) ht.s) if_len (by
      rw [open_of (a := "if") (by rw [if_sp]; exact split_head (by decide +kernel)) (by decide +kernel), show behindOf ((("if" : Str), placeOf os) : Str × Pl).1 os = os ++ [("if" : Str)] from behind_if os, List.length_append]; rfl)
    rwa [show behindOf ((("if" : Str), placeOf os) : Str × Pl).1 os = os ++ [("if" : Str)] from behind_if os] at this
  have d3 := dr_blk (os := os) (w := "if") (wd := wd) (a := "end") (by decide +kernel) (by decide +kernel)
  rw [behind_end, List.dropLast_concat, place_if (by decide +kernel)] at d3
  refine ⟨_, d1.app (h.app d3), ?_⟩
  rw [ifsN_app, ifsN_app, ifs_blk (a := "end") (by decide +kernel), ifs_if]
  omega
theorem dr_ifelse {x : Str} {os : List Str} {wd : Int} {ts us : List L3} {ps rs : List (Str × Pl)} (ht : TestOk (placeOf os) wd x) (h : Dr wd (os ++ [("if" : Str)]) ts ps (os ++ [("if" : Str)])) (g : Dr wd (os ++ [("else" : Str)]) us rs (os ++ [("else" : Str)])) :
    ∃ qs, Dr wd os ((("if " : Str) ++ x, placeOf os, os.length) :: (ts ++ ((("else" : Str), placeOf os, os.length + 1) :: (us ++ [(("end" : Str), placeOf os, os.length + 1)])))) qs os ∧ ifsN qs = ifsN ps + ifsN rs + 1 := by
  have hl : LnOk (("if " : Str) ++ x) := by rw [if_sp]; exact ln_test (a := "if") (by decide +kernel) ht
  have d1 : Dr wd os [(("if " : Str) ++ x, placeOf os, os.length)] [(("if" : Str), placeOf os)] (os ++ [("if" : Str)]) := by
    have := Dr.one (row_if (os := os) ht.t) hl (str_app (by decide +kernel) ht.s) if_len (by
      rw [open_of (a := "if") (by rw [if_sp]; exact split_head (by decide +kernel)) (by decide +kernel), show behindOf ((("if" : Str), placeOf os) : Str × Pl).1 os = os ++ [("if" : Str)] from behind_if os, List.length_append]; rfl)
    rwa [show behindOf ((("if" : Str), placeOf os) : Str × Pl).1 os = os ++ [("if" : Str)] from behind_if os] at this
  have d2 := dr_blk (os := os) (w := "if") (wd := wd) (a := "else") (by decide +kernel) (by decide +kernel)
  rw [behind_else, List.dropLast_concat, place_if (by decide +kernel)] at d2
  have d3 := dr_blk (os := os) (w := "else") (wd := wd) (a := "end") (by decide +kernel) (by decide +kernel)
  rw [behind_end, List.dropLast_concat, place_if (by decide +kernel)] at d3
  refine ⟨_, d1.app (h.app (d2.app (g.app d3))), ?_⟩
  rw [ifsN_app, ifsN_app, ifsN_app, ifsN_app, ifs_blk (a := "else") (by decide +kernel), ifs_blk (a := "end") (by decide +kernel), ifs_if]
  omega
theorem dr_loop {x w : Str} {os : List Str} {wd : Int} {ts : List L3} {ps : List (Str × Pl)} (hw : isLoop w = true) (ho : loopsOf os = []) (ht : TestOk (plOf w) wd x) (h : Dr wd (os ++ [w]) ts ps (os ++ [w])) :
    ∃ qs, Dr wd os (((w ++ (" " : Str)) ++ x, placeOf os, os.length) :: (ts ++ [(("end" : Str), plOf w, os.length + 1)])) qs os ∧ ifsN qs = ifsN ps := by
  have hl : LnOk ((w ++ (" " : Str)) ++ x) := ln_test (by rcases loop_cases hw with rfl | rfl <;> decide +kernel) ht
  have hlen : 1 ≤ ((w ++ (" " : Str)) ++ x).length := by
    rw [TL.len_tl, tl_app, tl_app, List.length_append, List.length_append]
    have : (TL.tl (" " : Str)).length = 1 := by decide +kernel
    omega
  have hs : PyData.strOk ((w ++ (" " : Str)) ++ x) = true := str_app (str_app (by rcases loop_cases hw with rfl | rfl <;> decide +kernel) (by decide +kernel)) ht.s
  have d1 : Dr wd os [((w ++ (" " : Str)) ++ x, placeOf os, os.length)] [(w, plOf w)] (os ++ [w]) := by
    have := Dr.one (row_loop (os := os) hw ho ht.t) hl hs hlen (by
      rw [open_of (a := w) (split_head (by rcases loop_cases hw with rfl | rfl <;> decide +kernel)) (by rcases loop_cases hw with rfl | rfl <;> decide +kernel), show behindOf ((w, plOf w) : Str × Pl).1 os = os ++ [w] from behind_loop os hw, List.length_append]; rfl)
    rwa [show behindOf ((w, plOf w) : Str × Pl).1 os = os ++ [w] from behind_loop os hw] at this
  have d3 := dr_blk (os := os) (w := w) (wd := wd) (a := "end") (by decide +kernel) (by rcases loop_cases hw with rfl | rfl <;> decide +kernel)
  rw [behind_end, List.dropLast_concat, place_loop hw ho] at d3
  refine ⟨_, d1.app (h.app d3), ?_⟩
  rw [ifsN_app, ifsN_app, ifs_blk (a := "end") (by decide +kernel), ifs_loop hw]
  omega
end
end H2
namespace H2
open PySem PySem.Spec PyProof.Rows L2 Hx Nd Dun
section
variable {P : Program} {w : World} {K : PySem.W.Frag} {mg : Str → Option Value} {base : Heap} {D : Addr}
/-! ### the heap of _law_lines -/
/-- rows: tuples of a text, a place and a depth -/
inductive Rw3 (K : PySem.W.Frag) (H : Hp) : List V → List L3 → Prop
  | nil : Rw3 K H [] []
  | cons {r : Addr} {x : Str} {pl : Pl} {d : Nat} {vs : List V} {ts : List L3} : SqT K H r [.str x, .str pl.str, .int (d : Int)] → Rw3 K H vs ts → Rw3 K H (.ref r :: vs) ((x, pl, d) :: ts)
theorem Rw3.keep {H H' : Hp} (e : Tups H H') : ∀ {vs : List V} {ts : List L3}, Rw3 K H vs ts → Rw3 K H' vs ts
  | _, _, .nil => .nil
  | _, _, .cons a r => .cons (sqt_tups e a) (r.keep e)
theorem Rw3.app {H : Hp} : ∀ {vs ws : List V} {ts us : List L3}, Rw3 K H vs ts → Rw3 K H ws us → Rw3 K H (vs ++ ws) (ts ++ us)
  | _, _, _, _, .nil, g => g
  | _, _, _, _, .cons a r, g => .cons a (r.app g)
theorem Rw3.len {H : Hp} : ∀ {vs : List V} {ts : List L3}, Rw3 K H vs ts → vs.length = ts.length
  | _, _, .nil => rfl
  | _, _, .cons _ r => by rw [List.length_cons, List.length_cons, r.len]
/-- all but two as it was -/
def But2 (p q : Addr) (H H' : Hp) : Prop := ∀ b o, b ≠ p → b ≠ q → H b = some o → H' b = some o
theorem But2.of {p q : Addr} {H H' : Hp} (h : But p H H') : But2 p q H H' := fun b o n _ e => h b o n e
theorem But2.same {p q : Addr} {H H' : Hp} (h : Same H H') : But2 p q H H' := fun b o _ _ e => h b o e
theorem But2.trans {p q : Addr} {H H1 H2 : Hp} (a : But2 p q H H1) (b : But2 p q H1 H2) : But2 p q H H2 := fun c o n m e => b c o n m (a c o n m e)
theorem But2.updq {p q : Addr} {H : Hp} {o : HO} : But2 p q H (upd H q o) := fun b u _ n e => by rw [upd_ne n]; exact e
theorem But2.out {p q d : Addr} {H H' : Hp} {o : HO} (h : But2 p q H H') (n : H d = none) : But2 p q H (upd H' d o) := fun b u n1 n2 z => by
  rw [upd_ne (ne_of_none z n)]
  exact h b u n1 n2 z
theorem But2.free {p q x : Addr} {H H' : Hp} (h : But2 p q H H') (hp : ∃ o, H' p = some o) (hq : ∃ o, H' q = some o) (hx : H' x = none) : H x = none := by
  cases e : H x with
  | none => rfl
  | some o =>
    exfalso
    by_cases c1 : x = p
    · obtain ⟨u, hu⟩ := hp
      rw [c1, hu] at hx; cases hx
    by_cases c2 : x = q
    · obtain ⟨u, hu⟩ := hq
      rw [c2, hu] at hx; cases hx
    rw [h x o c1 c2 e] at hx
    cases hx
theorem But2.tups {p q : Addr} {H H' : Hp} (h : But2 p q H H') (hp : ∃ kvs, H p = some (.dK kvs)) (hq : ∃ ys, H q = some (.lst ys)) : Tups H H' := fun b xs r => by
  obtain ⟨kvs, hp⟩ := hp
  obtain ⟨ys, hq⟩ := hq
  rcases r with r | ⟨ob, r⟩
  · exact .inl (h _ _ (fun e => by rw [e, hp] at r; cases r) (fun e => by rw [e, hq] at r; cases r) r)
  · exact .inr ⟨ob, h _ _ (fun e => by rw [e, hp] at r; cases r) (fun e => by rw [e, hq] at r; cases r) r⟩
/-- the heap of _law_lines, at H when it began -/
structure LX (K : PySem.W.Frag) (H : Hp) (p l lft wl : Addr) (ws : List Str) (G : Hp) (fo : Addr) (ts : List L3) (n k : Nat) : Prop where
  b : BagL G p l n
  u : But2 p lft H G
  y : ∃ ys : List Int, G lft = some (.lst (ys.map V.int)) ∧ ys.length = k
  w : G wl = some (.lst (ws.map V.str))
  f : ∃ rs, G fo = some (.lst rs) ∧ Rw3 K G rs ts
  nf : H fo = none
  nw : fo ≠ wl
/-- what held when it began -/
structure LH (H : Hp) (p l lft wl : Addr) : Prop where
  hp : ∃ kvs, H p = some (.dK kvs)
  hl : ∃ ys, H l = some (.lst ys)
  hq : ∃ ys, H lft = some (.lst ys)
  hn : lft ≠ l
  hw : H wl = none
theorem BagL.dk {H : Hp} {p l : Addr} {n : Nat} (b : BagL H p l n) : ∃ kvs, H p = some (.dK kvs) := by
  obtain ⟨ns, i, dg, fd, h1, _⟩ := b
  exact ⟨_, h1⟩
section
variable {H G G' : Hp} {p l lft wl fo : Addr} {ws : List Str} {ts : List L3} {n k : Nat}
theorem LX.keep (h : LX K H p l lft wl ws G fo ts n k) (e : Same G G') : LX K H p l lft wl ws G' fo ts n k := by
  obtain ⟨b, u, ⟨ys, y1, y2⟩, w, ⟨rs, f1, f2⟩, nf, nw⟩ := h
  exact ⟨b.keep e, u.trans (.same e), ⟨ys, e _ _ y1, y2⟩, e _ _ w, ⟨rs, e _ _ f1, f2.keep (Tups.of e)⟩, nf, nw⟩
theorem LX.ne (h : LX K H p l lft wl ws G fo ts n k) (L : LH H p l lft wl) : fo ≠ p ∧ fo ≠ l ∧ fo ≠ lft := by
  refine ⟨fun e => ?_, fun e => ?_, fun e => ?_⟩
  · obtain ⟨o, z⟩ := L.hp; have := h.nf; rw [e, z] at this; cases this
  · obtain ⟨o, z⟩ := L.hl; have := h.nf; rw [e, z] at this; cases this
  · obtain ⟨o, z⟩ := L.hq; have := h.nf; rw [e, z] at this; cases this
theorem LX.wne (h : LX K H p l lft wl ws G fo ts n k) (L : LH H p l lft wl) : wl ≠ p ∧ wl ≠ lft := by
  refine ⟨fun e => ?_, fun e => ?_⟩
  · obtain ⟨o, z⟩ := L.hp; have := L.hw; rw [e, z] at this; cases this
  · obtain ⟨o, z⟩ := L.hq; have := L.hw; rw [e, z] at this; cases this
/-- a call that changes the bag and the list of what is left -/
theorem LX.turn {n' k' : Nat} (h : LX K H p l lft wl ws G fo ts n k) (L : LH H p l lft wl) (e : But2 p lft G G') (b : BagL G' p l n') (y : ∃ ys : List Int, G' lft = some (.lst (ys.map V.int)) ∧ ys.length = k') : LX K H p l lft wl ws G' fo ts n' k' := by
  obtain ⟨a1, a2, a3⟩ := h.ne L
  obtain ⟨w1, w2⟩ := h.wne L
  obtain ⟨b0, u, ⟨ys, y1, y2⟩, w, ⟨rs, f1, f2⟩, nf, nw⟩ := h
  exact ⟨b, u.trans e, y, e _ _ w1 w2 w, ⟨rs, e _ _ a1 a3 f1, f2.keep (e.tups b0.dk ⟨_, y1⟩)⟩, nf, nw⟩
theorem LX.draw {n' : Nat} (h : LX K H p l lft wl ws G fo ts n k) (L : LH H p l lft wl) (e : But p G G') (b : BagL G' p l n') : LX K H p l lft wl ws G' fo ts n' k := by
  obtain ⟨ys, y1, y2⟩ := h.y
  exact h.turn L (.of e) b ⟨ys, lst_but e h.b.dk y1, y2⟩
theorem LX.app {x : Str} {pl : Pl} {d : Nat} {u : Addr} {rs : List V} (h : LX K H p l lft wl ws G fo ts n k) (L : LH H p l lft wl) (hf : G fo = some (.lst rs)) (hu : SqT K G u [.str x, .str pl.str, .int (d : Int)]) : LX K H p l lft wl ws (upd G fo (.lst (rs ++ [.ref u]))) fo (ts ++ [(x, pl, d)]) n k := by
  obtain ⟨a1, a2, a3⟩ := h.ne L
  obtain ⟨b, u0, ⟨ys, y1, y2⟩, w, ⟨rs', f1, f2⟩, nf, nw⟩ := h
  rw [hf] at f1
  injection f1 with f1
  injection f1 with f1
  subst f1
  have t := tups_lst (o := .lst (rs ++ [.ref u])) hf
  exact ⟨b.out ⟨_, hf⟩ a2, u0.out nf, ⟨ys, by rw [upd_ne a3.symm]; exact y1, y2⟩, by rw [upd_ne nw.symm]; exact w, ⟨_, upd_same, (f2.keep t).app (.cons (sqt_tups t hu) .nil)⟩, nf, nw⟩
theorem LX.pop {ys : List Int} (h : LX K H p l lft wl ws G fo ts n k) (L : LH H p l lft wl) (hy : G lft = some (.lst (ys.map V.int))) : LX K H p l lft wl ws (upd G lft (.lst (ys.map V.int).dropLast)) fo ts n (k - 1) := by
  obtain ⟨a1, a2, a3⟩ := h.ne L
  obtain ⟨w1, w2⟩ := h.wne L
  obtain ⟨b, u0, ⟨ys', y1, y2⟩, w, ⟨rs, f1, f2⟩, nf, nw⟩ := h
  have hlen : ys.length = k := by
    rw [hy] at y1
    injection y1 with y1
    injection y1 with y1
    have := congrArg List.length y1
    rw [List.length_map, List.length_map] at this
    omega
  have t := tups_lst (o := .lst (ys.map V.int).dropLast) hy
  refine ⟨b.out ⟨_, hy⟩ L.hn, u0.trans .updq, ⟨ys.dropLast, by rw [upd_same, List.map_dropLast], by rw [List.length_dropLast, hlen]⟩, by rw [upd_ne w2]; exact w, ⟨rs, by rw [upd_ne a3]; exact f1, f2.keep t⟩, nf, nw⟩
theorem LX.cat {q : Addr} {rs rs2 : List V} {us : List L3} (h : LX K H p l lft wl ws G fo ts n k) (L : LH H p l lft wl) (hf : G fo = some (.lst rs)) (hr : Rw3 K G rs2 us) (nq : G q = none) : LX K H p l lft wl ws (upd G q (.lst (rs ++ rs2))) q (ts ++ us) n k := by
  obtain ⟨b, u0, ⟨ys, y1, y2⟩, w, ⟨rs', f1, f2⟩, nf, nw⟩ := h
  rw [hf] at f1
  injection f1 with f1
  injection f1 with f1
  subst f1
  have s := new_same (o := .lst (rs ++ rs2)) nq
  have t := Tups.of s
  refine ⟨b.keep s, u0.trans (.same s), ⟨ys, s _ _ y1, y2⟩, s _ _ w, ⟨_, upd_same, (f2.keep t).app (hr.keep t)⟩, ?_, fun e => by rw [e, w] at nq; cases nq⟩
  obtain ⟨kvs, hk⟩ := b.dk
  exact u0.free ⟨_, hk⟩ ⟨_, y1⟩ nq
end
end
end H2
namespace H2
open PySem PySem.Spec PyProof.Rows L2 Hx Nd Dun
section
variable {P : Program} {w : World} {K : PySem.W.Frag} {mg : Str → Option Value} {base : Heap} {D : Addr}
/-! ### _law_lines -/
def bdL : Nat → Nat
  | 0 => 0
  | d + 1 => 4 * (3 + 2 * bdL d)
def drL : Nat → Nat
  | 0 => 0
  | d + 1 => 1 + 4 * (35 + 2 * drL d)
abbrev psLN : List Str := ["_law_bag_here", "_law_place", "_law_deep", "_law_width", "_law_left"]
def spLS (K : PySem.W.Frag) (d : Nat) : Sp := fun vs H Q _ => ∃ (p l lft : Addr) (n : Nat) (pl : Pl) (wd : Int) (os : List Str) (ys : List Int), vs = [.ref p, .str pl.str, .int (os.length : Int), .int wd, .ref lft] ∧ BagL H p l n ∧ H lft = some (.lst (ys.map V.int)) ∧ ys.length ≤ 6 ∧ lft ≠ l ∧ placeOf os = pl ∧ os.length + (d + 1) = 5 ∧ (isTop pl = true → os.length ≤ 3) ∧ Wd wd ∧ n + drL (d + 1) ≤ 900000 ∧
  ∀ H' r rs ts ps n' k', But2 p lft H H' → BagL H' p l n' → n' ≤ n + drL (d + 1) → (∃ ys' : List Int, H' lft = some (.lst (ys'.map V.int)) ∧ ys'.length = k') → k' + ifsN ps ≤ ys.length → H' r = some (.lst rs) → H r = none → Rw3 K H' rs ts → Dr wd os ts ps os → ts.length ≤ bdL (d + 1) → Q (.ref r) H'
def spLL (K : PySem.W.Frag) : Nat → Sp
  | 0 => fun _ _ _ _ => False
  | d + 1 => spLS K d
def wordsOf (pl : Pl) : List Str := if isTop pl = true then topL else inLoopL
theorem words_place {os : List Str} {w : Str} (h : w ∈ wordsOf (placeOf os)) : w ∈ (if (loopsOf os).isEmpty = true then topL else inLoopL) := by
  unfold wordsOf at h
  rw [place_top] at h
  exact h
theorem dp_ints {H : Hp} (ys : List Int) : DpAll K H (ys.map V.int) (ys.map PyData.int) := by
  induction ys with
  | nil => exact .nil
  | cons y r ih => exact .cons (.int y) ih
theorem shaped_ints (ys : List Int) : SeqAt.shaped (.list (ys.map PyData.int)) = true := by
  have h1 : PyData.canLayAll0 (ys.map PyData.int) = true := by
    induction ys with
    | nil => rfl
    | cons y r ih => rw [List.map_cons, PyData.canLayAll0, ih]; rfl
  have h2 : PyData.depthAll (ys.map PyData.int) = 0 := by
    induction ys with
    | nil => rfl
    | cons y r ih => rw [List.map_cons, PyData.depthAll, ih (by
        rw [List.map_cons, PyData.canLayAll0, Bool.and_eq_true] at h1
        exact h1.2)]; rfl
  unfold SeqAt.shaped
  rw [Bool.and_eq_true]
  refine ⟨by rw [PyData.canLay0]; exact h1, decide_eq_true ?_⟩
  rw [PyData.depth, h2]
  decide
theorem ok_llines {f g gt : Addr} (T0 : FT K mg "_law_lines" s_Llines psLN f) (BT : BltT mg) (st : mg "str" = none) (rng : mg "range" = none) {gd td : FuncData} (FD : Fun K "_law_draw" "_law_draw" sDraw g gd) (bD : Binds K gd ["_law_bag_here", "_law_limit"] []) (mD : mg "_law_draw" = some (.ref g))
    (FT' : Fun K "_law_test" "_law_test" s_Ltest gt td) (bT : Binds K td psBD []) (mT : mg "_law_test" = some (.ref gt)) (GT : FnOk P w K mg base CX0 2 gt td psBD spLTest) :
    ∃ fd, Fun K "_law_lines" "_law_lines" s_Llines f fd ∧ Binds K fd psLN [] ∧ ∀ d, FnOk P w K mg base CX0 (d + 3) f fd psLN (spLL K d) := by
  obtain ⟨fd, F, b⟩ := T0.fn
  have GD : FnOk P w K mg base CX0 1 g gd ["_law_bag_here", "_law_limit"] spDrawL := ok_drawL FD BT
  refine ⟨fd, F, b, fun d => ?_⟩
  induction d with
  | zero => exact F.ok c_Llines (fun vs H Q E h => (show False from h).elim) (fun cdv A outer s H vs Q E hr h => (show False from h).elim)
  | succ d GL =>
  show FnOk P w K mg base CX0 ((d + 3) + 1) f fd psLN (spLS K d)
  refine F.ok c_Llines (fun vs H Q E h => ?_) (fun cdv A outer s H vs Q E hr h => ?_)
  · obtain ⟨p, l, lft, n, pl, wd, os, ys, rfl, _⟩ := h
    rfl
  obtain ⟨p, l, lft, n, pl, wd, os, ys, rfl, hb, hy, hyl, hlft, hpl, hos, htop, hw, hn, q⟩ := h
  have hr1 : Room 1 _ := hr.mono (by omega)
  have hr2 : Room 2 _ := hr.mono (by omega)
  refine ⟨_, pss_cons (ps_set (i := 5) c_Llines.nd rfl (Or.inl rfl) (pe_split pe_str pe_str)) <| Evl.pss_cut (ps_if (pt_cmpR op_ne (pv 1) pe_str (nomark _)) (pss_one (ps_set (i := 5) c_Llines.nd rfl (Or.inl rfl) (pe_split pe_str pe_str))) pss_nil)
    (pss_cons (ps_set (i := 6) c_Llines.nd rfl (Or.inl rfl) (pe_lst pa_nil)) <| pss_cons (ps_for PassesOwn.never rfl (pi_range1 rfl rng (pa_cons (pe_call GD hr1 rfl mD FD.kp bD .nil pass0 (pa_cons (pv 0) (pa_cons pe_int pa_nil))) pa_nil)) (pg_name (i := 7) c_Llines.nd rfl (Or.inl rfl))
      (pss_cons (ps_set (i := 8) c_Llines.nd rfl (Or.inl rfl) (pe_call GD hr1 rfl mD FD.kp bD .nil pass0 (pa_cons (pv 0) (pa_cons pe_int pa_nil)))) <| pss_one (ps_if (PW.pt (pw_and (pt_cmpR op_eq (pv 8) pe_int (nomark _)) (pw_and (pt_cmpR op_lt (pv 2) pe_int (nomark _)) (pw_and1 (pt_cmpR (op_neD hr1.units) (pv 4) (pe_lst pa_nil) (nomark _))))))
        (pss_cons (ps_expr (pe_bm0 PySem.F.plainAttrs_list PySem.F.slot_list_pop PySem.F.type_list_pop mt_pop (pv 4))) <| pss_cons (ps_expr (pe_bm PySem.F.plainAttrs_list PySem.F.slot_list_append PySem.F.type_list_append mt_append (pv 6) (pa_cons (pe_tup (pa_cons (pe_op op_add_str pe_str (pe_call GT hr2 rfl mT FT'.kp bT .nil pass0 (pa_cons (pv 0) (pa_cons (pv 1) (pa_cons (pv 3) pa_nil))))) (pa_cons (pv 1) (pa_cons (pv 2) pa_nil)))) pa_nil))) <| pss_cons (ps_set (i := 6) c_Llines.nd rfl (Or.inl rfl) (pe_op op_cat (pv 6) (pe_call GL hr rfl T0.g F.kp b .nil pass0 (pa_cons (pv 0) (pa_cons (pv 1) (pa_cons (pe_op op_add (pv 2) pe_int) (pa_cons (pv 3) (pa_cons (pv 4) pa_nil)))))))) <| Evl.pss_cut (ps_if (pt_cmpR op_eq (pe_call GD hr1 rfl mD FD.kp bD .nil pass0 (pa_cons (pv 0) (pa_cons pe_int pa_nil))) pe_int (nomark _))
            (pss_cons (ps_expr (pe_bm PySem.F.plainAttrs_list PySem.F.slot_list_append PySem.F.type_list_append mt_append (pv 6) (pa_cons (pe_tup (pa_cons pe_str (pa_cons (pv 1) (pa_cons (pe_op op_add (pv 2) pe_int) pa_nil)))) pa_nil))) <| pss_one (ps_set (i := 6) c_Llines.nd rfl (Or.inl rfl) (pe_op op_cat (pv 6) (pe_call GL hr rfl T0.g F.kp b .nil pass0 (pa_cons (pv 0) (pa_cons (pv 1) (pa_cons (pe_op op_add (pv 2) pe_int) (pa_cons (pv 3) (pa_cons (pv 4) pa_nil))))))))) pss_nil)
          (pss_one (ps_expr (pe_bm PySem.F.plainAttrs_list PySem.F.slot_list_append PySem.F.type_list_append mt_append (pv 6) (pa_cons (pe_tup (pa_cons pe_str (pa_cons (pv 1) (pa_cons (pe_op op_add (pv 2) pe_int) pa_nil)))) pa_nil)))))
        (pss_one (ps_if (PW.pt (pw_and (pt_cmpR op_eq (pv 8) pe_int (nomark _)) (pw_and1 (pt_cmpR op_eq (pv 1) pe_str (nomark _)))))
          (pss_cons (ps_set (i := 9) c_Llines.nd rfl (Or.inl rfl) (pe_ix ix_list (pe_lst (pa_cons pe_str (pa_cons pe_str pa_nil))) (pe_call GD hr1 rfl mD FD.kp bD .nil pass0 (pa_cons (pv 0) (pa_cons pe_int pa_nil))) (fun _ _ => rfl))) <| pss_cons (ps_expr (pe_bm PySem.F.plainAttrs_list PySem.F.slot_list_append PySem.F.type_list_append mt_append (pv 6) (pa_cons (pe_tup (pa_cons (pe_op op_add_str (pe_op op_add_str (pv 9) pe_str) (pe_call GT hr2 rfl mT FT'.kp bT .nil pass0 (pa_cons (pv 0) (pa_cons (pv 9) (pa_cons (pv 3) pa_nil))))) (pa_cons (pv 1) (pa_cons (pv 2) pa_nil)))) pa_nil))) <| pss_one (ps_set (i := 6) c_Llines.nd rfl (Or.inl rfl) (pe_op op_cat (pe_op op_cat (pv 6) (pe_call GL hr rfl T0.g F.kp b .nil pass0 (pa_cons (pv 0) (pa_cons (pv 9) (pa_cons (pe_op op_add (pv 2) pe_int) (pa_cons (pv 3) (pa_cons (pv 4) pa_nil))))))) (pe_lst (pa_cons (pe_tup (pa_cons pe_str (pa_cons (pv 9) (pa_cons (pe_op op_add (pv 2) pe_int) pa_nil)))) pa_nil)))))
          (pss_one (ps_if (PW.pt (pw_and (pt_cmpR op_eq (pv 8) pe_int (nomark _)) (pw_and1 (pt_cmpR op_eq (pv 1) pe_str (nomark _)))))
            (pss_one (ps_expr (pe_bm PySem.F.plainAttrs_list PySem.F.slot_list_append PySem.F.type_list_append mt_append (pv 6) (pa_cons (pe_tup (pa_cons (pe_op op_add_str pe_str (pe_callTy call_str_int (by rfl) st (by decide +kernel) (pa_cons (pe_op op_add pe_int (pe_call GD hr1 rfl mD FD.kp bD .nil pass0 (pa_cons (pv 0) (pa_cons (pv 3) pa_nil)))) pa_nil))) (pa_cons (pv 1) (pa_cons (pv 2) pa_nil)))) pa_nil))))
            (pss_one (ps_expr (pe_bm PySem.F.plainAttrs_list PySem.F.slot_list_append PySem.F.type_list_append mt_append (pv 6) (pa_cons (pe_tup (pa_cons (pe_ix ix_list (pv 5) (pe_call GD hr1 rfl mD FD.kp bD .nil pass0 (pa_cons (pv 0) (pa_cons (pe_callB call_len_seq (by rfl) BT.len PySem.boot_len (pa_cons (pv 5) pa_nil)) pa_nil))) (fun _ _ => rfl)) (pa_cons (pv 1) (pa_cons (pv 2) pa_nil)))) pa_nil))))))))))) <| pss_one (ps_ret (pv 6))), ?_⟩
  have hd4 : d ≤ 4 := by omega
  have hbd : bdL d ≤ 7020 := by
    have : d = 0 ∨ d = 1 ∨ d = 2 ∨ d = 3 ∨ d = 4 := by omega
    rcases this with rfl | rfl | rfl | rfl | rfl <;> decide
  have hdr1 : drL (d + 1) = 1 + 4 * (35 + 2 * drL d) := rfl
  have hbd1 : bdL (d + 1) = 4 * (3 + 2 * bdL d) := rfl
  refine ⟨⟨_, rfl⟩, _, _, rfl, rfl, by decide +kernel, by decide +kernel, fun w0 nw0 => ?_⟩
  generalize h1 : upd H w0 _ = G1
  have s1 : Same H G1 := h1 ▸ new_same nw0
  have e1 : G1 w0 = some (.lst (topL.map V.str)) := by
    have e1 := congrFun h1 w0
    rw [upd_same] at e1
    exact e1.symm.trans (congrArg (fun z => some (HO.lst (List.map V.str z))) (by decide +kernel))
  clear h1
  refine ⟨fun σ G => ∃ wl, σ = [some (.ref p), some (.str pl.str), some (.int (os.length : Int)), some (.int wd), some (.ref lft), some (.ref wl), none, none, none, none] ∧ Same H G ∧ H wl = none ∧ G wl = some (.lst ((wordsOf pl).map V.str)), ?_, ?_⟩
  · refine ⟨_, rfl, rfl, _, rfl, ?_⟩
    cases ht : isTop pl with
    | true =>
      refine iteBF (by have := top_ne pl; rw [ht] at this; exact this) ⟨w0, rfl, s1, nw0, ?_⟩
      unfold wordsOf
      rw [if_pos ht]
      exact e1
    | false =>
      refine iteBT (by have := top_ne pl; rw [ht] at this; exact this) ?_
      refine ⟨⟨_, rfl⟩, _, _, rfl, rfl, by decide +kernel, by decide +kernel, fun w1 nw1 => ?_⟩
      refine ⟨w1, rfl, same_new s1 nw1, free_same s1 nw1, ?_⟩
      unfold wordsOf
      rw [ht, if_neg (by decide), upd_same]
      exact congrArg (fun z => some (HO.lst (List.map V.str z))) (by decide +kernel)
  rintro σ G ⟨wl, rfl, sG, nwl, ewl⟩
  refine ⟨Nat.zero_le _, fun fo nfo => ?_⟩
  have L : LH H p l lft wl := ⟨hb.dk, by obtain ⟨ns, i, dg, fd, _, h2, _⟩ := hb; exact ⟨_, h2⟩, ⟨_, hy⟩, hlft, nwl⟩
  have X0 : LX K H p l lft wl (wordsOf pl) (upd G fo (.lst [])) fo [] n ys.length := ⟨(hb.keep sG).keep (new_same nfo), .same (same_new sG nfo), ⟨ys, (same_new sG nfo) _ _ hy, rfl⟩, (new_same nfo) _ _ ewl, ⟨[], upd_same, .nil⟩, free_same sG nfo, fun e => by rw [e, ewl] at nfo; cases nfo⟩
  refine ⟨_, rfl, p, n, 5, l, rfl, X0.b, by omega, by decide, small16 (by decide) (by decide), fun r0 G2 a0 a1 bG2 uG2 => ?_⟩
  refine ⟨r0, rfl, by omega, by omega, for_range (n := r0.toNat) (fun i σ G => ∃ (fo : Addr) (ts : List L3) (ps : List (Str × Pl)) (n' k : Nat) (v7 v8 v9 : Option V), σ = [some (.ref p), some (.str pl.str), some (.int (os.length : Int)), some (.int wd), some (.ref lft), some (.ref wl), some (.ref fo), v7, v8, v9] ∧ LX K H p l lft wl (wordsOf pl) G fo ts n' k ∧ n' ≤ n + 1 + (35 + 2 * drL d) * i ∧ k + ifsN ps ≤ ys.length ∧ Dr wd os ts ps os ∧ ts.length ≤ (3 + 2 * bdL d) * i)
    ⟨fo, [], [], n + 1, ys.length, none, none, none, rfl, X0.draw L uG2 bG2, Nat.le_refl _, Nat.le_refl _, .nil _, Nat.zero_le _⟩ ?_ ?_⟩
  · rintro i σ G hi ⟨fo, ts, ps, n', k, v7, v8, v9, rfl, X, hn', hk, hdr, hts⟩
    have hi4 : i ≤ 3 := by omega
    have him : (35 + 2 * drL d) * i ≤ (35 + 2 * drL d) * 3 := Nat.mul_le_mul_left _ hi4
    have hib : (3 + 2 * bdL d) * i ≤ (3 + 2 * bdL d) * 3 := Nat.mul_le_mul_left _ hi4
    have hk6 : k ≤ 6 := by omega
    have hN : n' + (35 + 2 * drL d) ≤ 900000 := by omega
    have hrs : ∀ {H : Hp} {rs : List V} {us : List L3}, Rw3 K H rs us → us.length ≤ 60000 → rs.length < sizeLine := fun h hl => by rw [h.len]; exact big (by omega)
    have hrs2 : ∀ {n : Nat}, n ≤ 200000 → n ≤ sizeLine := fun h => Nat.le_of_lt (big (by omega))
    -- the recursion
    have hrec : ∀ (G : Hp) (fo : Addr) (ts : List L3) (n1 k1 : Nat) (x : Str) (pl' : Pl) (Q' : VK), LX K H p l lft wl (wordsOf pl) G fo ts n1 k1 → placeOf (os ++ [x]) = pl' → 0 < d → (isTop pl' = true → os.length + 1 ≤ 3) → n1 + drL d ≤ 900000 → k1 ≤ 6 →
        (∀ G' r rs us qs n2 k2, LX K H p l lft wl (wordsOf pl) G' fo ts n2 k2 → n2 ≤ n1 + drL d → k2 + ifsN qs ≤ k1 → G' r = some (.lst rs) → Rw3 K G' rs us → Dr wd (os ++ [x]) us qs (os ++ [x]) → us.length ≤ bdL d → Q' (.ref r) G') →
        spLL K d [.ref p, .str pl'.str, .int ((os.length : Int) + 1), .int wd, .ref lft] G Q' E0 := by
      intro G fo ts n1 k1 x pl' Q' X hp' hd0 ht' hn1 hk1 q'
      obtain ⟨d', rfl⟩ : ∃ d', d = d' + 1 := ⟨d - 1, by omega⟩
      obtain ⟨ys1, y1, y2⟩ := X.y
      have hlen : (os ++ [x]).length = os.length + 1 := by rw [List.length_append]; rfl
      refine ⟨p, l, lft, n1, pl', wd, os ++ [x], ys1, ?_, X.b, y1, by omega, hlft, hp', by omega, fun z => by have := ht' z; omega, hw, hn1, fun G' r rs us qs n2 k2 u2 b2 hn2 y3 hk2 er _ hR hD hl => ?_⟩
      · rw [hlen]; rfl
      · exact q' G' r rs us qs n2 k2 (X.turn L u2 b2 y3) hn2 (by omega) er hR hD hl
    refine ⟨_, rfl, p, n', 4, l, rfl, X.b, by omega, by decide, small16 (by decide) (by decide), fun pk G2 e0 e1 bG2 uG2 => ?_⟩
    have X2 := X.draw L uG2 bG2
    unfold gName
    dsimp only
    refine if_with (S := fun G' => Same G2 G') (fun G3 s3 => ?_) (fun alt => ?_)
    · have X3 := X2.keep s3
      refine if_with (S := fun G' => G' = G3) (fun G4 e4 => ?_) (fun alt => ?_)
      · subst e4
        refine if_with (S := fun G' => G' = G4) (fun G5 e5 => ?_) (fun alt => ?_)
        · subst e5
          -- a word
          obtain ⟨rs0, f1, f2⟩ := X3.f
          refine ⟨_, rfl, .inl ⟨rfl, _, SqL.of f1⟩, _, rfl, _, rfl, _, rfl, wl, _, rfl, .inl (SqL.of X3.w), ?_⟩
          have hwl : 0 < (wordsOf pl).length ∧ (wordsOf pl).length ≤ 11 := by unfold wordsOf; split <;> decide +kernel
          rw [List.length_map]
          refine ⟨p, n' + 1, _, l, rfl, X3.b, by omega, by omega, small16 (by omega) (by omega), fun r G6 c0 c1 bG6 uG6 => ?_⟩
          have X6 := X3.draw L uG6 bG6
          refine pick_str X6.w c0 c1 fun hj => ?_
          refine ⟨_, rfl, _, rfl, (by show 3 ≤ sizeLine; decide), fun u nu => ?_⟩
          obtain ⟨xx, hxx⟩ : ∃ xx, xx = (wordsOf pl)[r.toNat] := ⟨_, rfl⟩
          have hxm : xx ∈ wordsOf pl := by rw [hxx]; exact List.getElem_mem hj
          rw [← hxx]
          have X7 := X6.keep (new_same (o := .tup [.str xx, .str pl.str, .int (os.length : Int)]) nu)
          obtain ⟨rs7, f7, g7⟩ := X7.f
          refine ⟨fo, rs7, _, rfl, rfl, f7, hrs g7 (by omega), ?_⟩
          have X8 := X7.app (x := xx) (pl := pl) (d := os.length) L f7 (SqT.of upd_same)
          obtain ⟨D1, D2⟩ := dr_word (wd := wd) (words_place (os := os) (by rw [hpl]; exact hxm))
          rw [hpl] at D1 D2
          exact ⟨fo, _, ps ++ _, n' + 2, k, _, _, _, rfl, X8, by rw [Nat.mul_succ]; omega, by rw [ifsN_app, D2]; omega, hdr.app D1, by rw [List.length_append, Nat.mul_succ]; show _ + 1 ≤ _; omega⟩
        · refine ⟨_, rfl, rfl, _, rfl, ite2 (fun h0 => ?_) (fun h0 => iteF (alt _ rfl))⟩
          refine ⟨_, rfl, rfl, _, rfl, iteB (fun h1 => ?_) (fun h1 => alt _ rfl)⟩
          -- a pick
          have hd1 : isDown pl = true := by rw [← down_eq]; exact h1
          obtain ⟨rs0, f1, f2⟩ := X3.f
          have wd0 : 0 < wd ∧ wd ≤ 4 := by rcases hw with rfl | rfl | rfl <;> decide
          refine ⟨_, rfl, .inl ⟨rfl, _, SqL.of f1⟩, _, rfl, _, rfl, p, n' + 1, wd, l, rfl, X3.b, by omega, wd0.1, small16 (by omega) (by omega), fun r G6 c0 c1 bG6 uG6 => ?_⟩
          have X6 := X3.draw L uG6 bG6
          have hk1 := ks_mem c0 c1
          have hk4 := four_mem (ks_four hw hk1)
          have hkl := num_len _ hk4
          refine ⟨_, _, rfl, rfl, _, rfl, by rcases ks_four hw hk1 with e | e | e | e <;> rw [e] <;> decide +kernel, _, _, rfl, rfl, ?_, ?_⟩
          · exact hrs2 (Nat.le_trans (Nat.add_le_add (show ("pick " : Str).length ≤ 5 by decide +kernel) hkl) (by decide))
          refine ⟨_, rfl, _, rfl, (by show 3 ≤ sizeLine; decide), fun u nu => ?_⟩
          have X7 := X6.keep (new_same (o := .tup [.str (pickS (1 + r)), .str pl.str, .int (os.length : Int)]) nu)
          obtain ⟨rs7, f7, g7⟩ := X7.f
          refine ⟨fo, rs7, _, rfl, rfl, f7, hrs g7 (by omega), ?_⟩
          have X8 := X7.app (x := pickS (1 + r)) (pl := pl) (d := os.length) L f7 (SqT.of upd_same)
          have hpd : placeOf os = .down := by
            rw [hpl]
            cases pl with
            | top => cases hd1
            | up => cases hd1
            | down => rfl
          obtain ⟨D1, D2⟩ := dr_pick (os := os) hw hk1 hk4 hpd
          rw [hpl] at D1 D2
          exact ⟨fo, _, ps ++ _, n' + 2, k, _, _, _, rfl, X8, by rw [Nat.mul_succ]; omega, by rw [ifsN_app, D2]; omega, hdr.app D1, by rw [List.length_append, Nat.mul_succ]; show _ + 1 ≤ _; omega⟩
      · refine ⟨_, rfl, rfl, _, rfl, ite2 (fun h0 => ?_) (fun h0 => iteF (alt _ rfl))⟩
        refine ⟨_, rfl, rfl, _, rfl, iteB (fun h1 => ?_) (fun h1 => alt _ rfl)⟩
        -- a loop
        have htp : isTop pl = true := by
          have := top_ne pl
          rw [show decide (V.str pl.str = V.str "top") = true from h1] at this
          cases hh : isTop pl with
          | true => rfl
          | false => rw [hh] at this; cases this
        have ho : loopsOf os = [] := by
          have := place_top (os := os)
          rw [hpl, htp] at this
          exact List.isEmpty_iff.mp this.symm
        have hos3 := htop htp
        refine ⟨(by show 2 ≤ sizeLine; decide), fun lx nlx => ?_⟩
        have X4 := X3.keep (new_same (o := .lst [.str "down", .str "up"]) nlx)
        refine ⟨_, rfl, p, n' + 1, 2, l, rfl, X4.b, by omega, by decide, small16 (by decide) (by decide), fun ro G5 c0 c1 bG5 uG5 => ?_⟩
        have X5 := X4.draw L uG5 bG5
        have elx := lst_but (xs := ([("down" : Str), "up"]).map V.str) uG5 X4.b.dk upd_same
        refine pick_str elx c0 c1 fun hj => ?_
        obtain ⟨x, hx⟩ : ∃ x, x = ([("down" : Str), "up"])[ro.toNat] := ⟨_, rfl⟩
        have hxl : isLoop x = true := by
          have : x ∈ [("down" : Str), "up"] := by rw [hx]; exact List.getElem_mem hj
          rcases List.mem_cons.mp this with e | e
          · rw [e]; decide +kernel
          · rw [List.mem_singleton.mp e]; decide +kernel
        rw [← hx]
        have hxs := plOf_str hxl
        have hxlen : x.length ≤ 4 := by rcases loop_cases hxl with rfl | rfl <;> decide +kernel
        have hsp : (" " : Str).length = 1 := by decide +kernel
        obtain ⟨rs5, f5, g5⟩ := X5.f
        refine ⟨_, rfl, .inl ⟨rfl, _, SqL.of f5⟩, _, rfl, _, _, rfl, rfl, hrs2 (by rw [hsp]; omega), _, rfl, _, rfl, _, rfl, p, l, n' + 2, plOf x, wd, by rw [hxs]; rfl, X5.b, by omega, hw, fun G6 tx n6 uG6 bG6 hn6 ht => ?_⟩
        have X6 := X5.draw L uG6 bG6
        refine ⟨_, _, rfl, rfl, hrs2 (by have := ht.z; rw [len_app, hsp]; omega), _, rfl, _, rfl, (by show 3 ≤ sizeLine; decide), fun u nu => ?_⟩
        have X7 := X6.keep (new_same (o := .tup [.str ((x ++ (" " : Str)) ++ tx), .str pl.str, .int (os.length : Int)]) nu)
        obtain ⟨rs7, f7, g7⟩ := X7.f
        refine ⟨fo, rs7, _, rfl, rfl, f7, hrs g7 (by omega), ?_⟩
        have X8 := X7.app (x := (x ++ (" " : Str)) ++ tx) (pl := pl) (d := os.length) L f7 (SqT.of upd_same)
        obtain ⟨G8, hG8⟩ : ∃ G8, G8 = upd (upd G6 u (.tup [.str ((x ++ (" " : Str)) ++ tx), .str pl.str, .int (os.length : Int)])) fo (.lst (rs7 ++ [.ref u])) := ⟨_, rfl⟩
        rw [← hG8] at X8
        refine ⟨_, rfl, _, rfl, _, rfl, _, rfl, _, _, rfl, rfl, _, rfl, _, rfl, ?_⟩
        have hgo := fun Q' q' => hrec G8 fo _ n6 k x (plOf x) Q' X8 (place_loop hxl ho) (by omega) (fun z => by rw [plOf_top hxl] at z; cases z) (by omega) hk6 q'
        rw [hxs] at hgo
        rw [← hG8]
        refine hgo _ fun G9 r rs9 us qs n9 k9 X9 hn9 hk9 er hR hD hl => ?_
        obtain ⟨rsf, ff, gf⟩ := X9.f
        have hlr := hR.len
        have hlf := gf.len
        rw [List.length_append] at hlf
        refine ⟨fo, r, rsf, rs9, rfl, rfl, ff, er, hrs2 (by rw [hlr, hlf]; show _ + 1 + _ ≤ _; omega), fun q1 nq1 => ?_⟩
        have Y := X9.cat L ff hR nq1
        have sq := new_same (o := .lst (rsf ++ rs9)) nq1
        refine ⟨_, rfl, _, rfl, _, _, rfl, rfl, (by show 3 ≤ sizeLine; decide), fun u2 nu2 => ⟨(by show 1 ≤ sizeLine; decide), fun u3 nu3 => ?_⟩⟩
        have Y2 := Y.keep (new_same (o := .tup [.str "end", .str x, .int ((os.length : Int) + 1)]) nu2)
        have Y3 := Y2.keep (new_same (o := .lst [.ref u2]) nu3)
        have eq3 : ∀ {z}, z = q1 → (upd (upd (upd G9 q1 (.lst (rsf ++ rs9))) u2 (.tup [.str "end", .str x, .int ((os.length : Int) + 1)])) u3 (.lst [.ref u2])) z = some (.lst (rsf ++ rs9)) := fun {z} e => by
          rw [e]
          exact (new_same nu3) _ _ ((new_same nu2) _ _ upd_same)
        refine ⟨q1, u3, _, _, rfl, rfl, eq3 rfl, upd_same, hrs2 (by rw [List.length_append, hlr, hlf]; show _ + 1 + _ + 1 ≤ _; omega), fun q2 nq2 => ?_⟩
        have Y4 := Y3.cat (rs2 := [.ref u2]) (us := [(("end" : Str), plOf x, os.length + 1)]) L (eq3 rfl) (.cons (sqt_same (new_same nu3) (by rw [hxs]; exact SqT.of upd_same)) .nil) nq2
        obtain ⟨qs2, D1, D2⟩ := dr_loop hxl ho ht hD
        rw [hpl] at D1
        refine ⟨q2, _, ps ++ qs2, n9, k9, _, _, _, rfl, Y4, by rw [Nat.mul_succ]; omega, by rw [ifsN_app, D2]; omega, ?_, ?_⟩
        · have := hdr.app D1
          simpa [List.append_assoc] using this
        · simp only [List.length_append, List.length_cons, List.length_nil]
          rw [Nat.mul_succ]
          omega
    · refine ⟨_, rfl, rfl, _, rfl, ite2 (fun h0 => ?_) (fun h0 => iteF (alt _ (Same.refl _)))⟩
      refine ⟨_, rfl, _, _, rfl, rfl, _, rfl, ite2 (fun h1 => ?_) (fun h1 => iteF (alt _ (Same.refl _)))⟩
      obtain ⟨ys2, y1, y2⟩ := X2.y
      refine ⟨_, rfl, Nat.zero_le _, fun e9 ne9 => ⟨.list (ys2.map .int), .list [], .lst (SqL.of ((new_same ne9) _ _ y1)) (dp_ints ys2), .lst (SqL.of upd_same) .nil, shaped_ints ys2, by decide +kernel, _, rfl, iteB (fun h2 => ?_) (fun h2 => alt _ (new_same ne9))⟩⟩
      have hne : ys2 ≠ [] := fun z => by rw [z] at h2; exact absurd h2 (by decide +kernel)
      have hk1 : 1 ≤ ys2.length := by
        cases ys2 with
        | nil => exact absurd rfl hne
        | cons y r => rw [List.length_cons]; omega
      have hos2 : os.length < 3 := by
        have := of_decide_eq_true h1
        omega
      have hif : isLoop "if" = false := by decide +kernel
      have hel : isLoop "else" = false := by decide +kernel
      have s9 := new_same (o := .lst []) ne9
      have X3 := X2.keep s9
      have y3 := s9 _ _ y1
      refine ⟨_, rfl, .inl ⟨rfl, _, SqL.of y3⟩, lft, _, _, rfl, rfl, y3, List.getElem?_eq_getElem (by rw [List.length_map]; omega), ?_⟩
      have X4 := X3.pop L y3
      obtain ⟨rs4, f4, g4⟩ := X4.f
      refine ⟨_, rfl, .inl ⟨rfl, _, SqL.of f4⟩, _, rfl, _, rfl, _, rfl, p, l, n' + 1, pl, wd, rfl, X4.b, by omega, hw, fun G6 tx n6 uG6 bG6 hn6 ht => ?_⟩
      have X6 := X4.draw L uG6 bG6
      have hil : ("if " : Str).length = 3 := by decide +kernel
      refine ⟨_, _, rfl, rfl, hrs2 (by have := ht.z; rw [hil]; omega), _, rfl, _, rfl, (by show 3 ≤ sizeLine; decide), fun u nu => ?_⟩
      have X7 := X6.keep (new_same (o := .tup [.str (("if " : Str) ++ tx), .str pl.str, .int (os.length : Int)]) nu)
      obtain ⟨rs7, f7, g7⟩ := X7.f
      refine ⟨fo, rs7, _, rfl, rfl, f7, hrs g7 (by omega), ?_⟩
      have X8 := X7.app (x := ("if " : Str) ++ tx) (pl := pl) (d := os.length) L f7 (SqT.of upd_same)
      refine ⟨_, rfl, _, rfl, _, rfl, _, rfl, _, _, rfl, rfl, _, rfl, _, rfl, ?_⟩
      have hkk : k - 1 + 1 = k := by omega
      refine hrec _ fo _ n6 (k - 1) "if" pl _ X8 (by rw [place_if hif]; exact hpl) (by omega) (fun _ => by omega) (by omega) (by omega) fun G9 r rs9 us qs n9 k9 X9 hn9 hk9 er hR hD hl => ?_
      obtain ⟨rsf, ff, gf⟩ := X9.f
      have hlr := hR.len
      have hlf := gf.len
      rw [List.length_append] at hlf
      refine ⟨fo, r, rsf, rs9, rfl, rfl, ff, er, hrs2 (by rw [hlr, hlf]; show _ + 1 + _ ≤ _; omega), fun q1 nq1 => ?_⟩
      have Y := X9.cat L ff hR nq1
      rw [List.append_assoc] at Y
      refine ⟨fun σ G => ∃ (fo : Addr) (us : List L3) (n2 k2 : Nat) (qs : List (Str × Pl)), σ = [some (.ref p), some (.str pl.str), some (.int (os.length : Int)), some (.int wd), some (.ref lft), some (.ref wl), some (.ref fo), some (.int (0 + (i : Int))), some (.int pk), v9] ∧ LX K H p l lft wl (wordsOf pl) G fo (ts ++ us) n2 k2 ∧ n2 ≤ n' + 33 + 2 * drL d ∧ us.length ≤ 2 + 2 * bdL d ∧ Dr wd os (us ++ [(("end" : Str), pl, os.length + 1)]) qs os ∧ k2 + ifsN qs ≤ k, ?_, ?_⟩
      · refine ⟨_, rfl, p, n9, 2, l, rfl, Y.b, by omega, by decide, small16 (by decide) (by decide), fun c G10 c0 c1 bG10 uG10 => ?_⟩
        have Z := Y.draw L uG10 bG10
        refine ⟨rfl, _, rfl, ite2 (fun h5 => ?_) (fun h5 => ?_)⟩
        · obtain ⟨rsz, fz, gz⟩ := Z.f
          refine ⟨_, rfl, .inl ⟨rfl, _, SqL.of fz⟩, _, rfl, _, rfl, _, _, rfl, rfl, (by show 3 ≤ sizeLine; decide), fun u2 nu2 => ?_⟩
          have Z2 := Z.keep (new_same (o := .tup [.str "else", .str pl.str, .int ((os.length : Int) + 1)]) nu2)
          have fz2 := (new_same (o := .tup [.str "else", .str pl.str, .int ((os.length : Int) + 1)]) nu2) _ _ fz
          have hlz := gz.len
          simp only [List.length_append, List.length_cons, List.length_nil] at hlz
          refine ⟨q1, rsz, _, rfl, rfl, fz2, big (by rw [hlz]; omega), ?_⟩
          have Z3 := Z2.app (x := "else") (pl := pl) (d := os.length + 1) L fz2 (SqT.of upd_same)
          refine ⟨_, rfl, _, rfl, _, rfl, _, rfl, _, _, rfl, rfl, _, rfl, _, rfl, ?_⟩
          refine hrec _ q1 _ (n9 + 1) k9 "else" pl _ Z3 (by rw [place_if hel]; exact hpl) (by omega) (fun _ => by omega) (by omega) (by omega) fun G11 r2 rs11 us2 qs2 n11 k11 X11 hn11 hk11 er2 hR2 hD2 hl2 => ?_
          obtain ⟨rsg, fg, gg⟩ := X11.f
          have hlr2 := hR2.len
          have hlg := gg.len
          simp only [List.length_append, List.length_cons, List.length_nil] at hlg
          refine ⟨q1, r2, rsg, rs11, rfl, rfl, fg, er2, hrs2 (by rw [hlr2, hlg]; omega), fun q2 nq2 => ?_⟩
          have W := X11.cat L fg hR2 nq2
          obtain ⟨qs3, D1, D2⟩ := dr_ifelse (x := tx) (os := os) (by rw [hpl]; exact ht) hD hD2
          rw [hpl] at D1
          refine ⟨q2, ((("if " : Str) ++ tx, pl, os.length) :: (us ++ ((("else" : Str), pl, os.length + 1) :: us2))), n11, k11, qs3, rfl, ?_, by omega, ?_, ?_, by rw [D2]; omega⟩
          · simpa [List.append_assoc] using W
          · simp only [List.length_append, List.length_cons]
            omega
          · simpa [List.append_assoc] using D1
        · obtain ⟨qs3, D1, D2⟩ := dr_if (x := tx) (os := os) (by rw [hpl]; exact ht) hD
          rw [hpl] at D1
          refine ⟨q1, ((("if " : Str) ++ tx, pl, os.length) :: us), n9 + 1, k9, qs3, rfl, Z, by omega, ?_, D1, by rw [D2]; omega⟩
          rw [List.length_cons]
          omega
      · rintro σ G ⟨fo, us, n2, k2, qs, rfl, Z, hn2, hus, hD, hk2⟩
        obtain ⟨rsz, fz, gz⟩ := Z.f
        refine ⟨_, rfl, .inl ⟨rfl, _, SqL.of fz⟩, _, rfl, _, rfl, _, _, rfl, rfl, (by show 3 ≤ sizeLine; decide), fun u2 nu2 => ?_⟩
        have Z2 := Z.keep (new_same (o := .tup [.str "end", .str pl.str, .int ((os.length : Int) + 1)]) nu2)
        have fz2 := (new_same (o := .tup [.str "end", .str pl.str, .int ((os.length : Int) + 1)]) nu2) _ _ fz
        have hlz := gz.len
        rw [List.length_append] at hlz
        refine ⟨fo, rsz, _, rfl, rfl, fz2, big (by rw [hlz]; omega), ?_⟩
        have Z3 := Z2.app (x := "end") (pl := pl) (d := os.length + 1) L fz2 (SqT.of upd_same)
        rw [List.append_assoc] at Z3
        refine ⟨fo, _, ps ++ qs, n2, k2, _, _, _, rfl, Z3, by rw [Nat.mul_succ]; omega, by rw [ifsN_app]; omega, hdr.app hD, ?_⟩
        simp only [List.length_append, List.length_cons, List.length_nil]
        rw [Nat.mul_succ]
        omega
  · rintro σ G ⟨fo, ts, ps, n', k, v7, v8, v9, rfl, X, hn', hk, hdr, hts⟩
    obtain ⟨rs, f1, f2⟩ := X.f
    have hr4 : r0.toNat ≤ 4 := by omega
    have h3 : (35 + 2 * drL d) * r0.toNat ≤ (35 + 2 * drL d) * 4 := Nat.mul_le_mul_left _ hr4
    have h4 : (3 + 2 * bdL d) * r0.toNat ≤ (3 + 2 * bdL d) * 4 := Nat.mul_le_mul_left _ hr4
    exact ⟨_, rfl, q G fo rs ts ps n' k X.u X.b (by omega) X.y hk f1 X.nf f2 hdr (by omega)⟩
end
end H2
namespace H2
open PySem PySem.Spec PyProof.Rows L2 Hx Nd Dun
section
variable {P : Program} {w : World} {K : PySem.W.Frag} {mg : Str → Option Value} {base : Heap} {D : Addr}
/-! ### _law_told -/
structure ExmT (K : PySem.W.Frag) (EC : Nat → Addr) : Prop where
  e22 : PySem.W.exmOne K (.ref (EC 2)) (.ref (EC 2)) = some true
  e32 : PySem.W.exmOne K (.ref (EC 3)) (.ref (EC 2)) = some false
  e33 : PySem.W.exmOne K (.ref (EC 3)) (.ref (EC 3)) = some true
abbrev nlS : Str := "\n"
theorem look1 {f : Str} {a : V} : List.lookup f [(f, a)] = some a := by simp [List.lookup]
theorem rowsFrom_len {wd : Int} : ∀ {ls os : List Str} {k : Nat} {ps : List (Str × Pl)} {e : List Str}, rowsFrom wd os ls k = .inr (ps, e) → ps.length = ls.length
  | [], os, k, ps, e, h => by
    unfold rowsFrom at h
    cases h
    rfl
  | l :: r, os, k, ps, e, h => by
    unfold rowsFrom at h
    cases hr : rowOf l os wd with
    | none => rw [hr] at h; cases h
    | some p =>
      rw [hr] at h
      dsimp only at h
      cases hf : rowsFrom wd (behindOf p.1 os) r (k + 1) with
      | inl j => rw [hf] at h; cases h
      | inr z =>
        rw [hf] at h
        obtain ⟨qs, e'⟩ := z
        cases h
        rw [List.length_cons, List.length_cons, rowsFrom_len hf]
theorem linesOf_inr {ls : List Str} {wd : Int} {ps : List (Str × Pl)} (h : linesOf ls wd = .inr ps) : rowsFrom wd [] ls 1 = .inr (ps, []) := by
  unfold linesOf at h
  cases hf : rowsFrom wd [] ls 1 with
  | inl k => rw [hf] at h; cases h
  | inr z =>
    rw [hf] at h
    obtain ⟨qs, e⟩ := z
    cases e with
    | nil => cases h; rfl
    | cons a r => cases h
theorem sum_100 : ∀ {ls : List Str}, (∀ x ∈ ls, LnOk x) → (ls.map (·.length)).sum ≤ 100 * ls.length
  | [], _ => Nat.le_refl _
  | x :: r, h => by
    rw [List.map_cons, List.sum_cons, List.length_cons]
    have := (h x List.mem_cons_self).z
    have := sum_100 fun y hy => h y (List.mem_cons_of_mem _ hy)
    omega
abbrev psTD : List Str := ["_law_kind", "_law_width", "_law_lines_here"]
def spToldX (K : PySem.W.Frag) : Sp := fun vs H Q _ => ∃ (kd : Str) (wd : Int) (la : Addr) (ls : List Str), vs = [.str kd, .int wd, .ref la] ∧ H la = some (.lst (ls.map V.str)) ∧ TextOf (Txt.join nlS ls) ls ∧
  (∀ H', IsV K H' "str" kindsV (.str kd) true) ∧ (∀ H', IsV K H' "int" widthsV (.int wd) true) ∧ ls.length ≤ 60 ∧ (∀ y ∈ ls, LnOk y) ∧ Wd wd ∧
  match linesOf ls wd with
  | .inl k => ∀ H', Same H H' → Q (.int k) H'
  | .inr ps => ifsN ps ≤ 8 ∧ ∀ H', Same H H' → Q (.int 0) H'
theorem ok_toldX {f C m0 DB : Addr} {EC EI : Nat → Addr} (T0 : FT K mg "_law_told" s_Ltold psTD f) (T : CodeX K mg C m0) (ET : ErrT K mg DB EC EI) (XT : ExmT K EC)
    {cd : FuncData} (FC : Fun K "__init__" "Code.__init__" s_Code_init m0 cd) (bC : Binds K cd psCD []) (GC : FnOk P w K mg base (L2.CX P w) 10 m0 cd psCD (spCodeX K C EC)) :
    ∃ fd, Fun K "_law_told" "_law_told" s_Ltold f fd ∧ Binds K fd psTD [] ∧ FnOk P w K mg base CX0 12 f fd psTD (spToldX K) := by
  obtain ⟨fd, F, b⟩ := T0.fn
  refine ⟨fd, F, b, F.ok c_Ltold (fun vs H Q E h => ?_) (fun cdv A outer s H vs Q E hr h => ?_)⟩
  · obtain ⟨kd, wd, la, ls, rfl, _⟩ := h
    rfl
  obtain ⟨kd, wd, la, ls, rfl, hla, hx, hk, hwd, h60, hok, hw, q⟩ := h
  refine ⟨_, pss_cons (ps_try_any (Wout := fun _ _ _ _ => False) (tb := fun W => tDrop (Mkx.tMakeS C (spCodeX K C EC) W (tCons (tVar 0) (tCons (tVar 1) (tCons (tM1 (fun x xs H Q => ∃ a p, ∃ ys : List Str, x = .str a ∧ xs = [.ref p] ∧ (SqL K H p (ys.map V.str) ∨ SqT K H p (ys.map V.str)) ∧
      (ys.map (·.length)).sum + ys.length * a.length ≤ 16777216 ∧ Q (.str (Txt.join a ys)) H) (tC (.str "\n")) (tVar 2)) tNil))))) rfl rfl takes0
        (fun W pn xe tk _ => pss_one (ps_expr (Mkx.pe_makeS T.mak GC hr rfl T.g bC tk (pa_cons (pv 0) (pa_cons (pv 1) (pa_cons (pe_join pe_str (pv 2)) pa_nil))))))
        (.as (i := 3) c_Ltold.nd rfl rfl ⟨rfl, by decide, .inl ET.t2.ex.gC⟩ (fun a oe cls d pn hz hf => pss_one (ps_ret (pe_xf ET.t2.xf (ET.t2.nf _ (by simp)) hz hf (pv 3))))
        (.bare ⟨rfl, by decide, .inl ET.t3.ex.gC⟩ (fun a oe cls d pn hz hf => pss_one (ps_ret pe_int)) .nil)))
    (pss_one (ps_ret pe_int)), ?_⟩
  have hs := sum_100 hok
  have hnl : nlS.length = 1 := by decide +kernel
  refine ⟨_, rfl, _, rfl, ⟨_, rfl⟩, _, rfl, nlS, la, ls, rfl, rfl, .inl (SqL.of hla), by rw [hnl]; omega, ?_⟩
  refine fun p dx np nd ne => ?_
  have np' : upd H dx (.own p) p = none := by rw [upd_ne ne.symm]; exact np
  have sH := same_new (o := .ins C dx []) (new_same (o := .own p) nd) np'
  refine ⟨p, dx, kd, wd, _, ls, rfl, upd_same, hx, hk _, hwd _, h60, fun y hy => (hok y hy).l, hw, ?_⟩
  cases hlo : linesOf ls wd with
  | inl k =>
    rw [hlo] at q
    refine fun H' s' d nd => ⟨true, XT.e22, fun _ a na => ?_, fun z => Bool.noConfusion z⟩
    refine ⟨_, rfl, rfl, rfl, d, _, _, rfl, upd_same, look1, ?_⟩
    exact q _ (same_new (sH.trans s') nd)
  | inr ps =>
    rw [hlo] at q
    have hrf := linesOf_inr hlo
    refine ⟨keepV wd ps, keeps_of (rowsFrom_RR hrf) (by rw [rowsFrom_len hrf]; exact h60) q.1, fun H' m k s' _ _ d nd => ⟨false, XT.e32, fun z => Bool.noConfusion z, fun _ => ⟨true, XT.e33, fun _ a na => ?_, fun z => Bool.noConfusion z⟩⟩, fun H' fl me lt m _ _ bt hp hlt => ⟨rfl, ?_⟩⟩
    · exact q.2 _ (same_new (sH.trans s') nd)
    · exact q.2 _ (fun c u z => bt c u (ne_of_none z np) (sH c u z))
end
end H2
namespace H2
open PySem PySem.Spec PyProof.Rows L2 Hx Nd Dun
section
variable {P : Program} {w : World} {K : PySem.W.Frag} {mg : Str → Option Value} {base : Heap} {D : Addr}
/-! ### _law_open -/
def spOpen (K : PySem.W.Frag) : Sp := fun vs H Q _ => ∃ (t : Addr) (x : Str) (v : V) (d : Int), vs = [.ref t] ∧ SqT K H t [.str x, v, .int d] ∧ x.length + 2 ≤ sizeLine ∧ Txt.split x " " ≠ [] ∧ ∀ H', Same H H' → Q (.int (openOf x d)) H'
theorem ok_open {f : Addr} (T0 : FT K mg "_law_open" s_Lopen ["_law_row"] f) (BT : BltT mg) : ∃ fd, Fun K "_law_open" "_law_open" s_Lopen f fd ∧ Binds K fd ["_law_row"] [] ∧ FnOk P w K mg base CX0 1 f fd ["_law_row"] (spOpen K) := by
  obtain ⟨fd, F, b⟩ := T0.fn
  refine ⟨fd, F, b, F.ok c_Lopen (fun vs H Q E h => ?_) (fun cdv A outer s H vs Q E hr h => ?_)⟩
  · obtain ⟨t, x, v, d, rfl, _⟩ := h
    rfl
  obtain ⟨t, x, v, d, rfl, ht, hx, hne, q⟩ := h
  refine ⟨_, pss_cons (ps_asg (pv 0) (pg_tup rfl (pgs_cons (pg_name (i := 1) c_Lopen.nd rfl (Or.inl rfl)) (pgs_cons (pg_name (i := 2) c_Lopen.nd rfl (Or.inl rfl)) (pgs_cons (pg_name (i := 3) c_Lopen.nd rfl (Or.inl rfl)) pgs_nil)))))
    (pss_one (ps_ret (pe_op op_sub (pe_op op_add (pv 3) (pe_callTy call_int1 (by rfl) BT.int (by decide +kernel) (pa_cons (pe_cmpR op_in_seq (pe_ix ix_list (pe_split (pv 1) pe_str) pe_int (fun _ _ => rfl)) (pe_lst (pa_cons pe_str (pa_cons pe_str (pa_cons pe_str pa_nil)))) rfl) pa_nil)))
      (pe_callTy call_int1 (by rfl) BT.int (by decide +kernel) (pa_cons (pe_cmpR op_eq (pv 1) pe_str (nomark _)) pa_nil))))), ?_⟩
  refine ⟨_, rfl, t, _, rfl, ht, rfl, _, _, rfl, _, _, rfl, _, _, rfl, rfl, ?_⟩
  refine ⟨_, rfl, _, rfl, ⟨_, rfl⟩, x, _, rfl, rfl, by decide +kernel, hx, fun l nl => ?_⟩
  have hf : (Txt.split x " ")[0]? = some (firstW x) := by
    unfold firstW
    cases hs : Txt.split x " " with
    | nil => exact absurd hs hne
    | cons a r => rfl
  refine ⟨l, _, 0, .str (firstW x), rfl, rfl, SqL.of upd_same, at_of (j := 0) rfl (by rw [List.getElem?_map, hf]; rfl), (by show 3 ≤ sizeLine; decide), fun u nu => ?_⟩
  refine ⟨u, _, rfl, .inl (SqL.of upd_same), rfl, rfl, .inr ⟨_, rfl, ?_⟩⟩
  refine ⟨_, _, rfl, rfl, _, rfl, rfl, .inr ⟨_, rfl, _, _, rfl, rfl, ?_⟩⟩
  exact q _ (same_new (new_same nl) nu)
end
end H2
namespace H2
open PySem PySem.Spec PyProof.Rows L2 Hx Nd Dun
section
variable {P : Program} {w : World} {K : PySem.W.Frag} {mg : Str → Option Value} {base : Heap} {D : Addr}
/-! ### what a text of drawn lines is told as -/
def lns (ts : List L3) : List Str := ts.map (·.1)
theorem Dr.cut {wd : Int} : ∀ {ts : List L3} {os e : List Str} {ps : List (Str × Pl)}, Dr wd os ts ps e → ∀ i, i ≤ ts.length → ∃ m, Dr wd os (ts.take i) (ps.take i) m ∧ Dr wd m (ts.drop i) (ps.drop i) e
  | _, os, e, _, h, 0, _ => ⟨os, by rw [List.take_zero, List.take_zero]; exact .nil _, by rw [List.drop_zero, List.drop_zero]; exact h⟩
  | _, _, _, _, .cons h1 h2 h3 h4 ho h5, i + 1, hi => by
    obtain ⟨m, a, b⟩ := h5.cut i (Nat.le_of_succ_le_succ hi)
    exact ⟨m, .cons h1 h2 h3 h4 ho a, b⟩
theorem Dr.len {wd : Int} {os e : List Str} {ts : List L3} {ps : List (Str × Pl)} (h : Dr wd os ts ps e) : ps.length = ts.length := by
  induction h with
  | nil => rfl
  | cons _ _ _ _ _ _ ih => rw [List.length_cons, List.length_cons, ih]
theorem rowsFrom_some {wd : Int} {os r : List Str} {x : Str} {k : Nat} {p : Str × Pl} (h : rowOf x os wd = some p) : rowsFrom wd os (x :: r) k = match rowsFrom wd (behindOf p.1 os) r (k + 1) with
    | .inl j => .inl j
    | .inr (ps, e) => .inr (p :: ps, e) := by
  conv => lhs; unfold rowsFrom
  rw [h]
  all_goals rfl
theorem rowsFrom_none {wd : Int} {os r : List Str} {x : Str} {k : Nat} (h : rowOf x os wd = none) : rowsFrom wd os (x :: r) k = .inl k := by
  conv => lhs; unfold rowsFrom
  rw [h]
theorem Dr.from {wd : Int} {os m : List Str} {a : List L3} {ps : List (Str × Pl)} (h : Dr wd os a ps m) : ∀ (b : List Str) (k : Nat), rowsFrom wd os (lns a ++ b) k = match rowsFrom wd m b (k + a.length) with
    | .inl j => .inl j
    | .inr (qs, e) => .inr (ps ++ qs, e) := by
  induction h with
  | nil os =>
    intro b k
    show rowsFrom wd os b k = _
    rw [List.length_nil, Nat.add_zero]
    cases rowsFrom wd os b k with
    | inl j => rfl
    | inr z => rfl
  | @cons os e x p ts ps h1 _ _ _ _ h5 ih =>
    intro b k
    show rowsFrom wd os (x :: (lns ts ++ b)) k = _
    rw [rowsFrom_some h1, ih b (k + 1), List.length_cons, show k + 1 + ts.length = k + (ts.length + 1) from by omega]
    cases rowsFrom wd e b (k + (ts.length + 1)) with
    | inl j => rfl
    | inr z => rfl
theorem told_all {wd : Int} {ts : List L3} {ps : List (Str × Pl)} (h : Dr wd [] ts ps []) : linesOf (lns ts) wd = .inr ps := by
  have := h.from [] 1
  rw [List.append_nil] at this
  unfold linesOf
  rw [this]
  unfold rowsFrom
  dsimp only
  rw [List.append_nil]
theorem told_open {wd : Int} {ts : List L3} {ps : List (Str × Pl)} {m : List Str} (h : Dr wd [] ts ps m) (hm : m ≠ []) : linesOf (lns ts) wd = .inl (ts.length + 1) := by
  have := h.from [] 1
  rw [List.append_nil] at this
  unfold linesOf
  rw [this]
  unfold rowsFrom
  dsimp only
  cases m with
  | nil => exact absurd rfl hm
  | cons a r => dsimp only; rw [show (lns ts).length = ts.length from List.length_map _]
theorem told_bad {wd : Int} {ts : List L3} {ps : List (Str × Pl)} {m : List Str} {x : Str} {rest : List Str} (h : Dr wd [] ts ps m) (hx : rowOf x m wd = none) : linesOf (lns ts ++ (x :: rest)) wd = .inl (ts.length + 1) := by
  have := h.from (x :: rest) 1
  rw [rowsFrom_none hx] at this
  unfold linesOf
  rw [this]
  dsimp only
  rw [Nat.add_comm]
theorem told_else {wd : Int} {ts : List L3} {ps : List (Str × Pl)} {m : List Str} {rest : List Str} {p : Str × Pl} (h : Dr wd [] ts ps m) (hx : rowOf "else" m wd = some p) : linesOf (lns ts ++ (("else" : Str) :: (("else" : Str) :: rest))) wd = .inl (ts.length + 2) := by
  have hp : p.1 = "else" ∧ rowOf "else" (behindOf p.1 m) wd = none := by
    rw [row_blk (by decide +kernel)] at hx
    split at hx
    · injection hx with hx
      rw [← hx]
      refine ⟨rfl, ?_⟩
      show rowOf "else" (behindOf "else" m) wd = none
      rw [behind_else, row_blk (by decide +kernel)]
      have : blockOf "else" (m.dropLast ++ [("else" : Str)]) = false := by
        unfold blockOf
        rw [List.getLast?_concat]
        show inV (.str "else") (takersV "else") = false
        decide +kernel
      rw [this, if_neg (by decide)]
    · cases hx
  have := h.from (("else" : Str) :: (("else" : Str) :: rest)) 1
  rw [rowsFrom_some hx, rowsFrom_none hp.2] at this
  unfold linesOf
  rw [this]
  dsimp only
  rw [show 1 + ts.length + 1 = ts.length + 2 from by omega]
theorem blk_none {x : Str} {wd : Int} (h : x ∈ blkL) : rowOf x [] wd = none := by
  rw [row_blk h]
  rfl
/-- a place in drawn lines -/
theorem Dr.at {wd : Int} {ts : List L3} {ps : List (Str × Pl)} {e : List Str} (h : Dr wd [] ts ps e) {i : Nat} {x : Str} {pl : Pl} {d : Nat} (hi : ts[i]? = some (x, pl, d)) : ∃ m p, Dr wd [] (ts.take i) (ps.take i) m ∧ pl = placeOf m ∧ d = m.length ∧ rowOf x m wd = some p := by
  have hlt := (List.getElem?_eq_some_iff.mp hi).1
  obtain ⟨m, a, b⟩ := h.cut i (Nat.le_of_lt hlt)
  rw [List.drop_eq_getElem_cons hlt, (List.getElem?_eq_some_iff.mp hi).2] at b
  generalize ps.drop i = qs at b
  cases b with
  | cons h1 h2 h3 h4 ho h5 => exact ⟨m, _, a, rfl, rfl, h1⟩
theorem Dr.last {wd : Int} {ts : List L3} {ps : List (Str × Pl)} {e : List Str} {x : Str} {pl : Pl} {d : Nat} (h : Dr wd [] (ts ++ [(x, pl, d)]) ps e) : openOf x (d : Int) = (e.length : Int) ∧ ∃ m, Dr wd [] ts (ps.take ts.length) m := by
  obtain ⟨m, a, b⟩ := h.cut ts.length (by rw [List.length_append]; omega)
  rw [List.take_left] at a
  rw [List.drop_left] at b
  generalize ps.drop ts.length = qs at b
  cases b with
  | cons h1 h2 h3 h4 ho h5 =>
    cases h5
    exact ⟨ho, m, a⟩
theorem Dr.ok {wd : Int} {os e : List Str} {ts : List L3} {ps : List (Str × Pl)} (h : Dr wd os ts ps e) : ∀ t ∈ ts, LnOk t.1 ∧ PyData.strOk t.1 = true ∧ 1 ≤ t.1.length := by
  induction h with
  | nil => intro t ht; cases ht
  | cons h1 h2 h3 h4 ho h5 ih =>
    intro t ht
    rcases List.mem_cons.mp ht with rfl | ht
    · exact ⟨h2, h3, h4⟩
    · exact ih t ht
/-! ### texts -/
section
open TL
theorem joinN_len : ∀ (ps : List (List Nat)), (∀ p ∈ ps, p.length ≤ 100) → (joinL [10] ps).length ≤ 101 * ps.length
  | [], _ => Nat.zero_le _
  | [p], h => by
    have := h p List.mem_cons_self
    show p.length ≤ 101 * 1
    omega
  | p :: q :: r, h => by
    have a := h p List.mem_cons_self
    have b := joinN_len (q :: r) fun x hx => h x (List.mem_cons_of_mem _ hx)
    show (p ++ ([10] ++ joinL [10] (q :: r))).length ≤ 101 * (r.length + 1 + 1)
    rw [List.length_append, List.length_append]
    have b' : (joinL [10] (q :: r)).length ≤ 101 * (r.length + 1) := b
    have c : ([10] : List Nat).length = 1 := rfl
    omega
theorem joinN_pos : ∀ (ps : List (List Nat)), (∃ p ∈ ps, 1 ≤ p.length) → 1 ≤ (joinL [10] ps).length
  | [], h => by obtain ⟨p, hp, _⟩ := h; cases hp
  | [p], h => by
    obtain ⟨q, hq, h1⟩ := h
    rw [List.mem_singleton.mp hq] at h1
    exact h1
  | p :: q :: r, _ => by
    show 1 ≤ (p ++ ([10] ++ joinL [10] (q :: r))).length
    rw [List.length_append, List.length_append]
    have c : ([10] : List Nat).length = 1 := rfl
    omega
theorem text_of {ls : List Str} (h : ∀ p ∈ ls, LnOk p) (hl : ls.length ≤ 100) (hp : ls = [] ∨ ∃ p ∈ ls, 1 ≤ p.length) : TextOf (Txt.join nlS ls) ls := by
  rcases hp with e | hp
  · subst e
    exact .inl ⟨by decide +kernel, rfl⟩
  · have e : ls ≠ [] := fun z => by obtain ⟨p, hm, _⟩ := hp; rw [z] at hm; cases hm
    have tn : tl nlS = [10] := by decide +kernel
    have t : tl (Txt.join nlS ls) = joinL [10] (ls.map tl) := by rw [join_eq, tl_join, tn]
    have n : (Txt.join nlS ls).length = (joinL [10] (ls.map tl)).length := by rw [len_tl, t]
    have a := joinN_len (ls.map tl) fun p hp => by
      obtain ⟨q, hq, rfl⟩ := List.mem_map.mp hp
      rw [← len_tl]
      exact (h q hq).z
    have b := joinN_pos (ls.map tl) (by
      obtain ⟨p, hm, h1⟩ := hp
      exact ⟨tl p, List.mem_map.mpr ⟨p, hm, rfl⟩, by rw [← len_tl]; exact h1⟩)
    rw [List.length_map] at a
    refine .inr ⟨by omega, ?_, split_join tn (by decide +kernel) e fun p hp => (h p hp).n⟩
    exact Nat.le_trans (show (Txt.join nlS ls).length + 2 ≤ 11000 by omega) (by decide)
end
end
end H2
namespace H2
open PySem PySem.Spec PyProof.Rows L2 Hx Nd Dun
section
variable {P : Program} {w : World} {K : PySem.W.Frag} {mg : Str → Option Value} {base : Heap} {D : Addr}
/-! ### _law_bad -/
def poorB (pl : Pl) (wd : Int) (b : Str) : Bool := (rowOf b (os0 pl) wd).isNone && (!inV (.str b) blocksV && lnB b)
theorem bad_none {b : Str} {os : List Str} {wd : Int} (h : poorB (placeOf os) wd b = true) : rowOf b os wd = none ∧ LnOk b := by
  unfold poorB at h
  rw [Bool.and_eq_true, Bool.and_eq_true, Bool.not_eq_true'] at h
  refine ⟨?_, ln_of h.2.2⟩
  rw [row_pl h.2.1]
  exact Option.isNone_iff_eq_none.mp h.1
def poorV (pl : Pl) (wd : Int) : V → Bool
  | .str b => poorB pl wd b
  | _ => false
theorem ix_bad {H : Hp} {l : Addr} {xs : List V} {r : Int} {Q : VK} {pl : Pl} {wd : Int} (e : H l = some (.lst xs)) (hB : xs.all (poorV pl wd) = true) (h0 : 0 ≤ r) (h1 : r < (xs.length : Int)) (q : ∀ b, poorB pl wd b = true → Q (.str b) H) : rIxL K (.ref l) (.int r) H Q := by
  have hj : r.toNat < xs.length := by omega
  have hv := List.all_eq_true.mp hB _ (List.getElem_mem hj)
  cases hx : xs[r.toNat] with
  | str b =>
    rw [hx] at hv
    exact ⟨l, xs, r, .str b, rfl, rfl, SqL.of e, at_of (j := r.toNat) (by omega) (by rw [List.getElem?_eq_getElem hj, hx]), q b hv⟩
  | _ => rw [hx] at hv; cases hv
def spBad : Sp := fun vs H Q _ => ∃ (p : Addr) (n : Nat) (pl : Pl) (wd : Int), vs = [.ref p, .str pl.str, .int wd] ∧ Bag H p n ∧ n ≤ 900000 ∧ Wd wd ∧ ∀ H' b, But p H H' → Bag H' p (n + 1) → poorB pl wd b = true → Q (.str b) H'
end
end H2
namespace H2
open PySem PySem.Spec PyProof.Rows L2 Hx Nd Dun
section
variable {P : Program} {w : World} {K : PySem.W.Frag} {mg : Str → Option Value} {base : Heap} {D : Addr}
/-! ### _law_bad, run -/
def poorA : List (List Nat) :=
  [[], [32], [84, 101, 108, 108], [32, 116, 101, 108, 108], [116, 101, 108, 108, 32], [103, 114, 97, 98, 32, 32, 108, 97, 115, 116], [110, 111, 116, 101, 32, 32, 109, 97, 116, 101], [116, 111, 32, 32,
  115, 116, 97, 114, 116], [105, 102], [105, 102, 32], [100, 111, 119, 110], [117, 112], [101, 110, 100, 32], [105, 102, 32, 97, 116, 32, 60, 32, 97, 116], [105, 102, 32, 97, 116, 32, 62, 32, 104, 97,
  110, 100], [105, 102, 32, 97, 116, 60, 104, 97, 110, 100], [105, 102, 32, 97, 116, 32, 60, 32, 104, 97, 110, 100, 32, 97, 110, 100], [105, 102, 32, 97, 110, 100, 32, 105, 110, 115, 105, 100, 101],
  [105, 102, 32, 110, 111, 116, 32, 110, 111, 116, 32, 105, 110, 115, 105, 100, 101], [105, 102, 32, 104, 97, 110, 100], [105, 102, 32, 105, 110, 115, 105, 100, 101, 32, 32, 97, 110, 100, 32, 105, 110,
  115, 105, 100, 101], [105, 102, 32, 98, 101, 108, 111, 119], [105, 102, 32, 98, 101, 108, 111, 119, 32, 116, 111, 112], [105, 102, 32, 97, 116, 32, 60, 32, 104, 97, 110, 100, 32, 60, 32, 109, 97, 116,
  101], [113, 117, 105, 116, 32, 110, 111, 119], [108, 97, 121, 32, 49], [112, 105, 99, 107, 32, 48], [112, 105, 99, 107, 32, 48, 49], [112, 105, 99, 107], [105, 102, 32, 110, 111, 116], [105, 102, 32,
  105, 110, 115, 105, 100, 101, 32, 111, 114, 32, 105, 110, 115, 105, 100, 101], [105, 102, 32, 104, 97, 110, 100, 32, 60], [73, 102, 32, 105, 110, 115, 105, 100, 101], [105, 102, 32, 110, 111, 116, 32,
  98, 101, 108, 111, 119, 32, 114, 111, 111, 116, 32, 97, 110, 100], [105, 102, 32, 97, 116, 32, 61, 32, 104, 97, 110, 100]]
def poorT : List (List Nat) :=
  [[103, 111], [112, 117, 108, 108], [115, 119, 97, 112], [112, 105, 99, 107, 32, 49], [110, 111, 116, 101, 32, 109, 97, 116, 101], [115, 116, 111, 112], [105, 102, 32, 104, 97, 115, 32, 49], [105, 102,
  32, 109, 97, 116, 101, 32, 60, 32, 97, 116], [105, 102, 32, 107, 105, 100, 32, 49, 32, 60, 32, 97, 116], [117, 112, 32, 104, 97, 115, 32, 49], [117, 112, 32, 107, 105, 100, 32, 49, 32, 60, 32, 97,
  116], [100, 111, 119, 110, 32, 104, 97, 115, 32, 48], [100, 111, 119, 110, 32, 103, 105, 118, 101, 110, 32, 60, 32, 97, 116], [117, 112, 32, 109, 97, 116, 101, 32, 60, 32, 109, 97, 116, 101], [100,
  111, 119, 110, 32, 107, 105, 100, 32, 49, 32, 60, 32, 107, 105, 100, 32, 49]]
def poorO : List (List Nat) :=
  [[116, 101, 108, 108], [103, 114, 97, 98], [108, 111, 110, 103, 101, 114], [115, 104, 111, 114, 116, 101, 114], [116, 114, 97, 100, 101], [116, 111, 32, 115, 116, 97, 114, 116], [103, 114, 97, 98, 32,
  108, 97, 115, 116], [100, 111, 119, 110, 32, 105, 110, 115, 105, 100, 101], [117, 112, 32, 105, 110, 115, 105, 100, 101]]
theorem split_is {x : Str} (LL : List (List Nat)) (h : TL.tl x = TL.joinL [124] LL) (hn : LL ≠ []) (hp : LL.all (fun p => !p.contains 124) = true) : Txt.split x "|" = LL.map mkS := by
  rw [split_list x "|" (by decide +kernel) (by decide +kernel)]
  have e : TL.tl ("|" : Str) = [124] := by decide +kernel
  rw [e, h, TL.spl_join hn (fun p hpp => by
    have := List.all_eq_true.mp hp p hpp
    simpa using this)]
theorem ok_bad {f g : Addr} (T0 : FT K mg "_law_bad" s_Lbad psBD f) (BT : BltT mg) (st : mg "str" = none) {gd : FuncData} (FD : Fun K "_law_draw" "_law_draw" sDraw g gd) (bD : Binds K gd ["_law_bag_here", "_law_limit"] []) (mD : mg "_law_draw" = some (.ref g)) :
    ∃ fd, Fun K "_law_bad" "_law_bad" s_Lbad f fd ∧ Binds K fd psBD [] ∧ FnOk P w K mg base CX0 2 f fd psBD spBad := by
  obtain ⟨fd, F, b⟩ := T0.fn
  have GD : FnOk P w K mg base CX0 1 g gd ["_law_bag_here", "_law_limit"] spDraw := ok_draw FD BT
  refine ⟨fd, F, b, F.ok c_Lbad (fun vs H Q E h => ?_) (fun cdv A outer s H vs Q E hr h => ?_)⟩
  · obtain ⟨p, n, pl, wd, rfl, _⟩ := h
    rfl
  obtain ⟨p, n, pl, wd, rfl, hb, hn, hw, q⟩ := h
  refine ⟨_, pss_cons (ps_set (i := 3) c_Lbad.nd rfl (Or.inl rfl) (pe_callTy call_str_int (by rfl) st (by decide +kernel) (pa_cons (pe_op op_add (pv 2) pe_int) pa_nil))) <| pss_cons (ps_set (i := 4) c_Lbad.nd rfl (Or.inl rfl) pe_str) <| pss_cons (ps_set (i := 4) c_Lbad.nd rfl (Or.inl rfl) (pe_op op_add_str (pv 4) pe_str)) <| pss_cons (ps_set (i := 4) c_Lbad.nd rfl (Or.inl rfl) (pe_op op_add_str (pv 4) pe_str)) <| pss_cons (ps_set (i := 4) c_Lbad.nd rfl (Or.inl rfl) (pe_op op_add_str (pv 4) pe_str)) <| pss_cons (ps_set (i := 5) c_Lbad.nd rfl (Or.inl rfl) (pe_split (pe_op op_add_str (pv 4) pe_str) pe_str)) <| pss_cons (ps_set (i := 5) c_Lbad.nd rfl (Or.inl rfl) (pe_op op_cat (pv 5) (pe_lst (pa_cons pe_str (pa_cons pe_str (pa_cons pe_str (pa_cons (pe_op op_add_str pe_str (pv 3)) pa_nil))))))) <| pss_cons (ps_if (pt_cmpR op_eq (pv 1) pe_str (nomark _))
      (pss_cons (ps_set (i := 4) c_Lbad.nd rfl (Or.inl rfl) pe_str) <| pss_cons (ps_set (i := 4) c_Lbad.nd rfl (Or.inl rfl) (pe_op op_add_str (pv 4) pe_str)) <| pss_cons (ps_set (i := 5) c_Lbad.nd rfl (Or.inl rfl) (pe_op op_cat (pv 5) (pe_split (pv 4) pe_str))) <| pss_one (ps_set (i := 5) c_Lbad.nd rfl (Or.inl rfl) (pe_op op_cat (pv 5) (pe_lst (pa_cons pe_str (pa_cons pe_str (pa_cons (pe_op op_add_str pe_str (pv 3)) (pa_cons (pe_op op_add_str (pe_op op_add_str pe_str (pv 3)) pe_str) pa_nil))))))))
      (pss_cons (ps_set (i := 4) c_Lbad.nd rfl (Or.inl rfl) pe_str) <| pss_cons (ps_set (i := 5) c_Lbad.nd rfl (Or.inl rfl) (pe_op op_cat (pv 5) (pe_split (pv 4) pe_str))) <| pss_one (ps_set (i := 5) c_Lbad.nd rfl (Or.inl rfl) (pe_op op_cat (pv 5) (pe_lst (pa_cons pe_str (pa_cons pe_str pa_nil))))))) <| pss_cons (ps_if (pt_cmpR op_eq (pv 1) pe_str (nomark _)) (pss_one (ps_set (i := 5) c_Lbad.nd rfl (Or.inl rfl) (pe_op op_cat (pv 5) (pe_lst (pa_cons pe_str (pa_cons pe_str (pa_cons pe_str (pa_cons pe_str (pa_cons pe_str pa_nil))))))))) pss_nil) <| pss_one (ps_ret (pe_ix ix_list (pv 5) (pe_call GD (hr.mono (by decide)) rfl mD FD.kp bD .nil pass0 (pa_cons (pv 0) (pa_cons (pe_callB call_len_seq (by rfl) BT.len PySem.boot_len (pa_cons (pv 5) pa_nil)) pa_nil))) (fun _ _ => rfl))), ?_⟩
  have hz : ∀ {m : Nat}, m ≤ 3000 → m ≤ sizeLine := fun h => Nat.le_trans h (by decide)
  have fin : ∀ (G : Hp) (l : Addr) (xs : List V), Same H G → G l = some (.lst xs) → xs.all (poorV pl wd) = true → 0 < xs.length → xs.length ≤ 1000 →
      spDraw [.ref p, .int (xs.length : Nat)] G (fun y H1 => rIxL K (.ref l) y H1 Q) E0 := fun G l xs sG e hB h0 h1 => by
    refine ⟨p, n, _, rfl, hb.keep sG, by omega, by omega, small16 (by omega) (by omega), fun r G2 r0 r1 bG uG => ?_⟩
    exact ix_bad (lst_but uG (bag_dk (hb.keep sG)) e) hB r0 r1 fun b hbad => q G2 b ((Hx.Same.but sG).trans uG) bG hbad
  refine ⟨_, rfl, _, _, rfl, rfl, _, rfl, by rcases hw with rfl | rfl | rfl <;> decide +kernel, ?_⟩
  refine ⟨_, rfl, _, _, rfl, rfl, (by (try simp only [len_app]); decide +kernel), ?_⟩
  refine ⟨_, rfl, _, _, rfl, rfl, (by (try simp only [len_app]); decide +kernel), ?_⟩
  refine ⟨_, rfl, _, _, rfl, rfl, (by (try simp only [len_app]); decide +kernel), ?_⟩
  refine ⟨_, rfl, _, _, rfl, rfl, (by (try simp only [len_app]); decide +kernel), ?_⟩
  refine ⟨⟨_, rfl⟩, _, _, rfl, rfl, by decide +kernel, (by (try simp only [len_app]); decide +kernel), fun l nl => ?_⟩
  generalize h1 : upd H l _ = G1
  have s1 : Same H G1 := h1 ▸ new_same nl
  have e1 := congrFun h1 l
  rw [upd_same, split_is poorA (by simp only [tl_app]; decide +kernel) (by decide) (by decide +kernel)] at e1
  refine ⟨_, rfl, _, rfl, _, _, rfl, rfl, by rcases hw with rfl | rfl | rfl <;> decide +kernel, (by show 4 ≤ sizeLine; decide), fun l1 n1 => ?_⟩
  generalize h2 : upd G1 l1 _ = G2
  have s2 : Same G1 G2 := h2 ▸ new_same n1
  have e2 := congrFun h2 l1
  rw [upd_same] at e2
  refine ⟨l, l1, _, _, rfl, rfl, s2 _ _ e1.symm, e2.symm, (by simp only [List.length_map, List.length_cons, List.length_nil, List.length_append]; decide +kernel), fun l2 n2 => ?_⟩
  generalize h3 : upd G2 l2 _ = G3
  have s3 : Same G2 G3 := h3 ▸ new_same n2
  have e3 := congrFun h3 l2
  rw [upd_same] at e3
  have S3 := (s1.trans s2).trans s3
  clear h1 h2 h3 e1 e2
  refine ⟨_, rfl, rfl, _, rfl, ?_⟩
  cases pl with
  | top =>
    refine iteBT (by decide +kernel) ?_
    refine ⟨_, rfl, _, _, rfl, rfl, (by (try simp only [len_app]); decide +kernel), ?_⟩
    refine ⟨_, rfl, _, rfl, ⟨_, rfl⟩, _, _, rfl, rfl, by decide +kernel, (by (try simp only [len_app]); decide +kernel), fun l4 n4 => ?_⟩
    generalize h4 : upd G3 l4 _ = G4
    have s4 : Same G3 G4 := h4 ▸ new_same n4
    have e4 := congrFun h4 l4
    rw [upd_same, split_is poorT (by simp only [tl_app]; decide +kernel) (by decide) (by decide +kernel)] at e4
    refine ⟨l2, l4, _, _, rfl, rfl, s4 _ _ e3.symm, e4.symm, (by simp only [List.length_map, List.length_cons, List.length_nil, List.length_append]; decide +kernel), fun l5 n5 => ?_⟩
    generalize h5 : upd G4 l5 _ = G5
    have s5 : Same G4 G5 := h5 ▸ new_same n5
    have e5 := congrFun h5 l5
    rw [upd_same] at e5
    refine ⟨_, rfl, _, rfl, _, _, rfl, rfl, by rcases hw with rfl | rfl | rfl <;> decide +kernel, _, rfl, _, _, rfl, rfl, by rcases hw with rfl | rfl | rfl <;> decide +kernel, _, _, rfl, rfl, by rcases hw with rfl | rfl | rfl <;> decide +kernel, (by show 4 ≤ sizeLine; decide), fun l6 n6 => ?_⟩
    generalize h6 : upd G5 l6 _ = G6
    have s6 : Same G5 G6 := h6 ▸ new_same n6
    have e6 := congrFun h6 l6
    rw [upd_same] at e6
    refine ⟨l5, l6, _, _, rfl, rfl, s6 _ _ e5.symm, e6.symm, (by simp only [List.length_map, List.length_cons, List.length_nil, List.length_append]; decide +kernel), fun l7 n7 => ?_⟩
    generalize h7 : upd G6 l7 _ = G7
    have s7 : Same G6 G7 := h7 ▸ new_same n7
    have e7 := congrFun h7 l7
    rw [upd_same] at e7
    refine ⟨_, rfl, rfl, _, rfl, iteBF (by decide +kernel) ?_⟩
    refine ⟨_, rfl, _, rfl, _, rfl, _, _, rfl, .inl (SqL.of e7.symm), ?_⟩
    refine fin G7 l7 _ (S3.trans (((s4.trans s5).trans s6).trans s7)) e7.symm ?_ ?_ ?_
    · rcases hw with rfl | rfl | rfl <;> decide +kernel
    · simp only [List.length_map, List.length_cons, List.length_nil, List.length_append]; decide +kernel
    · simp only [List.length_map, List.length_cons, List.length_nil, List.length_append]; decide +kernel
  | down =>
    refine iteBF (by decide +kernel) ?_
    refine ⟨_, rfl, _, rfl, ⟨_, rfl⟩, _, _, rfl, rfl, by decide +kernel, by decide +kernel, fun l4 n4 => ?_⟩
    generalize h4 : upd G3 l4 _ = G4
    have s4 : Same G3 G4 := h4 ▸ new_same n4
    have e4 := congrFun h4 l4
    rw [upd_same, split_is poorO (by decide +kernel) (by decide) (by decide +kernel)] at e4
    refine ⟨l2, l4, _, _, rfl, rfl, s4 _ _ e3.symm, e4.symm, (by simp only [List.length_map, List.length_cons, List.length_nil, List.length_append]; decide +kernel), fun l5 n5 => ?_⟩
    generalize h5 : upd G4 l5 _ = G5
    have s5 : Same G4 G5 := h5 ▸ new_same n5
    have e5 := congrFun h5 l5
    rw [upd_same] at e5
    refine ⟨_, rfl, (by show 2 ≤ sizeLine; decide), fun l6 n6 => ?_⟩
    generalize h6 : upd G5 l6 _ = G6
    have s6 : Same G5 G6 := h6 ▸ new_same n6
    have e6 := congrFun h6 l6
    rw [upd_same] at e6
    refine ⟨l5, l6, _, _, rfl, rfl, s6 _ _ e5.symm, e6.symm, (by simp only [List.length_map, List.length_cons, List.length_nil, List.length_append]; decide +kernel), fun l7 n7 => ?_⟩
    generalize h7 : upd G6 l7 _ = G7
    have s7 : Same G6 G7 := h7 ▸ new_same n7
    have e7 := congrFun h7 l7
    rw [upd_same] at e7
    refine ⟨_, rfl, rfl, _, rfl, iteBF (by decide +kernel) ?_⟩
    refine ⟨_, rfl, _, rfl, _, rfl, _, _, rfl, .inl (SqL.of e7.symm), ?_⟩
    refine fin G7 l7 _ (S3.trans (((s4.trans s5).trans s6).trans s7)) e7.symm ?_ ?_ ?_
    · rcases hw with rfl | rfl | rfl <;> decide +kernel
    · simp only [List.length_map, List.length_cons, List.length_nil, List.length_append]; decide +kernel
    · simp only [List.length_map, List.length_cons, List.length_nil, List.length_append]; decide +kernel
  | up =>
    refine iteBF (by decide +kernel) ?_
    refine ⟨_, rfl, _, rfl, ⟨_, rfl⟩, _, _, rfl, rfl, by decide +kernel, by decide +kernel, fun l4 n4 => ?_⟩
    generalize h4 : upd G3 l4 _ = G4
    have s4 : Same G3 G4 := h4 ▸ new_same n4
    have e4 := congrFun h4 l4
    rw [upd_same, split_is poorO (by decide +kernel) (by decide) (by decide +kernel)] at e4
    refine ⟨l2, l4, _, _, rfl, rfl, s4 _ _ e3.symm, e4.symm, (by simp only [List.length_map, List.length_cons, List.length_nil, List.length_append]; decide +kernel), fun l5 n5 => ?_⟩
    generalize h5 : upd G4 l5 _ = G5
    have s5 : Same G4 G5 := h5 ▸ new_same n5
    have e5 := congrFun h5 l5
    rw [upd_same] at e5
    refine ⟨_, rfl, (by show 2 ≤ sizeLine; decide), fun l6 n6 => ?_⟩
    generalize h6 : upd G5 l6 _ = G6
    have s6 : Same G5 G6 := h6 ▸ new_same n6
    have e6 := congrFun h6 l6
    rw [upd_same] at e6
    refine ⟨l5, l6, _, _, rfl, rfl, s6 _ _ e5.symm, e6.symm, (by simp only [List.length_map, List.length_cons, List.length_nil, List.length_append]; decide +kernel), fun l7 n7 => ?_⟩
    generalize h7 : upd G6 l7 _ = G7
    have s7 : Same G6 G7 := h7 ▸ new_same n7
    have e7 := congrFun h7 l7
    rw [upd_same] at e7
    refine ⟨_, rfl, rfl, _, rfl, iteBT (by decide +kernel) ?_⟩
    refine ⟨_, rfl, (by show 5 ≤ sizeLine; decide), fun l8 n8 => ?_⟩
    generalize h8 : upd G7 l8 _ = G8
    have s8 : Same G7 G8 := h8 ▸ new_same n8
    have e8 := congrFun h8 l8
    rw [upd_same] at e8
    refine ⟨l7, l8, _, _, rfl, rfl, s8 _ _ e7.symm, e8.symm, (by simp only [List.length_map, List.length_cons, List.length_nil, List.length_append]; decide +kernel), fun l9 n9 => ?_⟩
    generalize h9 : upd G8 l9 _ = G9
    have s9 : Same G8 G9 := h9 ▸ new_same n9
    have e9 := congrFun h9 l9
    rw [upd_same] at e9
    refine ⟨_, rfl, _, rfl, _, rfl, _, _, rfl, .inl (SqL.of e9.symm), ?_⟩
    refine fin G9 l9 _ (S3.trans (((((s4.trans s5).trans s6).trans s7).trans s8).trans s9)) e9.symm ?_ ?_ ?_
    · rcases hw with rfl | rfl | rfl <;> decide +kernel
    · simp only [List.length_map, List.length_cons, List.length_nil, List.length_append]; decide +kernel
    · simp only [List.length_map, List.length_cons, List.length_nil, List.length_append]; decide +kernel
end
end H2
namespace H2
open PySem PySem.Spec PyProof.Rows L2 Hx Nd Dun
section
variable {P : Program} {w : World} {K : PySem.W.Frag} {mg : Str → Option Value} {base : Heap} {D : Addr}
/-! ### the law -/
theorem sIx_some (n d k : Nat) : HT.sIx n d (some (k : Int)) = min k n := HT.sIx_nat n d k
theorem cut_to (xs : List V) (k : Nat) : cutV xs none (some (k : Int)) = xs.take k := by
  unfold cutV
  rw [HT.sIx_none, List.drop_zero, Nat.sub_zero, sIx_some]
  by_cases h : k ≤ xs.length
  · rw [Nat.min_eq_left h]
  · rw [Nat.min_eq_right (by omega), List.take_length, List.take_of_length_le (by omega)]
theorem cut_from (xs : List V) (k : Nat) (h : k ≤ xs.length) : cutV xs (some (k : Int)) none = xs.drop k := by
  unfold cutV
  rw [HT.sIx_none, sIx_some, Nat.min_eq_left h]
  exact List.take_of_length_le (by rw [List.length_drop]; omega)
theorem Rw3.take {H : Hp} : ∀ {vs : List V} {ts : List L3} (n : Nat), Rw3 K H vs ts → Rw3 K H (vs.take n) (ts.take n)
  | _, _, 0, _ => by rw [List.take_zero, List.take_zero]; exact .nil
  | _, _, _ + 1, .nil => .nil
  | _, _, n + 1, .cons a r => .cons a (r.take n)
theorem Rw3.get {H : Hp} : ∀ {vs : List V} {ts : List L3} {i : Nat} {x : Str} {pl : Pl} {d : Nat}, Rw3 K H vs ts → ts[i]? = some (x, pl, d) → ∃ r, vs[i]? = some (.ref r) ∧ SqT K H r [.str x, .str pl.str, .int (d : Int)]
  | _, _, 0, _, _, _, .cons a _, h => by
    rw [List.getElem?_cons_zero] at h
    cases h
    exact ⟨_, rfl, a⟩
  | _, _, i + 1, _, _, _, .cons _ r, h => by
    rw [List.getElem?_cons_succ] at h
    obtain ⟨q, e, n⟩ := r.get h
    exact ⟨q, by rw [List.getElem?_cons_succ]; exact e, n⟩
def rowD (t : L3) : PyData := .tuple [.str t.1, .str t.2.1.str, .int (t.2.2 : Int)]
theorem dp_rows {H : Hp} : ∀ {vs : List V} {ts : List L3}, Rw3 K H vs ts → DpAll K H vs (ts.map rowD)
  | _, _, .nil => .nil
  | _, _, .cons a r => .cons (.tup a (.cons (.str _) (.cons (.str _) (.cons (.int _) .nil)))) (dp_rows r)
theorem pl_strOk (pl : Pl) : PyData.strOk pl.str = true := by cases pl <;> decide +kernel
theorem shaped_rows : ∀ (ts : List L3), (∀ t ∈ ts, PyData.strOk t.1 = true) → SeqAt.shaped (.list (ts.map rowD)) = true := by
  intro ts h
  have key : PyData.canLayAll0 (ts.map rowD) = true ∧ PyData.depthAll (ts.map rowD) ≤ 1 := by
    induction ts with
    | nil => exact ⟨rfl, Nat.zero_le _⟩
    | cons t r ih =>
      obtain ⟨h1, h2⟩ := ih fun y hy => h y (List.mem_cons_of_mem _ hy)
      have ht := h t List.mem_cons_self
      have hp := pl_strOk t.2.1
      refine ⟨?_, ?_⟩
      · rw [List.map_cons, PyData.canLayAll0, h1, Bool.and_true]
        unfold rowD
        simp [PyData.canLay0, PyData.canLayAll0, ht, hp]
      · rw [List.map_cons, PyData.depthAll]
        have : (rowD t).depth ≤ 1 := by
          unfold rowD
          simp [PyData.depth, PyData.depthAll]
        omega
  unfold SeqAt.shaped
  rw [Bool.and_eq_true]
  refine ⟨by rw [PyData.canLay0]; exact key.1, decide_eq_true ?_⟩
  rw [PyData.depth]
  have := key.2
  omega
theorem but_tups {p : Addr} {H H' : Hp} (h : But p H H') (hp : ∃ kvs, H p = some (.dK kvs)) : Tups H H' := fun b xs r => by
  obtain ⟨kvs, hp⟩ := hp
  rcases r with r | ⟨ob, r⟩
  · exact .inl (h _ _ (fun e => by rw [e, hp] at r; cases r) r)
  · exact .inr ⟨ob, h _ _ (fun e => by rw [e, hp] at r; cases r) r⟩
/-- the lists of the law -/
structure LW (K : PySem.W.Frag) (G : Hp) (p tl ll : Addr) (ts : List L3) (n : Nat) : Prop where
  b : Bag G p n
  t : ∃ rs, G tl = some (.lst rs) ∧ Rw3 K G rs ts
  l : G ll = some (.lst ((lns ts).map V.str))
theorem LW.keep {G G' : Hp} {p tl ll : Addr} {ts : List L3} {n : Nat} (h : LW K G p tl ll ts n) (e : Same G G') : LW K G' p tl ll ts n := by
  obtain ⟨b, ⟨rs, t1, t2⟩, l⟩ := h
  exact ⟨b.keep e, ⟨rs, e _ _ t1, t2.keep (Tups.of e)⟩, e _ _ l⟩
theorem LW.draw {G G' : Hp} {p tl ll : Addr} {ts : List L3} {n n' : Nat} (h : LW K G p tl ll ts n) (e : But p G G') (b' : Bag G' p n') : LW K G' p tl ll ts n' := by
  obtain ⟨b, ⟨rs, t1, t2⟩, l⟩ := h
  exact ⟨b', ⟨rs, lst_but e (bag_dk b) t1, t2.keep (but_tups e (bag_dk b))⟩, lst_but e (bag_dk b) l⟩
def kdL : List Str := ["put", "take", "out", "tree"]
def spLaw (K : PySem.W.Frag) : Sp := fun vs H Q _ => ∃ (a : Addr) (ns : List Int), vs = [.ref a] ∧ SqL K H a (ns.map V.int) ∧ ns.length ≤ 63 ∧ ∀ H', Q (.bl true) H'
def lawW (K : PySem.W.Frag) (a p : Addr) (wd : Int) (kd : Str) (m : Nat) (σ : L2.St) (G : Hp) : Prop := ∃ (tl : Addr) (rs : List V) (ts : List L3) (ps : List (Str × Pl)) (e : List Str) (n : Nat), σ = [some (.ref a), some (.ref p), some (.int wd), some (.str kd), some (.ref tl), none, none, none, none, none, none, none, none] ∧ Bag G p n ∧ n ≤ 700000 ∧ G tl = some (.lst rs) ∧ Rw3 K G rs ts ∧ Dr wd [] ts ps e ∧ ts.length ≤ 40 ∧ ifsN ps ≤ 6 ∧ m = ts.length
theorem Rw3.last {H : Hp} : ∀ {ts : List L3} {vs : List V} {x : Str} {pl : Pl} {d : Nat}, Rw3 K H vs (ts ++ [(x, pl, d)]) → ∃ us r, vs = us ++ [.ref r] ∧ Rw3 K H us ts ∧ SqT K H r [.str x, .str pl.str, .int (d : Int)]
  | [], _, _, _, _, h => by
    cases h with
    | cons a r => cases r; exact ⟨[], _, rfl, .nil, a⟩
  | t :: ts, _, _, _, _, h => by
    cases h with
    | cons a r =>
      obtain ⟨us, q, e, h1, h2⟩ := Rw3.last r
      exact ⟨_ :: us, q, by rw [e]; rfl, .cons a h1, h2⟩
theorem eqv_ne {ds : List PyData} (h : ds ≠ []) : PyData.eqv (.list ds) (.list []) = false := by
  cases ds with
  | nil => exact absurd rfl h
  | cons d r => simp [PyData.eqv, PyData.eqvAll]
def isThree : Nat ⊕ List (Str × Pl) → Bool
  | .inl k => k == 3
  | .inr _ => false
theorem three_of {o : Nat ⊕ List (Str × Pl)} (h : isThree o = true) : o = .inl 3 := by
  cases o with
  | inl k => rw [show k = 3 from eq_of_beq h]
  | inr z => cases h
structure KindT (K : PySem.W.Frag) : Prop where
  k : ∀ kd ∈ kdL, ∀ H, IsV K H "str" kindsV (.str kd) true
  w : ∀ wd, Wd wd → ∀ H, IsV K H "int" widthsV (.int wd) true
theorem ok_law {fL gB gD gN gO gT gP : Addr} {fd dB dD dN dO dT dP : FuncData} (F : Fun K "law" "law" s_law fL fd) (BT : BltT mg) (rng : mg "range" = none) (KT : KindT K)
    (FB : Fun K "_law_bag" "_law_bag" sBag gB dB) (bB : Binds K dB ["_law_script"] []) (mB : mg "_law_bag" = some (.ref gB))
    (FD : Fun K "_law_draw" "_law_draw" sDraw gD dD) (bD : Binds K dD ["_law_bag_here", "_law_limit"] []) (mD : mg "_law_draw" = some (.ref gD))
    (FN : Fun K "_law_lines" "_law_lines" s_Llines gN dN) (bN : Binds K dN psLN []) (mN : mg "_law_lines" = some (.ref gN)) (GN : FnOk P w K mg base CX0 8 gN dN psLN (spLL K 5))
    (FO : Fun K "_law_open" "_law_open" s_Lopen gO dO) (bO : Binds K dO ["_law_row"] []) (mO : mg "_law_open" = some (.ref gO)) (GO : FnOk P w K mg base CX0 1 gO dO ["_law_row"] (spOpen K))
    (FT' : Fun K "_law_told" "_law_told" s_Ltold gT dT) (bT : Binds K dT psTD []) (mT : mg "_law_told" = some (.ref gT)) (GT : FnOk P w K mg base CX0 12 gT dT psTD (spToldX K))
    (FP : Fun K "_law_bad" "_law_bad" s_Lbad gP dP) (bP : Binds K dP psBD []) (mP : mg "_law_bad" = some (.ref gP)) (GP : FnOk P w K mg base CX0 2 gP dP psBD spBad) :
    FnOk P w K mg base CX0 13 fL fd ["_law_script"] (spLaw K) := by
  have GB : FnOk P w K mg base CX0 1 gB dB ["_law_script"] (spBag K) := ok_bag FB BT
  have GD : FnOk P w K mg base CX0 1 gD dD ["_law_bag_here", "_law_limit"] spDraw := ok_draw FD BT
  refine F.ok c_law (fun vs H Q E h => ?_) (fun cdv A outer s H vs Q E hr h => ?_)
  · obtain ⟨a, ns, rfl, _⟩ := h
    rfl
  obtain ⟨a, ns, rfl, hS, hlen, q⟩ := h
  have hr1 : Room 1 _ := hr.mono (by decide)
  have hr2 : Room 2 _ := hr.mono (by decide)
  have hr8 : Room 8 _ := hr.mono (by decide)
  refine ⟨_, pss_cons (ps_set (i := 1) c_law.nd rfl (Or.inl rfl) (pe_call GB hr1 rfl mB FB.kp bB .nil pass0 (pa_cons (pv 0) pa_nil))) <| pss_cons (ps_par (i := 2) (j := 3) rfl c_law.nd rfl rfl (by decide) rfl rfl (pa_cons (pe_op op_add pe_int (pe_call GD hr1 rfl mD FD.kp bD .nil pass0 (pa_cons (pv 1) (pa_cons pe_int pa_nil)))) (pa_cons (pe_ix ix_list (pe_lst (pa_cons pe_str (pa_cons pe_str (pa_cons pe_str (pa_cons pe_str pa_nil))))) (pe_call GD hr1 rfl mD FD.kp bD .nil pass0 (pa_cons (pv 1) (pa_cons pe_int pa_nil))) (fun _ _ => rfl)) pa_nil)) (by rfl)) <| pss_cons (ps_set (i := 4) c_law.nd rfl (Or.inl rfl) (pe_slice sl_list (pe_call GN hr8 rfl mN FN.kp bN .nil pass0 (pa_cons (pv 1) (pa_cons pe_str (pa_cons pe_int (pa_cons (pv 2) (pa_cons (pe_listRg rfl rfl BT.list (prg_1 rfl rng pe_int)) pa_nil)))))) po_none (po_some pe_int))) <| Evl.pss_cut (ps_while PassesOwn.never (PW.pt (pw_and (pt_cmpR (op_neD hr1.units) (pv 4) (pe_lst pa_nil) (nomark _)) (pw_and1 (pt_cmpR op_gt (pe_call GO hr1 rfl mO FO.kp bO .nil pass0 (pa_cons (pe_ix ix_list (pv 4) (pe_un un_neg pe_int) (fun _ _ => rfl)) pa_nil)) pe_int (nomark _)))))
        (pss_one (ps_set (i := 4) c_law.nd rfl (Or.inl rfl) (pe_slice sl_list (pv 4) po_none (po_some (pe_un un_neg pe_int))))))
      (pss_cons (ps_setLc (i := 5) (own := [("_law_line", 6), ("_law_place", 7), ("_law_deep", 8)]) (g := gTup K 3 (gCons (gName 6) (gCons (gName 7) (gCons (gName 8) gNil)))) (tt := tYes) rfl c_law.nd rfl rfl (sw_true rfl rfl rfl (by decide +kernel)) (pi_list (pv 4)) (blkOk_by (own := [("_law_line", 6), ("_law_place", 7), ("_law_deep", 8)]) (N := n_law) (sc := defScope s_law) (by decide +kernel))
          (fun _ _ _ _ _ => pg_tup rfl (pgs_cons (pg_name (i := 6) c_law.nd rfl (Or.inl rfl)) (pgs_cons (pg_name (i := 7) c_law.nd rfl (Or.inl rfl)) (pgs_cons (pg_name (i := 8) c_law.nd rfl (Or.inl rfl)) pgs_nil)))) (fun _ _ _ _ _ => pts_nil) (fun _ _ _ _ _ => pv 6)) <| pss_cons (ps_if (pt_cmpR op_ne (pe_call GT hr rfl mT FT'.kp bT .nil pass0 (pa_cons (pv 3) (pa_cons (pv 2) (pa_cons (pv 5) pa_nil)))) pe_int (nomark _)) (pss_one ps_never) pss_nil) <| pss_cons (ps_for PassesOwn.never rfl (pi_range1 rfl rng (pa_cons pe_int pa_nil)) (pg_name (i := 9) c_law.nd rfl (Or.inl rfl))
        (pss_cons (ps_set (i := 10) c_law.nd rfl (Or.inl rfl) (pe_call GD hr1 rfl mD FD.kp bD .nil pass0 (pa_cons (pv 1) (pa_cons (pe_op op_add (pe_callB call_len_seq (by rfl) BT.len PySem.boot_len (pa_cons (pv 5) pa_nil)) pe_int) pa_nil)))) <| Evl.pss_cut (ps_set (i := 7) c_law.nd rfl (Or.inl rfl) (pe_ifExp (pt_cmpR op_eq (pv 10) (pe_callB call_len_seq (by rfl) BT.len PySem.boot_len (pa_cons (pv 5) pa_nil)) (nomark _)) pe_str (pe_ix ix_tup (pe_ix ix_list (pv 4) (pv 10) (fun _ _ => rfl)) pe_int (fun _ _ => rfl))))
        (pss_cons (ps_set (i := 11) c_law.nd rfl (Or.inl rfl) (pe_call GP hr2 rfl mP FP.kp bP .nil pass0 (pa_cons (pv 1) (pa_cons (pv 7) (pa_cons (pv 2) pa_nil))))) <| pss_cons (ps_if (pt_cmpR op_ne (pe_call GT hr rfl mT FT'.kp bT .nil pass0 (pa_cons (pv 3) (pa_cons (pv 2) (pa_cons (pe_op op_cat (pe_op op_cat (pe_op op_cat (pe_slice sl_list (pv 5) po_none (po_some (pv 10))) (pe_lst (pa_cons (pv 11) pa_nil))) (pe_slice sl_list (pv 5) (po_some (pv 10)) po_none)) (pe_lst (pa_cons pe_str pa_nil))) pa_nil)))) (pe_op op_add (pv 10) pe_int) (nomark _)) (pss_one ps_never) pss_nil) <| Evl.pss_cut (ps_set (i := 8) c_law.nd rfl (Or.inl rfl) (pe_ifExp (pt_cmpR op_eq (pv 10) (pe_callB call_len_seq (by rfl) BT.len PySem.boot_len (pa_cons (pv 5) pa_nil)) (nomark _)) pe_int (pe_ix ix_tup (pe_ix ix_list (pv 4) (pv 10) (fun _ _ => rfl)) pe_int (fun _ _ => rfl))))
        (Evl.pss_cut (ps_if (PW.pt (pw_and (pt_cmpR op_gt (pv 8) pe_int (nomark _)) (pw_and1 (pt_cmpR op_ne (pe_call GT hr rfl mT FT'.kp bT .nil pass0 (pa_cons (pv 3) (pa_cons (pv 2) (pa_cons (pe_slice sl_list (pv 5) po_none (po_some (pv 10))) pa_nil)))) (pe_op op_add (pv 10) pe_int) (nomark _))))) (pss_one ps_never) pss_nil)
        (pss_cons (ps_set (i := 12) c_law.nd rfl (Or.inl rfl) (pe_op op_cat (pe_op op_cat (pe_slice sl_list (pv 5) po_none (po_some (pv 10))) (pe_lst (pa_cons (pe_ix ix_list (pe_lst (pa_cons pe_str (pa_cons pe_str pa_nil))) (pe_call GD hr1 rfl mD FD.kp bD .nil pass0 (pa_cons (pv 1) (pa_cons pe_int pa_nil))) (fun _ _ => rfl)) pa_nil))) (pe_slice sl_list (pv 5) (po_some (pv 10)) po_none))) <| Evl.pss_cut (ps_if (PW.pt (pw_and (pt_cmpR op_eq (pv 8) pe_int (nomark _)) (pw_and1 (pt_cmpR op_ne (pe_call GT hr rfl mT FT'.kp bT .nil pass0 (pa_cons (pv 3) (pa_cons (pv 2) (pa_cons (pv 12) pa_nil)))) (pe_op op_add (pv 10) pe_int) (nomark _))))) (pss_one ps_never) pss_nil)
        (pss_cons (ps_set (i := 12) c_law.nd rfl (Or.inl rfl) (pe_op op_cat (pe_op op_cat (pe_slice sl_list (pv 5) po_none (po_some (pv 10))) (pe_lst (pa_cons pe_str pa_nil))) (pe_slice sl_list (pv 5) (po_some (pv 10)) po_none))) <| pss_one (ps_if (PW.pt (pw_and (pt_cmpR op_lt (pv 10) (pe_callB call_len_seq (by rfl) BT.len PySem.boot_len (pa_cons (pv 5) pa_nil)) (nomark _)) (pw_and (pt_cmpR op_eq (pe_ix ix_list (pv 5) (pv 10) (fun _ _ => rfl)) pe_str (nomark _)) (pw_and1 (pt_cmpR op_ne (pe_call GT hr rfl mT FT'.kp bT .nil pass0 (pa_cons (pv 3) (pa_cons (pv 2) (pa_cons (pv 12) pa_nil)))) (pe_op op_add (pv 10) pe_int) (nomark _)))))) (pss_one ps_never) pss_nil))))))) <| pss_one (ps_ret (pe_cmpR op_eq (pe_call GT hr rfl mT FT'.kp bT .nil pass0 (pa_cons (pv 3) (pa_cons (pv 2) (pa_cons (pe_lst (pa_cons pe_str (pa_cons pe_str (pa_cons pe_str (pa_cons pe_str pa_nil))))) pa_nil)))) pe_int (nomark _)))), ?_⟩
  refine ⟨_, rfl, a, ns, rfl, hS, hlen, fun p H0 np s0 b0 => ?_⟩
  refine ⟨_, rfl, p, 0, 3, rfl, b0, by omega, by decide, small16 (by decide) (by decide), fun r1 G1 a0 a1 bG1 u1 => ⟨_, _, rfl, rfl, ?_⟩⟩
  refine ⟨(by show 4 ≤ sizeLine; decide), fun lk nlk => ?_⟩
  have sk := new_same (o := .lst (kdL.map V.str)) nlk
  refine ⟨_, rfl, p, 1, 4, rfl, bG1.keep sk, by omega, by decide, small16 (by decide) (by decide), fun r2 G2 c0 c1 bG2 u2 => ?_⟩
  have elk : G2 lk = some (.lst (kdL.map V.str)) := lst_but u2 (bag_dk (bG1.keep sk)) upd_same
  refine pick_str elk c0 c1 fun hjk => ?_
  obtain ⟨kd, hkd⟩ : ∃ kd, kd = kdL[r2.toNat] := ⟨_, rfl⟩
  have hkm : kd ∈ kdL := by rw [hkd]; exact List.getElem_mem hjk
  rw [← hkd]
  obtain ⟨wd, hwd⟩ : ∃ wd, wd = 2 + r1 := ⟨_, rfl⟩
  have hw : Wd wd := by
    have : r1 = 0 ∨ r1 = 1 ∨ r1 = 2 := by omega
    rcases this with e | e | e <;> rw [hwd, e]
    · exact .inl rfl
    · exact .inr (.inl rfl)
    · exact .inr (.inr rfl)
  refine ⟨.int wd, .str kd, by rw [hwd], ?_⟩
  refine ⟨_, rfl, _, rfl, 6, rfl, ⟨by decide, by decide, by decide, by decide, by decide⟩, fun lft nlft => ?_⟩
  have sl := new_same (o := .lst (rgV 0 6)) nlft
  obtain ⟨l, bl0⟩ := id bG2
  have bl1 : BagL G2 p l 2 := bl0
  have bl := bl1.keep sl
  have hlft : lft ≠ l := fun e => by
    obtain ⟨ns1, i1, dg1, fd1, _, x1, _⟩ := bl1
    rw [e, x1] at nlft
    cases nlft
  refine ⟨p, l, lft, 2, .top, wd, [], [0, 1, 2, 3, 4, 5], rfl, bl, upd_same, by decide, hlft, rfl, rfl, fun _ => by decide, hw, by decide, fun H' r rs ts ps n' k' ux bl' hn' hyl hk er nr hR hD hl => ?_⟩
  have hn7 : n' ≤ 700000 := Nat.le_trans hn' (by decide)
  have hif : ifsN ps ≤ 6 := by have : ([0, 1, 2, 3, 4, 5] : List Int).length = 6 := rfl; omega
  refine ⟨40, rfl, r, rs, rfl, SqL.of er, fun tl ntl => ?_⟩
  obtain ⟨e40, d40, _⟩ := hD.cut (min 40 ts.length) (Nat.min_le_right _ _)
  have etk : ts.take (min 40 ts.length) = ts.take 40 := by
    by_cases h : 40 ≤ ts.length
    · rw [Nat.min_eq_left h]
    · rw [Nat.min_eq_right (by omega), List.take_length, List.take_of_length_le (by omega)]
  rw [etk] at d40
  have sT := new_same (o := .lst (cutV rs none (some 40))) ntl
  refine ⟨fun σ G => ∃ (tl : Addr) (rs : List V) (ts : List L3) (ps : List (Str × Pl)) (n : Nat), σ = [some (.ref a), some (.ref p), some (.int wd), some (.str kd), some (.ref tl), none, none, none, none, none, none, none, none] ∧ Bag G p n ∧ n ≤ 700000 ∧ G tl = some (.lst rs) ∧ Rw3 K G rs ts ∧ Dr wd [] ts ps [] ∧ ts.length ≤ 40 ∧ ifsN ps ≤ 6, ?_, ?_⟩
  · refine ⟨lawW K a p wd kd,
      ⟨_, tl, _, ts.take 40, _, e40, n', rfl, bl'.b.keep sT, hn7, upd_same, by
        have hcut : cutV rs none (some 40) = rs.take 40 := cut_to rs 40
        have z := (hR.keep (Tups.of sT)).take 40
        rw [hcut] at z ⊢
        exact z, d40, by rw [List.length_take]; omega, Nat.le_trans (ifsN_take ps _) hif, rfl⟩, ?_⟩
    rintro m σ G ⟨tl, rs, ts, ps, e, n, rfl, bG, hn, etl, hR, hD, hl, hif, rfl⟩
    have hok := hD.ok
    refine ⟨_, rfl, Nat.zero_le _, fun e0 ne0 => ⟨.list (ts.map rowD), .list [], .lst (SqL.of ((new_same ne0) _ _ etl)) (dp_rows (hR.keep (Tups.of (new_same ne0)))), .lst (SqL.of upd_same) .nil, shaped_rows ts fun t ht => (hok t ht).2.1, by decide +kernel, _, rfl, ?_⟩⟩
    have s1 := new_same (o := .lst []) ne0
    generalize upd G e0 (.lst []) = G' at s1
    have hlast : ts = [] ∨ ∃ t0 x pl d, ts = t0 ++ [(x, pl, d)] := by
      by_cases hz : ts = []
      · exact .inl hz
      · exact .inr ⟨ts.dropLast, (ts.getLast hz).1, (ts.getLast hz).2.1, (ts.getLast hz).2.2, (List.dropLast_concat_getLast hz).symm⟩
    rcases hlast with rfl | ⟨t0, x, pl, d, rfl⟩
    · refine iteF (iteF ?_)
      cases hD
      exact ⟨tl, rs, [], [], n, rfl, bG.keep s1, hn, s1 _ _ etl, hR.keep (Tups.of s1), .nil _, Nat.zero_le _, Nat.zero_le _⟩
    · refine iteBT (by rw [eqv_ne (by simp)]; rfl) ?_
      obtain ⟨us, r, rfl, hR0, hr3⟩ := hR.last
      have hok2 := hok (x, pl, d) (List.mem_append_right _ List.mem_cons_self)
      obtain ⟨hopen, m, hD0⟩ := hD.last
      have bG' := bG.keep s1
      have etl' := s1 _ _ etl
      refine ⟨_, rfl, _, rfl, tl, _, _, _, rfl, rfl, SqL.of etl', atI_last _ _, r, x, _, _, rfl, sqt_same s1 hr3, Nat.le_trans (Nat.add_le_add_right hok2.1.z 2) (by decide), split_ne x, fun G2 s2 => ?_⟩
      refine ⟨_, _, rfl, rfl, _, rfl, iteB (fun h => ?_) (fun h => ?_)⟩
      · refine ⟨lawW K a p wd kd t0.length, fun σ' G3 z => ⟨t0.length, by rw [List.length_append]; exact Nat.lt_succ_self _, z⟩, ?_⟩
        refine ⟨_, rfl, _, rfl, _, rfl, tl, _, rfl, SqL.of (s2 _ _ etl'), fun c nc => ?_⟩
        have sc := new_same (o := .lst (cutV (us ++ [.ref r]) none (some (-1)))) nc
        have hcut : cutV (us ++ [V.ref r]) none (some (-1)) = us := by rw [cut_last, List.dropLast_concat]
        refine ⟨c, us, t0, _, m, n, rfl, (bG'.keep s2).keep sc, hn, by rw [upd_same, hcut], hR0.keep ((Tups.of s1).trans ((Tups.of s2).trans (Tups.of sc))), hD0, by rw [List.length_append] at hl; omega, Nat.le_trans (ifsN_take ps _) hif, rfl⟩
      · have he : e = [] := by
          have h' : decide (openOf x (d : Int) > 0) = false := h
          rw [hopen] at h'
          have := of_decide_eq_false h'
          cases e with
          | nil => rfl
          | cons z r => rw [List.length_cons] at this; omega
        subst he
        exact ⟨tl, _, _, ps, n, rfl, bG'.keep s2, hn, s2 _ _ etl', hR.keep ((Tups.of s1).trans (Tups.of s2)), hD, hl, hif⟩
  rintro σ G ⟨tl, rs, ts, ps, n, rfl, bG, hn, etl, hR, hD, hl, hif⟩
  have hok := hD.ok
  have htel : ∀ (G : Hp) (la : Addr) (ls : List Str) (k : Nat) (Q' : VK), G la = some (.lst (ls.map V.str)) → (∀ y ∈ ls, LnOk y) → ls.length ≤ 60 → (∃ y ∈ ls, 1 ≤ y.length) → linesOf ls wd = .inl k → (∀ G', Same G G' → Q' (.int (k : Int)) G') → spToldX K [.str kd, .int wd, .ref la] G Q' E0 :=
    fun G la ls k Q' e h h60 hp hlo q' => ⟨kd, wd, la, ls, rfl, e, text_of h (by omega) (.inr hp), KT.k kd hkm, KT.w wd hw, h60, h, hw, by rw [hlo]; exact q'⟩
  have hlen0 : (lns ts).length = ts.length := List.length_map _
  refine ⟨_, rfl, tl, rfl, ⟨_, SqL.of etl⟩, fun L nL => lc_list (K := K) (a := tl) (xs := rs) (fun i G' => Same G G' ∧ G' L = some (.lst ((lns (ts.take i)).map V.str))) ⟨new_same nL, upd_same⟩ ?_ ?_ ?_⟩
  · rintro i G' _ ⟨sG, _⟩
    exact SqL.of (sG _ _ etl)
  · rintro i v G' hi ⟨sG, eL⟩
    have hlt : i < ts.length := by rw [← hR.len]; exact (List.getElem?_eq_some_iff.mp hi).1
    obtain ⟨t, ht⟩ : ∃ t, ts[i]? = some t := ⟨_, List.getElem?_eq_getElem hlt⟩
    obtain ⟨x, pl, d⟩ := t
    obtain ⟨r, hr3, hs3⟩ := hR.get ht
    rw [hr3] at hi
    cases hi
    refine ⟨r, _, rfl, sqt_same sG hs3, rfl, _, _, rfl, _, _, rfl, _, _, rfl, rfl, rfl, ?_⟩
    unfold tYes
    dsimp only
    rw [if_pos rfl]
    refine ⟨_, rfl, _, eL, ?_, same_out sG nL, ?_⟩
    · unfold lns
      rw [List.length_map, List.length_map, List.length_take]
      exact big (by omega)
    · rw [upd_same, List.take_add_one, ht]
      unfold lns
      rw [List.map_append, List.map_append]
      rfl
  rintro G1 ⟨sG1, eL⟩
  rw [hR.len, List.take_length] at eL
  have X0 : LW K G1 p tl L ts n := ⟨bG.keep sG1, ⟨rs, sG1 _ _ etl, hR.keep (Tups.of sG1)⟩, eL⟩
  have hlo := told_all hD
  have hokl : ∀ y ∈ lns ts, LnOk y := fun y hy => by
    obtain ⟨t, ht, rfl⟩ := List.mem_map.mp hy
    exact (hok t ht).1
  refine ⟨_, rfl, _, rfl, _, rfl, kd, wd, L, lns ts, rfl, eL, text_of hokl (by omega) ?_, KT.k kd hkm, KT.w wd hw, by omega, hokl, hw, ?_⟩
  · cases hts : ts with
    | nil => exact .inl rfl
    | cons t r =>
      refine .inr ⟨t.1, List.mem_cons_self, (hok t ?_).2.2⟩
      rw [hts]; exact List.mem_cons_self
  rw [hlo]
  refine ⟨by omega, fun G2 s2 => ⟨rfl, _, rfl, iteBF (by decide) ?_⟩⟩
  have X := X0.keep s2
  refine ⟨5, rfl, by decide, by decide, for_range (n := 5) (fun i σ G => ∃ (v6 v7 v8 v9 v10 v11 v12 : Option V) (n' : Nat), σ = [some (.ref a), some (.ref p), some (.int wd), some (.str kd), some (.ref tl), some (.ref L), v6, v7, v8, v9, v10, v11, v12] ∧ LW K G p tl L ts n' ∧ n' ≤ n + 3 * i)
    ⟨_, _, _, _, _, _, _, n, rfl, X, Nat.le_refl _⟩ ?_ ?_⟩
  · rintro i σ G hi ⟨v6, v7, v8, v9, v10, v11, v12, n', rfl, X, hn'⟩
    have hi5 : i < 5 := hi
    refine ⟨_, rfl, _, rfl, L, _, rfl, .inl (SqL.of X.l), _, _, rfl, rfl, ?_⟩
    rw [List.length_map, hlen0]
    refine ⟨p, n', _, rfl, X.b, by omega, by omega, small16 (by omega) (by omega), fun at0 Ga b0 b1 bGa uGa => ?_⟩
    obtain ⟨j, rfl⟩ := Int.eq_ofNat_of_zero_le b0
    have hj : j ≤ ts.length := by omega
    have Xa := X.draw uGa bGa
    clear X
    -- the blocks at the place
    obtain ⟨m, psj, Dj, hcase⟩ : ∃ m psj, Dr wd [] (ts.take j) psj m ∧ ((∃ x p, ts[j]? = some (x, placeOf m, m.length) ∧ rowOf x m wd = some p ∧ j < ts.length) ∨ (j = ts.length ∧ m = [])) := by
      by_cases hlt : j < ts.length
      · obtain ⟨t, ht⟩ : ∃ t, ts[j]? = some t := ⟨_, List.getElem?_eq_getElem hlt⟩
        obtain ⟨x, pl, d⟩ := t
        obtain ⟨m, p, h1, rfl, rfl, h4⟩ := hD.at ht
        exact ⟨m, _, h1, .inl ⟨x, p, ht, h4, hlt⟩⟩
      · have e : j = ts.length := by omega
        subst e
        obtain ⟨m, h1, h2⟩ := hD.cut ts.length (Nat.le_refl _)
        refine ⟨m, _, h1, .inr ⟨rfl, ?_⟩⟩
        rw [List.drop_length] at h2
        generalize ps.drop ts.length = qs at h2
        cases h2
        rfl
    have hokt : ∀ y ∈ lns (ts.take j), LnOk y := fun y hy => by
      obtain ⟨t, ht, rfl⟩ := List.mem_map.mp hy
      exact (hok t (List.mem_of_mem_take ht)).1
    have hokd : ∀ y ∈ lns (ts.drop j), LnOk y := fun y hy => by
      obtain ⟨t, ht, rfl⟩ := List.mem_map.mp hy
      exact (hok t (List.mem_of_mem_drop ht)).1
    have hlt1 : (lns (ts.take j)).length = j := by unfold lns; rw [List.length_map, List.length_take]; omega
    have hlt2 : (lns (ts.drop j)).length = ts.length - j := by unfold lns; rw [List.length_map, List.length_drop]
    have htk : ((lns ts).map V.str).take j = (lns (ts.take j)).map V.str := by unfold lns; rw [List.map_take, List.map_take]
    have hdk : ((lns ts).map V.str).drop j = (lns (ts.drop j)).map V.str := by unfold lns; rw [List.map_drop, List.map_drop]
    have hc1 : cutV ((lns ts).map V.str) none (some (j : Int)) = (lns (ts.take j)).map V.str := by rw [cut_to, htk]
    have hc2 : cutV ((lns ts).map V.str) (some (j : Int)) none = (lns (ts.drop j)).map V.str := by rw [cut_from _ _ (by rw [List.length_map, hlen0]; exact hj), hdk]
    have hsz : ∀ {n : Nat}, n ≤ 1000 → n ≤ sizeLine := fun h => Nat.le_trans h (by decide)
    have htl : (ts.take j).length = j := by rw [List.length_take]; omega
    -- the place
    refine ⟨fun σ G => σ = [some (.ref a), some (.ref p), some (.int wd), some (.str kd), some (.ref tl), some (.ref L), v6, some (.str (placeOf m).str), v8, some (.int (0 + (i : Int))), some (.int (j : Int)), v11, v12] ∧ LW K G p tl L ts (n' + 1), ?_, ?_⟩
    · refine ⟨_, rfl, _, rfl, L, _, rfl, .inl (SqL.of Xa.l), rfl, _, rfl, ?_⟩
      rw [List.length_map, hlen0]
      rcases hcase with ⟨x, p, ht, hrow, hlt⟩ | ⟨rfl, rfl⟩
      · refine iteBF (decide_eq_false fun z => by have := V.int.inj z; omega) ?_
        obtain ⟨rs, t1, t2⟩ := Xa.t
        obtain ⟨r, hr3, hs3⟩ := t2.get ht
        exact ⟨_, rfl, _, rfl, tl, _, _, _, rfl, rfl, SqL.of t1, at_of (j := j) rfl hr3, r, _, 1, _, rfl, rfl, hs3, at_of (j := 1) rfl rfl, rfl, Xa⟩
      · exact iteBT (decide_eq_true rfl) ⟨rfl, Xa⟩
    rintro σ G ⟨rfl, Xb⟩
    refine ⟨_, rfl, _, rfl, _, rfl, p, n' + 1, placeOf m, wd, rfl, Xb.b, by omega, hw, fun Gc bb uGc bGc hpoor => ?_⟩
    obtain ⟨hbn, hbl⟩ := bad_none hpoor
    have Xc := Xb.draw uGc bGc
    clear Xb Xa
    -- a line that is none
    refine ⟨_, rfl, _, rfl, _, rfl, _, rfl, _, rfl, L, _, rfl, SqL.of Xc.l, fun c1 n1 => ?_⟩
    generalize h1 : upd Gc c1 _ = K1
    have s1 : Same Gc K1 := h1 ▸ new_same n1
    have e1 := congrFun h1 c1
    rw [upd_same] at e1
    clear h1
    rw [hc1] at e1
    refine ⟨_, rfl, (by show 1 ≤ sizeLine; decide), fun c2 n2 => ?_⟩
    generalize h2 : upd K1 c2 _ = K2
    have s2 : Same K1 K2 := h2 ▸ new_same n2
    have e2 := congrFun h2 c2
    rw [upd_same] at e2
    clear h2
    refine ⟨c1, c2, _, _, rfl, rfl, s2 _ _ e1.symm, e2.symm, hsz (by rw [List.length_map, hlt1]; show j + 1 ≤ _; omega), fun c3 n3 => ?_⟩
    generalize h3 : upd K2 c3 _ = K3
    have s3 : Same K2 K3 := h3 ▸ new_same n3
    have e3 := congrFun h3 c3
    rw [upd_same] at e3
    clear h3
    have Xd := ((Xc.keep s1).keep s2).keep s3
    refine ⟨_, rfl, _, rfl, _, rfl, L, _, rfl, SqL.of Xd.l, fun c4 n4 => ?_⟩
    generalize h4 : upd K3 c4 _ = K4
    have s4 : Same K3 K4 := h4 ▸ new_same n4
    have e4 := congrFun h4 c4
    rw [upd_same] at e4
    clear h4
    rw [hc2] at e4
    refine ⟨c3, c4, _, _, rfl, rfl, s4 _ _ e3.symm, e4.symm, hsz (by rw [List.length_append, List.length_map, List.length_map, hlt1, hlt2]; show j + 1 + _ ≤ _; omega), fun c5 n5 => ?_⟩
    generalize h5 : upd K4 c5 _ = K5
    have s5 : Same K4 K5 := h5 ▸ new_same n5
    have e5 := congrFun h5 c5
    rw [upd_same] at e5
    clear h5
    refine ⟨(by show 1 ≤ sizeLine; decide), fun c6 n6 => ?_⟩
    generalize h6 : upd K5 c6 _ = K6
    have s6 : Same K5 K6 := h6 ▸ new_same n6
    have e6 := congrFun h6 c6
    rw [upd_same] at e6
    clear h6
    refine ⟨c5, c6, _, _, rfl, rfl, s6 _ _ e5.symm, e6.symm, hsz (by rw [List.length_append, List.length_append, List.length_map, List.length_map, hlt1, hlt2]; show j + 1 + _ + 1 ≤ _; omega), fun c7 n7 => ?_⟩
    generalize h7 : upd K6 c7 _ = K7
    have s7 : Same K6 K7 := h7 ▸ new_same n7
    have e7 := congrFun h7 c7
    rw [upd_same] at e7
    clear h7
    have Xe := (((Xd.keep s4).keep s5).keep s6).keep s7
    clear Xd Xc s1 s2 s3 s4 s5 s6 s7 e1 e2 e3 e4 e5 e6 n1 n2 n3 n4 n5 n6 n7
    have e7' : K7 c7 = some (.lst ((lns (ts.take j) ++ (bb :: (lns (ts.drop j) ++ [("Go" : Str)]))).map V.str)) := by
      rw [← e7]
      simp only [List.map_append, List.map_cons, List.map_nil, List.append_assoc, List.cons_append, List.nil_append]
    have hgo : LnOk "Go" := ln_of (by decide +kernel)
    try unfold tNil
    dsimp only
    refine htel K7 c7 _ (j + 1) _ e7' (fun y hy => ?_) (by rw [List.length_append, List.length_cons, List.length_append, hlt1, hlt2]; show j + (_ + 1 + 1) ≤ _; omega) ⟨"Go", by simp, by decide +kernel⟩ (by have := told_bad (rest := lns (ts.drop j) ++ [("Go" : Str)]) Dj hbn; rw [htl] at this; exact this) fun Gf sf => ?_
    · rcases List.mem_append.mp hy with hy | hy
      · exact hokt y hy
      · rcases List.mem_cons.mp hy with rfl | hy
        · exact hbl
        · rcases List.mem_append.mp hy with hy | hy
          · exact hokd y hy
          · rw [List.mem_singleton.mp hy]; exact hgo
    have Xf := Xe.keep sf
    clear Xe e7 e7'
    refine ⟨_, rfl, _, _, rfl, rfl, rfl, _, rfl, iteBF (by rw [show ((j + 1 : Nat) : Int) = (j : Int) + 1 from rfl]; simp) ?_⟩
    -- how deep
    refine ⟨fun σ G => σ = [some (.ref a), some (.ref p), some (.int wd), some (.str kd), some (.ref tl), some (.ref L), v6, some (.str (placeOf m).str), some (.int (m.length : Int)), some (.int (0 + (i : Int))), some (.int (j : Int)), some (.str bb), v12] ∧ LW K G p tl L ts (n' + 2), ?_, ?_⟩
    · refine ⟨_, rfl, _, rfl, L, _, rfl, .inl (SqL.of Xf.l), rfl, _, rfl, ?_⟩
      rw [List.length_map, hlen0]
      rcases hcase with ⟨x, p, ht, hrow, hlt⟩ | ⟨rfl, rfl⟩
      · refine iteBF (decide_eq_false fun z => by have := V.int.inj z; omega) ?_
        obtain ⟨rs, t1, t2⟩ := Xf.t
        obtain ⟨r, hr3, hs3⟩ := t2.get ht
        exact ⟨_, rfl, _, rfl, tl, _, _, _, rfl, rfl, SqL.of t1, at_of (j := j) rfl hr3, r, _, 2, _, rfl, rfl, hs3, at_of (j := 2) rfl rfl, rfl, Xf⟩
      · exact iteBT (decide_eq_true rfl) ⟨rfl, Xf⟩
    rintro σ G ⟨rfl, Xg⟩
    clear Xf
    -- a text that lacks its end
    refine ⟨fun σ G => σ = [some (.ref a), some (.ref p), some (.int wd), some (.str kd), some (.ref tl), some (.ref L), v6, some (.str (placeOf m).str), some (.int (m.length : Int)), some (.int (0 + (i : Int))), some (.int (j : Int)), some (.str bb), v12] ∧ LW K G p tl L ts (n' + 2), ?_, ?_⟩
    · refine ⟨_, rfl, _, _, rfl, rfl, _, rfl, ite2 (fun hd => ?_) (fun hd => iteF ⟨rfl, Xg⟩)⟩
      have hm : m ≠ [] := fun z => by
        have hd' : decide ((m.length : Int) > 0) = true := hd
        rw [z] at hd'
        exact absurd hd' (by decide)
      refine ⟨_, rfl, _, rfl, _, rfl, _, rfl, _, rfl, L, _, rfl, SqL.of Xg.l, fun c1 n1 => ?_⟩
      generalize h1 : upd G c1 _ = K1
      have s1 : Same G K1 := h1 ▸ new_same n1
      have e1 := congrFun h1 c1
      rw [upd_same] at e1
      clear h1
      rw [hc1] at e1
      try unfold tNil
      dsimp only
      refine htel K1 c1 _ (j + 1) _ e1.symm hokt (by rw [hlt1]; omega) ?_ (by have := told_open Dj hm; rw [htl] at this; exact this) fun G2 s2 => ?_
      · cases htj : ts.take j with
        | nil =>
          exfalso
          rw [htj] at Dj
          cases Dj
          exact hm rfl
        | cons t r => exact ⟨t.1, List.mem_cons_self, (hok t (List.mem_of_mem_take (by rw [htj]; exact List.mem_cons_self))).2.2⟩
      exact ⟨_, rfl, _, _, rfl, rfl, rfl, _, rfl, iteBF (by rw [show ((j + 1 : Nat) : Int) = (j : Int) + 1 from rfl]; simp) ⟨rfl, (Xg.keep s1).keep s2⟩⟩
    rintro σ G ⟨rfl, Xh⟩
    clear Xg
    -- an end or else too many
    refine ⟨_, rfl, _, rfl, _, rfl, L, _, rfl, SqL.of Xh.l, fun c1 n1 => ?_⟩
    generalize h1 : upd G c1 _ = K1
    have s1 : Same G K1 := h1 ▸ new_same n1
    have e1 := congrFun h1 c1
    rw [upd_same] at e1
    clear h1
    rw [hc1] at e1
    refine ⟨(by show 2 ≤ sizeLine; decide), fun cx nx => ?_⟩
    have sx := new_same (o := .lst ([("end" : Str), "else"].map V.str)) nx
    have Xi := (Xh.keep s1).keep sx
    refine ⟨_, rfl, p, n' + 2, 2, rfl, Xi.b, by omega, by decide, small16 (by decide) (by decide), fun ro Gi f0 f1 bGi uGi => ?_⟩
    have elx : Gi cx = some (.lst ([("end" : Str), "else"].map V.str)) := lst_but uGi (bag_dk Xi.b) upd_same
    have e1i : Gi c1 = some (.lst ((lns (ts.take j)).map V.str)) := lst_but uGi (bag_dk Xi.b) (sx _ _ e1.symm)
    have Xk := Xi.draw uGi bGi
    clear Xh Xi
    refine pick_str elx f0 f1 fun hjo => ?_
    obtain ⟨bx, hbx⟩ : ∃ bx, bx = [("end" : Str), "else"][ro.toNat] := ⟨_, rfl⟩
    have hbm : bx ∈ blkL := by
      have : bx ∈ [("end" : Str), "else"] := by rw [hbx]; exact List.getElem_mem hjo
      rcases List.mem_cons.mp this with e | e
      · rw [e]; decide +kernel
      · rw [List.mem_singleton.mp e]; decide +kernel
    rw [← hbx]
    refine ⟨(by show 1 ≤ sizeLine; decide), fun c2 n2 => ?_⟩
    generalize h2 : upd Gi c2 _ = K2
    have s2 : Same Gi K2 := h2 ▸ new_same n2
    have e2 := congrFun h2 c2
    rw [upd_same] at e2
    clear h2
    refine ⟨c1, c2, _, _, rfl, rfl, s2 _ _ e1i, e2.symm, hsz (by rw [List.length_map, hlt1]; show j + 1 ≤ _; omega), fun c3 n3 => ?_⟩
    generalize h3 : upd K2 c3 _ = K3
    have s3 : Same K2 K3 := h3 ▸ new_same n3
    have e3 := congrFun h3 c3
    rw [upd_same] at e3
    clear h3
    have Xl := (Xk.keep s2).keep s3
    refine ⟨_, rfl, _, rfl, _, rfl, L, _, rfl, SqL.of Xl.l, fun c4 n4 => ?_⟩
    generalize h4 : upd K3 c4 _ = K4
    have s4 : Same K3 K4 := h4 ▸ new_same n4
    have e4 := congrFun h4 c4
    rw [upd_same] at e4
    clear h4
    rw [hc2] at e4
    refine ⟨c3, c4, _, _, rfl, rfl, s4 _ _ e3.symm, e4.symm, hsz (by rw [List.length_append, List.length_map, List.length_map, hlt1, hlt2]; show j + 1 + _ ≤ _; omega), fun c5 n5 => ?_⟩
    generalize h5 : upd K4 c5 _ = K5
    have s5 : Same K4 K5 := h5 ▸ new_same n5
    have e5 := congrFun h5 c5
    rw [upd_same] at e5
    clear h5
    have Xm := (Xl.keep s4).keep s5
    have e5' : K5 c5 = some (.lst ((lns (ts.take j) ++ (bx :: lns (ts.drop j))).map V.str)) := by
      rw [← e5]
      simp only [List.map_append, List.map_cons, List.map_nil, List.append_assoc, List.cons_append, List.nil_append]
    clear Xl Xk s1 sx s2 s3 s4 s5 e1 e2 e3 e4 e5 n1 n2 n3 n4 n5 elx e1i
    refine ⟨fun σ G => ∃ v12, σ = [some (.ref a), some (.ref p), some (.int wd), some (.str kd), some (.ref tl), some (.ref L), v6, some (.str (placeOf m).str), some (.int (m.length : Int)), some (.int (0 + (i : Int))), some (.int (j : Int)), some (.str bb), v12] ∧ LW K G p tl L ts (n' + 3), ?_, ?_⟩
    · refine ⟨_, rfl, rfl, _, rfl, ite2 (fun hd => ?_) (fun hd => iteF ⟨_, rfl, Xm⟩)⟩
      have hm : m = [] := by
        have := V.int.inj (of_decide_eq_true hd)
        cases m with
        | nil => rfl
        | cons z r => rw [List.length_cons] at this; omega
      have hbl2 : LnOk bx ∧ 1 ≤ bx.length := by
        obtain ⟨f1, _, f3⟩ := word_facts bx (List.mem_append_left _ hbm)
        exact ⟨ln_of f1, f3⟩
      refine ⟨_, rfl, _, rfl, _, rfl, ?_⟩
      try unfold tNil
      dsimp only
      refine htel K5 c5 _ (j + 1) _ e5' (fun y hy => ?_) (by rw [List.length_append, List.length_cons, hlt1, hlt2]; omega) ⟨bx, by simp, hbl2.2⟩ (by have := told_bad (rest := lns (ts.drop j)) Dj (by rw [hm]; exact blk_none hbm); rw [htl] at this; exact this) fun G2 s2 => ?_
      · rcases List.mem_append.mp hy with hy | hy
        · exact hokt y hy
        · rcases List.mem_cons.mp hy with rfl | hy
          · exact hbl2.1
          · exact hokd y hy
      exact ⟨_, rfl, _, _, rfl, rfl, rfl, _, rfl, iteBF (by rw [show ((j + 1 : Nat) : Int) = (j : Int) + 1 from rfl]; simp) ⟨_, rfl, Xm.keep s2⟩⟩
    rintro σ G ⟨v12', rfl, Xn⟩
    clear Xm e5'
    -- else, twice
    refine ⟨_, rfl, _, rfl, _, rfl, L, _, rfl, SqL.of Xn.l, fun c1 n1 => ?_⟩
    generalize h1 : upd G c1 _ = K1
    have s1 : Same G K1 := h1 ▸ new_same n1
    have e1 := congrFun h1 c1
    rw [upd_same] at e1
    clear h1
    rw [hc1] at e1
    refine ⟨(by show 1 ≤ sizeLine; decide), fun c2 n2 => ?_⟩
    generalize h2 : upd K1 c2 _ = K2
    have s2 : Same K1 K2 := h2 ▸ new_same n2
    have e2 := congrFun h2 c2
    rw [upd_same] at e2
    clear h2
    refine ⟨c1, c2, _, _, rfl, rfl, s2 _ _ e1.symm, e2.symm, hsz (by rw [List.length_map, hlt1]; show j + 1 ≤ _; omega), fun c3 n3 => ?_⟩
    generalize h3 : upd K2 c3 _ = K3
    have s3 : Same K2 K3 := h3 ▸ new_same n3
    have e3 := congrFun h3 c3
    rw [upd_same] at e3
    clear h3
    have Xo := ((Xn.keep s1).keep s2).keep s3
    refine ⟨_, rfl, _, rfl, _, rfl, L, _, rfl, SqL.of Xo.l, fun c4 n4 => ?_⟩
    generalize h4 : upd K3 c4 _ = K4
    have s4 : Same K3 K4 := h4 ▸ new_same n4
    have e4 := congrFun h4 c4
    rw [upd_same] at e4
    clear h4
    rw [hc2] at e4
    refine ⟨c3, c4, _, _, rfl, rfl, s4 _ _ e3.symm, e4.symm, hsz (by rw [List.length_append, List.length_map, List.length_map, hlt1, hlt2]; show j + 1 + _ ≤ _; omega), fun c5 n5 => ?_⟩
    generalize h5 : upd K4 c5 _ = K5
    have s5 : Same K4 K5 := h5 ▸ new_same n5
    have e5 := congrFun h5 c5
    rw [upd_same] at e5
    clear h5
    have Xp := (Xo.keep s4).keep s5
    have e5' : K5 c5 = some (.lst ((lns (ts.take j) ++ (("else" : Str) :: lns (ts.drop j))).map V.str)) := by
      rw [← e5]
      simp only [List.map_append, List.map_cons, List.map_nil, List.append_assoc, List.cons_append, List.nil_append]
    clear Xo Xn s1 s2 s3 s4 s5 e1 e2 e3 e4 e5 n1 n2 n3 n4 n5
    have done : ∀ {v12 : Option V} {G : Hp}, LW K G p tl L ts (n' + 3) → ∃ (v6' v7 v8 v9 v10 v11 v12' : Option V) (n'' : Nat), ([some (.ref a), some (.ref p), some (.int wd), some (.str kd), some (.ref tl), some (.ref L), v6, some (.str (placeOf m).str), some (.int (m.length : Int)), some (.int (0 + (i : Int))), some (.int (j : Int)), some (.str bb), v12] : L2.St) = [some (.ref a), some (.ref p), some (.int wd), some (.str kd), some (.ref tl), some (.ref L), v6', v7, v8, v9, v10, v11, v12'] ∧ LW K G p tl L ts n'' ∧ n'' ≤ n + 3 * (i + 1) := fun X => ⟨_, _, _, _, _, _, _, n' + 3, rfl, X, by omega⟩
    refine ⟨_, rfl, _, rfl, L, _, rfl, .inl (SqL.of Xp.l), _, _, rfl, rfl, _, rfl, ?_⟩
    rw [List.length_map, hlen0]
    refine ite2 (fun hjl => ?_) (fun hjl => iteF (done Xp))
    rcases hcase with ⟨x, pp, ht, hrow, hlt⟩ | ⟨rfl, rfl⟩
    · have hxj : ((lns ts).map V.str)[j]? = some (.str x) := by unfold lns; rw [List.getElem?_map, List.getElem?_map, ht]; rfl
      refine ⟨_, rfl, _, rfl, L, _, _, _, rfl, rfl, SqL.of Xp.l, at_of (j := j) rfl hxj, rfl, _, rfl, ite2 (fun hx => ?_) (fun hx => iteF (done Xp))⟩
      have hx' : x = "else" := V.str.inj (of_decide_eq_true hx)
      subst hx'
      have hel : LnOk "else" := ln_of (by decide +kernel)
      have hdj : lns (ts.drop j) = ("else" : Str) :: lns (ts.drop (j + 1)) := by
        unfold lns
        rw [List.drop_eq_getElem_cons hlt, (List.getElem?_eq_some_iff.mp ht).2]
        rfl
      refine ⟨_, rfl, _, rfl, _, rfl, ?_⟩
      try unfold tNil
      dsimp only
      refine htel K5 c5 _ (j + 2) _ e5' (fun y hy => ?_) (by rw [List.length_append, List.length_cons, hlt1, hlt2]; omega) ⟨"else", by simp, by decide +kernel⟩ (by have := told_else (rest := lns (ts.drop (j + 1))) Dj hrow; rw [htl] at this; rw [hdj]; exact this) fun G2 s2 => ?_
      · rcases List.mem_append.mp hy with hy | hy
        · exact hokt y hy
        · rcases List.mem_cons.mp hy with rfl | hy
          · exact hel
          · exact hokd y hy
      exact ⟨_, rfl, _, _, rfl, rfl, rfl, _, rfl, iteBF (by rw [show ((j + 2 : Nat) : Int) = (j : Int) + 2 from rfl]; simp) (done (Xp.keep s2))⟩
    · exfalso
      have := of_decide_eq_true hjl
      omega
  · rintro σ G ⟨v6, v7, v8, v9, v10, v11, v12, n', rfl, X, hn'⟩
    refine ⟨_, rfl, _, rfl, (by show 4 ≤ sizeLine; decide), fun c nc => ?_⟩
    have hlo3 : linesOf [("if inside" : Str), "else", "else", "end"] wd = .inl 3 := three_of (by rcases hw with rfl | rfl | rfl <;> decide +kernel)
    have hall : ∀ y ∈ [("if inside" : Str), "else", "else", "end"], LnOk y := fun y hy => ln_of (by revert y; decide +kernel)
    have eC : upd G c (.lst ([("if inside" : Str), "else", "else", "end"].map V.str)) c = some (.lst ([("if inside" : Str), "else", "else", "end"].map V.str)) := upd_same
    try unfold tNil
    dsimp only
    refine htel _ c [("if inside" : Str), "else", "else", "end"] 3 _ eC hall (by decide) ⟨"else", by decide +kernel, by decide +kernel⟩ hlo3 fun G2 s2 => ⟨rfl, ?_⟩
    exact q G2
end
end H2
namespace H2
open PySem PySem.Spec PyProof.Rows L2 Hx Nd Dun
/-! ### what the top has written, by answers of the kernel -/
def namesB (K : PySem.W.Frag) (C : Addr) (fl : List Str) : Bool := fl.all fun x => decide (PySem.W.findIn K (.ref C) x = some none)
def clB (K : PySem.W.Frag) (C f : Addr) (fl : List Str) : Bool := PySem.W.makesIn K C && (decide (PySem.W.findIn K (.ref C) "__init__" = some (some (.ref f))) && (PySem.W.isFn K (.ref f) && (PySem.W.keepIn K (.ref C) && (PySem.W.plainGet K C Str.empty && (PySem.W.hasDictIn K C && (PySem.W.plainOver K C &&
  (decide (PySem.W.findIn K (.ref C) "__setattr__" = some (some (.builtin "object.__setattr__"))) && namesB K C fl)))))))
theorem cl_of {K : PySem.W.Frag} {C f : Addr} {fl : List Str} (b : clB K C f fl = true) : Mk K C f ∧ Cls K C ∧ ∀ x ∈ fl, NoAttr K C x := by
  unfold clB namesB at b
  simp only [Bool.and_eq_true, decide_eq_true_eq, List.all_eq_true] at b
  obtain ⟨a1, a2, a3, a4, a5, a6, a7, a8, a9⟩ := b
  exact ⟨⟨a1, a2, a3, a4⟩, ⟨a5, a6, a7, a8⟩, a9⟩
def methB (K : PySem.W.Frag) (C : Addr) (m : Str) (f : Addr) : Bool := decide (PySem.W.findIn K (.ref C) m = some (some (.ref f))) && (PySem.W.isFn K (.ref f) && (PySem.W.keepIn K (.ref f) && PySem.W.fnIn K f))
theorem meth_of {K : PySem.W.Frag} {C : Addr} {m : Str} {f : Addr} (b : methB K C m f = true) : Meth K C m f ∧ Dn K C m f := by
  unfold methB at b
  simp only [Bool.and_eq_true, decide_eq_true_eq] at b
  obtain ⟨a1, a2, a3, a4⟩ := b
  exact ⟨⟨a1, a2, a3⟩, ⟨a1, a2, a4⟩⟩
/-- the values are these -/
def valsB : List V → List Value → Bool
  | [], [] => true
  | .str x :: r, .str y _ :: s => decide (x = y) && valsB r s
  | .int i :: r, .int j _ :: s => decide (i = j) && valsB r s
  | .non :: r, .none :: s => valsB r s
  | .ref a :: r, .ref b :: s => decide (a = b) && valsB r s
  | _, _ => false
theorem vals_of : ∀ (xs : List V) (us : List Value), valsB xs us = true → Vals xs us
  | [], [], _ => .nil
  | .str x :: r, .str y t :: s, h => by
    rw [valsB, Bool.and_eq_true, decide_eq_true_eq] at h
    obtain ⟨rfl, h⟩ := h
    exact .cons ⟨t, rfl⟩ (vals_of r s h)
  | .int i :: r, .int j t :: s, h => by
    rw [valsB, Bool.and_eq_true, decide_eq_true_eq] at h
    obtain ⟨rfl, h⟩ := h
    exact .cons ⟨t, rfl⟩ (vals_of r s h)
  | .non :: r, .none :: s, h => .cons rfl (vals_of r s h)
  | .ref a :: r, .ref b :: s, h => by
    rw [valsB, Bool.and_eq_true, decide_eq_true_eq] at h
    obtain ⟨rfl, h⟩ := h
    exact .cons rfl (vals_of r s h)
def tupB (K : PySem.W.Frag) (a : Addr) (xs : List V) : Bool := match K.lookup a with
  | some ⟨.type c, _, .seq its _, _⟩ => decide (c = "tuple") && (decide (its.size ≤ 1000) && valsB xs its.toList)
  | _ => false
theorem tup_of {K : PySem.W.Frag} {a : Addr} {xs : List V} (b : tupB K a xs = true) : ∀ H, SqT K H a xs := fun H => by
  unfold tupB at b
  split at b
  · rename_i c od its n sl e
    rw [Bool.and_eq_true, Bool.and_eq_true, decide_eq_true_eq, decide_eq_true_eq] at b
    obtain ⟨rfl, h1, h2⟩ := b
    exact .inr ⟨_, its, n, e, rfl, rfl, Nat.le_trans h1 (by decide), vals_of _ _ h2⟩
  · cases b
def wayB (K : PySem.W.Frag) (a : Addr) : Bool := match K.lookup a with
  | some ⟨.type c, _, .seq its _, _⟩ => (match its.toList with
    | [.ref b, .int i _, .int j _, .ref d] => decide (c = "tuple") && (decide (its.size ≤ 1000) && (decide (i = 0) && (decide (j = 0) && (tupB K b [] && tupB K d []))))
    | _ => false)
  | _ => false
theorem way_of {K : PySem.W.Frag} {a : Addr} (b : wayB K a = true) : ∀ H, NV K H (.ref a) (keyW way0) := fun H => by
  unfold wayB at b
  split at b
  · rename_i c od its n sl e
    split at b
    · rename_i b1 i ti j tj d e2
      simp only [Bool.and_eq_true, decide_eq_true_eq] at b
      obtain ⟨rfl, h1, rfl, rfl, h2, h3⟩ := b
      refine nv_mk (b := b1) (d := d) (ls := []) (os := []) (.inr ⟨_, its, n, e, rfl, rfl, Nat.le_trans h1 (by decide), ?_⟩) (tup_of h2 H) (tup_of h3 H)
      rw [e2]
      exact .cons rfl (.cons ⟨_, rfl⟩ (.cons ⟨_, rfl⟩ (.cons rfl .nil)))
    · cases b
  · cases b
def nsTupB (K : PySem.W.Frag) (d : Addr) (x : Str) (xs : List V) : Bool := match PySem.W.nsIn K d x with
  | some (some (.ref a)) => tupB K a xs
  | _ => false
theorem nt_of {K : PySem.W.Frag} {d : Addr} {x : Str} {xs : List V} (b : nsTupB K d x xs = true) : ∃ a, PySem.W.nsIn K d x = some (some (.ref a)) ∧ ∀ H, SqT K H a xs := by
  unfold nsTupB at b
  split at b
  · rename_i a e
    exact ⟨a, e, tup_of b⟩
  · cases b
def allTabB (K : PySem.W.Frag) (d : Addr) : Bool := allowTab.all fun p => nsTupB K d p.1 (p.2.map V.str)
def allFreeB (K : PySem.W.Frag) (d : Addr) : Bool := allowFree.all fun x => decide (PySem.W.nsIn K d x = some none)
def sidesB (K : PySem.W.Frag) (d : Addr) : Bool := nsTupB K d Pl.top.str (sidesV .top) && (nsTupB K d Pl.down.str (sidesV .down) && nsTupB K d Pl.up.str (sidesV .up))
theorem kindT {K : PySem.W.Frag} : KindT K := by
  refine ⟨fun kd hk H => ⟨.type "str", true, .base (.str kd), kit_ty (by decide +kernel), fun _ => rfl, ?_⟩, fun wd hw H => ⟨.type "int", true, .base (.int wd), kit_ty (by decide +kernel), fun _ => rfl, ?_⟩⟩
  · have key : ∀ x ∈ kdL, (true && inV (.str x) kindsV) = true := by decide +kernel
    exact key kd hk
  · rcases hw with rfl | rfl | rfl <;> decide +kernel
def dflB (K : PySem.W.Frag) (a : Addr) : Bool := match K.lookup a with
  | some ⟨_, _, .seq its _, _⟩ => (match its.toList with
    | [.none, .ref _] => true
    | _ => false)
  | _ => false
theorem dfl_of {K : PySem.W.Frag} {a : Addr} (b : dflB K a = true) : ∃ tt, DflV K (.ref a) [.non, .ref tt] := by
  unfold dflB at b
  split at b
  · rename_i oc od its n sl e
    split at b
    · rename_i tt e2
      refine ⟨tt, .inr ⟨by simp, a, _, [.none, .ref tt], n, rfl, e, ?_, .cons rfl (.cons rfl .nil)⟩⟩
      rw [← e2]
    · cases b
  · cases b
theorem fund_mk {K : PySem.W.Frag} {x qual : Str} {st : Stmt} {f : Addr} {oc : Value} {od : Option Addr} {dV kV doc pm : Value} {an : Option Addr} {cdv ct : Value} {osl : Array (Option Value)} {dvs : List V} (lk : K.lookup f = some ⟨oc, od, .func (PySem.W.fnOf x qual (defArgs st) (defBody st) (defScope st) dV kV doc pm an cdv ct), osl⟩)
    (hc : PySem.W.codeIn K cdv qual = true) (kp : PySem.W.keepIn K (.ref f) = true) (hD : DflV K dV dvs) : FunD K x qual (defArgs st) (defBody st) (defScope st) dvs [] f (PySem.W.fnOf x qual (defArgs st) (defBody st) (defScope st) dV kV doc pm an cdv ct) :=
  ⟨⟨oc, od, dV, kV, doc, pm, an, cdv, ct, osl, rfl, lk, hc, hD, .inl rfl⟩, kp⟩
theorem all_mk {P : Program} {w : World} {K : PySem.W.Frag} {h : Heap} {mg : Str → Option Value} {fa D : Addr} (X : K.In h) (G : h.Ns mainGlobals mg) (hfa : mg "law" = some (.ref fa))
    {nm0 q0 : Str} {N0 C0 I0 : Addr} {bs0 : List Value} {sn0 : List Str} {sub0 : List Value} {ab0 : Bool} {col0 : Option Bool} {dd0 : Option Addr} {m00 m10 m20 m30 m50 : Option Value} {ioc0 ikV0 idc0 ipm0 icd0 ict0 : Value} {iod0 ian0 : Option Addr} {isl0 : Array (Option Value)}
    {nm1 q1 : Str} {N1 C1 I1 : Addr} {bs1 : List Value} {sn1 : List Str} {sub1 : List Value} {ab1 : Bool} {col1 : Option Bool} {dd1 : Option Addr} {m01 m11 m21 m31 m51 : Option Value} {ioc1 ikV1 idc1 ipm1 icd1 ict1 : Value} {iod1 ian1 : Option Addr} {isl1 : Array (Option Value)}
    {nm2 q2 : Str} {N2 C2 I2 : Addr} {bs2 : List Value} {sn2 : List Str} {sub2 : List Value} {ab2 : Bool} {col2 : Option Bool} {dd2 : Option Addr} {m02 m12 m22 m32 m52 : Option Value} {ioc2 ikV2 idc2 ipm2 icd2 ict2 : Value} {iod2 ian2 : Option Addr} {isl2 : Array (Option Value)}
    {nm3 q3 : Str} {N3 C3 I3 : Addr} {bs3 : List Value} {sn3 : List Str} {sub3 : List Value} {ab3 : Bool} {col3 : Option Bool} {dd3 : Option Addr} {m03 m13 m23 m33 m53 : Option Value} {ioc3 ikV3 idc3 ipm3 icd3 ict3 : Value} {iod3 ian3 : Option Addr} {isl3 : Array (Option Value)}
    {nm4 q4 : Str} {N4 C4 I4 : Addr} {bs4 : List Value} {sn4 : List Str} {sub4 : List Value} {ab4 : Bool} {col4 : Option Bool} {dd4 : Option Addr} {m04 m14 m24 m34 m54 : Option Value} {ioc4 ikV4 idc4 ipm4 icd4 ict4 : Value} {iod4 ian4 : Option Addr} {isl4 : Array (Option Value)}
    {f_is_kind : Addr} {oc_is_kind kV_is_kind dc_is_kind pm_is_kind cd_is_kind ct_is_kind : Value} {od_is_kind an_is_kind : Option Addr} {sl_is_kind : Array (Option Value)}
    {f_is_width : Addr} {oc_is_width kV_is_width dc_is_width pm_is_width cd_is_width ct_is_width : Value} {od_is_width an_is_width : Option Addr} {sl_is_width : Array (Option Value)}
    {f_allows : Addr} {oc_allows kV_allows dc_allows pm_allows cd_allows ct_allows : Value} {od_allows an_allows : Option Addr} {sl_allows : Array (Option Value)}
    {f_read_number : Addr} {oc_read_number kV_read_number dc_read_number pm_read_number cd_read_number ct_read_number : Value} {od_read_number an_read_number : Option Addr} {sl_read_number : Array (Option Value)}
    {f_read_side : Addr} {oc_read_side kV_read_side dc_read_side pm_read_side cd_read_side ct_read_side : Value} {od_read_side an_read_side : Option Addr} {sl_read_side : Array (Option Value)}
    {f_read_comparison : Addr} {oc_read_comparison kV_read_comparison dc_read_comparison pm_read_comparison cd_read_comparison ct_read_comparison : Value} {od_read_comparison an_read_comparison : Option Addr} {sl_read_comparison : Array (Option Value)}
    {f_read_has : Addr} {oc_read_has kV_read_has dc_read_has pm_read_has cd_read_has ct_read_has : Value} {od_read_has an_read_has : Option Addr} {sl_read_has : Array (Option Value)}
    {f_read_plain_part : Addr} {oc_read_plain_part kV_read_plain_part dc_read_plain_part pm_read_plain_part cd_read_plain_part ct_read_plain_part : Value} {od_read_plain_part an_read_plain_part : Option Addr} {sl_read_plain_part : Array (Option Value)}
    {f_read_part : Addr} {oc_read_part kV_read_part dc_read_part pm_read_part cd_read_part ct_read_part : Value} {od_read_part an_read_part : Option Addr} {sl_read_part : Array (Option Value)}
    {f_read_test : Addr} {oc_read_test kV_read_test dc_read_test pm_read_test cd_read_test ct_read_test : Value} {od_read_test an_read_test : Option Addr} {sl_read_test : Array (Option Value)}
    {f_names_given : Addr} {oc_names_given kV_names_given dc_names_given pm_names_given cd_names_given ct_names_given : Value} {od_names_given an_names_given : Option Addr} {sl_names_given : Array (Option Value)}
    {f_row_with_test : Addr} {oc_row_with_test kV_row_with_test dc_row_with_test pm_row_with_test cd_row_with_test ct_row_with_test : Value} {od_row_with_test an_row_with_test : Option Addr} {sl_row_with_test : Array (Option Value)}
    {f_row_of_pick : Addr} {oc_row_of_pick kV_row_of_pick dc_row_of_pick pm_row_of_pick cd_row_of_pick ct_row_of_pick : Value} {od_row_of_pick an_row_of_pick : Option Addr} {sl_row_of_pick : Array (Option Value)}
    {f_row_of_block_word : Addr} {oc_row_of_block_word kV_row_of_block_word dc_row_of_block_word pm_row_of_block_word cd_row_of_block_word ct_row_of_block_word : Value} {od_row_of_block_word an_row_of_block_word : Option Addr} {sl_row_of_block_word : Array (Option Value)}
    {f_read_row : Addr} {oc_read_row kV_read_row dc_read_row pm_read_row cd_read_row ct_read_row : Value} {od_read_row an_read_row : Option Addr} {sl_read_row : Array (Option Value)}
    {f_blocks_behind : Addr} {oc_blocks_behind kV_blocks_behind dc_blocks_behind pm_blocks_behind cd_blocks_behind ct_blocks_behind : Value} {od_blocks_behind an_blocks_behind : Option Addr} {sl_blocks_behind : Array (Option Value)}
    {f_read_rows : Addr} {oc_read_rows kV_read_rows dc_read_rows pm_read_rows cd_read_rows ct_read_rows : Value} {od_read_rows an_read_rows : Option Addr} {sl_read_rows : Array (Option Value)}
    {f_match_blocks : Addr} {oc_match_blocks kV_match_blocks dc_match_blocks pm_match_blocks cd_match_blocks ct_match_blocks : Value} {od_match_blocks an_match_blocks : Option Addr} {sl_match_blocks : Array (Option Value)}
    {f_keeps_order : Addr} {oc_keeps_order kV_keeps_order dc_keeps_order pm_keeps_order cd_keeps_order ct_keeps_order : Value} {od_keeps_order an_keeps_order : Option Addr} {sl_keeps_order : Array (Option Value)}
    {f_way_behind : Addr} {oc_way_behind kV_way_behind dc_way_behind pm_way_behind cd_way_behind ct_way_behind : Value} {od_way_behind an_way_behind : Option Addr} {sl_way_behind : Array (Option Value)}
    {f_is_turn : Addr} {oc_is_turn kV_is_turn dc_is_turn pm_is_turn cd_is_turn ct_is_turn : Value} {od_is_turn an_is_turn : Option Addr} {sl_is_turn : Array (Option Value)}
    {f_may_begin : Addr} {oc_may_begin kV_may_begin dc_may_begin pm_may_begin cd_may_begin ct_may_begin : Value} {od_may_begin an_may_begin : Option Addr} {sl_may_begin : Array (Option Value)}
    {f_least_break : Addr} {oc_least_break kV_least_break dc_least_break pm_least_break cd_least_break ct_least_break : Value} {od_least_break an_least_break : Option Addr} {sl_least_break : Array (Option Value)}
    {f_Lbag : Addr} {oc_Lbag kV_Lbag dc_Lbag pm_Lbag cd_Lbag ct_Lbag : Value} {od_Lbag an_Lbag : Option Addr} {sl_Lbag : Array (Option Value)}
    {f_Ldraw : Addr} {oc_Ldraw kV_Ldraw dc_Ldraw pm_Ldraw cd_Ldraw ct_Ldraw : Value} {od_Ldraw an_Ldraw : Option Addr} {sl_Ldraw : Array (Option Value)}
    {f_Ltest : Addr} {oc_Ltest kV_Ltest dc_Ltest pm_Ltest cd_Ltest ct_Ltest : Value} {od_Ltest an_Ltest : Option Addr} {sl_Ltest : Array (Option Value)}
    {f_Llines : Addr} {oc_Llines kV_Llines dc_Llines pm_Llines cd_Llines ct_Llines : Value} {od_Llines an_Llines : Option Addr} {sl_Llines : Array (Option Value)}
    {f_Lbad : Addr} {oc_Lbad kV_Lbad dc_Lbad pm_Lbad cd_Lbad ct_Lbad : Value} {od_Lbad an_Lbad : Option Addr} {sl_Lbad : Array (Option Value)}
    {f_Lopen : Addr} {oc_Lopen kV_Lopen dc_Lopen pm_Lopen cd_Lopen ct_Lopen : Value} {od_Lopen an_Lopen : Option Addr} {sl_Lopen : Array (Option Value)}
    {f_Ltold : Addr} {oc_Ltold kV_Ltold dc_Ltold pm_Ltold cd_Ltold ct_Ltold : Value} {od_Ltold an_Ltold : Option Addr} {sl_Ltold : Array (Option Value)}
    {f_law : Addr} {oc_law kV_law dc_law pm_law cd_law ct_law : Value} {od_law an_law : Option Addr} {sl_law : Array (Option Value)}
    {CR IR TD : Addr} {ocR kVR dcR pmR cdR ctR : Value} {odR anR : Option Addr} {slR : Array (Option Value)}
    {CW : Addr}
    {W0 : Addr} {ocW0 kVW0 dcW0 pmW0 cdW0 ctW0 : Value} {odW0 anW0 : Option Addr} {slW0 : Array (Option Value)}
    {W1 : Addr} {ocW1 kVW1 dcW1 pmW1 cdW1 ctW1 : Value} {odW1 anW1 : Option Addr} {slW1 : Array (Option Value)}
    {W2 : Addr} {ocW2 kVW2 dcW2 pmW2 cdW2 ctW2 : Value} {odW2 anW2 : Option Addr} {slW2 : Array (Option Value)}
    {W3 : Addr} {ocW3 kVW3 dcW3 pmW3 cdW3 ctW3 : Value} {odW3 anW3 : Option Addr} {slW3 : Array (Option Value)}
    {W4 : Addr} {ocW4 kVW4 dcW4 pmW4 cdW4 ctW4 : Value} {odW4 anW4 : Option Addr} {slW4 : Array (Option Value)}
    {W5 : Addr} {ocW5 kVW5 dcW5 pmW5 cdW5 ctW5 : Value} {odW5 anW5 : Option Addr} {slW5 : Array (Option Value)}
    {W6 : Addr} {ocW6 kVW6 dcW6 pmW6 cdW6 ctW6 : Value} {odW6 anW6 : Option Addr} {slW6 : Array (Option Value)}
    {CY : Addr}
    {Y0 : Addr} {ocY0 kVY0 dcY0 pmY0 cdY0 ctY0 : Value} {odY0 anY0 : Option Addr} {slY0 : Array (Option Value)}
    {Y1 : Addr} {ocY1 kVY1 dcY1 pmY1 cdY1 ctY1 : Value} {odY1 anY1 : Option Addr} {slY1 : Array (Option Value)}
    {Y2 : Addr} {ocY2 kVY2 dcY2 pmY2 cdY2 ctY2 : Value} {odY2 anY2 : Option Addr} {slY2 : Array (Option Value)}
    {Y3 : Addr} {ocY3 kVY3 dcY3 pmY3 cdY3 ctY3 : Value} {odY3 anY3 : Option Addr} {slY3 : Array (Option Value)}
    {CZ : Addr}
    {Z0 : Addr} {ocZ0 kVZ0 dcZ0 pmZ0 cdZ0 ctZ0 : Value} {odZ0 anZ0 : Option Addr} {slZ0 : Array (Option Value)}
    {tKINDS : Addr}
    {tWIDTHS : Addr}
    {tGIVEN : Addr}
    {tNUMBERS : Addr}
    {tSIGNS : Addr}
    {tLOOPS : Addr}
    {tTOP_WORDS : Addr}
    {tLOOP_WORDS : Addr}
    {tONCE : Addr}
    {tAHEAD_OF_LOOPS : Addr}
    {tF dA dS : Addr} {esA esS : Array DictEntry} {nA nS : Nat} {tk60 : Tok}
    (aC0 : PySem.W.nsIn K mainGlobals "BadKind" = some (some (.ref C0)))
    (xL0 : K.lookup C0 = some (excClassObj nm0 q0 C0 N0 bs0 [.ref D, .type "ValueError", .type "Exception", .type "BaseException", .type "object"] true sn0 sub0 ab0 col0 dd0 m00 m10 m20 m30 m50 "ValueError.__new__"))
    (aI0 : PySem.W.findIn K (.ref C0) "__init__" = some (some (.ref I0)))
    (lI0 : K.lookup I0 = some ⟨ioc0, iod0, .func (PySem.W.fnOf "__init__" "BadKind.__init__" (defArgs iBadKind) (defBody iBadKind) (defScope iBadKind) .none ikV0 idc0 ipm0 ian0 icd0 ict0), isl0⟩)
    (cI0 : PySem.W.codeIn K icd0 "BadKind.__init__" = true)
    (kI0 : PySem.W.keepIn K (.ref I0) = true)
    (bC0 : clsB K C0 I0 ["kind"] = true)
    (aC1 : PySem.W.nsIn K mainGlobals "BadWidth" = some (some (.ref C1)))
    (xL1 : K.lookup C1 = some (excClassObj nm1 q1 C1 N1 bs1 [.ref D, .type "ValueError", .type "Exception", .type "BaseException", .type "object"] true sn1 sub1 ab1 col1 dd1 m01 m11 m21 m31 m51 "ValueError.__new__"))
    (aI1 : PySem.W.findIn K (.ref C1) "__init__" = some (some (.ref I1)))
    (lI1 : K.lookup I1 = some ⟨ioc1, iod1, .func (PySem.W.fnOf "__init__" "BadWidth.__init__" (defArgs iBadWidth) (defBody iBadWidth) (defScope iBadWidth) .none ikV1 idc1 ipm1 ian1 icd1 ict1), isl1⟩)
    (cI1 : PySem.W.codeIn K icd1 "BadWidth.__init__" = true)
    (kI1 : PySem.W.keepIn K (.ref I1) = true)
    (bC1 : clsB K C1 I1 ["width"] = true)
    (aC2 : PySem.W.nsIn K mainGlobals "BadLine" = some (some (.ref C2)))
    (xL2 : K.lookup C2 = some (excClassObj nm2 q2 C2 N2 bs2 [.ref D, .type "ValueError", .type "Exception", .type "BaseException", .type "object"] true sn2 sub2 ab2 col2 dd2 m02 m12 m22 m32 m52 "ValueError.__new__"))
    (aI2 : PySem.W.findIn K (.ref C2) "__init__" = some (some (.ref I2)))
    (lI2 : K.lookup I2 = some ⟨ioc2, iod2, .func (PySem.W.fnOf "__init__" "BadLine.__init__" (defArgs iBadLine) (defBody iBadLine) (defScope iBadLine) .none ikV2 idc2 ipm2 ian2 icd2 ict2), isl2⟩)
    (cI2 : PySem.W.codeIn K icd2 "BadLine.__init__" = true)
    (kI2 : PySem.W.keepIn K (.ref I2) = true)
    (bC2 : clsB K C2 I2 ["line"] = true)
    (aC3 : PySem.W.nsIn K mainGlobals "Refused" = some (some (.ref C3)))
    (xL3 : K.lookup C3 = some (excClassObj nm3 q3 C3 N3 bs3 [.ref D, .type "ValueError", .type "Exception", .type "BaseException", .type "object"] true sn3 sub3 ab3 col3 dd3 m03 m13 m23 m33 m53 "ValueError.__new__"))
    (aI3 : PySem.W.findIn K (.ref C3) "__init__" = some (some (.ref I3)))
    (lI3 : K.lookup I3 = some ⟨ioc3, iod3, .func (PySem.W.fnOf "__init__" "Refused.__init__" (defArgs iRefused) (defBody iRefused) (defScope iRefused) .none ikV3 idc3 ipm3 ian3 icd3 ict3), isl3⟩)
    (cI3 : PySem.W.codeIn K icd3 "Refused.__init__" = true)
    (kI3 : PySem.W.keepIn K (.ref I3) = true)
    (bC3 : clsB K C3 I3 ["line"] = true)
    (aC4 : PySem.W.nsIn K mainGlobals "TooMany" = some (some (.ref C4)))
    (xL4 : K.lookup C4 = some (excClassObj nm4 q4 C4 N4 bs4 [.ref D, .type "ValueError", .type "Exception", .type "BaseException", .type "object"] true sn4 sub4 ab4 col4 dd4 m04 m14 m24 m34 m54 "ValueError.__new__"))
    (aI4 : PySem.W.findIn K (.ref C4) "__init__" = some (some (.ref I4)))
    (lI4 : K.lookup I4 = some ⟨ioc4, iod4, .func (PySem.W.fnOf "__init__" "TooMany.__init__" (defArgs iTooMany) (defBody iTooMany) (defScope iTooMany) .none ikV4 idc4 ipm4 ian4 icd4 ict4), isl4⟩)
    (cI4 : PySem.W.codeIn K icd4 "TooMany.__init__" = true)
    (kI4 : PySem.W.keepIn K (.ref I4) = true)
    (bC4 : clsB K C4 I4 ["what", "many", "most"] = true)
    (a_is_kind : PySem.W.nsIn K mainGlobals "is_kind" = some (some (.ref f_is_kind)))
    (l_is_kind : K.lookup f_is_kind = some ⟨oc_is_kind, od_is_kind, .func (PySem.W.fnOf "is_kind" "is_kind" (defArgs s_is_kind) (defBody s_is_kind) (defScope s_is_kind) .none kV_is_kind dc_is_kind pm_is_kind an_is_kind cd_is_kind ct_is_kind), sl_is_kind⟩)
    (c_is_kind : PySem.W.codeIn K cd_is_kind "is_kind" = true)
    (k_is_kind : PySem.W.keepIn K (.ref f_is_kind) = true)
    (a_is_width : PySem.W.nsIn K mainGlobals "is_width" = some (some (.ref f_is_width)))
    (l_is_width : K.lookup f_is_width = some ⟨oc_is_width, od_is_width, .func (PySem.W.fnOf "is_width" "is_width" (defArgs s_is_width) (defBody s_is_width) (defScope s_is_width) .none kV_is_width dc_is_width pm_is_width an_is_width cd_is_width ct_is_width), sl_is_width⟩)
    (c_is_width : PySem.W.codeIn K cd_is_width "is_width" = true)
    (k_is_width : PySem.W.keepIn K (.ref f_is_width) = true)
    (a_allows : PySem.W.nsIn K mainGlobals "allows" = some (some (.ref f_allows)))
    (l_allows : K.lookup f_allows = some ⟨oc_allows, od_allows, .func (PySem.W.fnOf "allows" "allows" (defArgs s_allows) (defBody s_allows) (defScope s_allows) .none kV_allows dc_allows pm_allows an_allows cd_allows ct_allows), sl_allows⟩)
    (c_allows : PySem.W.codeIn K cd_allows "allows" = true)
    (k_allows : PySem.W.keepIn K (.ref f_allows) = true)
    (a_read_number : PySem.W.nsIn K mainGlobals "read_number" = some (some (.ref f_read_number)))
    (l_read_number : K.lookup f_read_number = some ⟨oc_read_number, od_read_number, .func (PySem.W.fnOf "read_number" "read_number" (defArgs s_read_number) (defBody s_read_number) (defScope s_read_number) .none kV_read_number dc_read_number pm_read_number an_read_number cd_read_number ct_read_number), sl_read_number⟩)
    (c_read_number : PySem.W.codeIn K cd_read_number "read_number" = true)
    (k_read_number : PySem.W.keepIn K (.ref f_read_number) = true)
    (a_read_side : PySem.W.nsIn K mainGlobals "read_side" = some (some (.ref f_read_side)))
    (l_read_side : K.lookup f_read_side = some ⟨oc_read_side, od_read_side, .func (PySem.W.fnOf "read_side" "read_side" (defArgs s_read_side) (defBody s_read_side) (defScope s_read_side) .none kV_read_side dc_read_side pm_read_side an_read_side cd_read_side ct_read_side), sl_read_side⟩)
    (c_read_side : PySem.W.codeIn K cd_read_side "read_side" = true)
    (k_read_side : PySem.W.keepIn K (.ref f_read_side) = true)
    (a_read_comparison : PySem.W.nsIn K mainGlobals "read_comparison" = some (some (.ref f_read_comparison)))
    (l_read_comparison : K.lookup f_read_comparison = some ⟨oc_read_comparison, od_read_comparison, .func (PySem.W.fnOf "read_comparison" "read_comparison" (defArgs s_read_comparison) (defBody s_read_comparison) (defScope s_read_comparison) .none kV_read_comparison dc_read_comparison pm_read_comparison an_read_comparison cd_read_comparison ct_read_comparison), sl_read_comparison⟩)
    (c_read_comparison : PySem.W.codeIn K cd_read_comparison "read_comparison" = true)
    (k_read_comparison : PySem.W.keepIn K (.ref f_read_comparison) = true)
    (a_read_has : PySem.W.nsIn K mainGlobals "read_has" = some (some (.ref f_read_has)))
    (l_read_has : K.lookup f_read_has = some ⟨oc_read_has, od_read_has, .func (PySem.W.fnOf "read_has" "read_has" (defArgs s_read_has) (defBody s_read_has) (defScope s_read_has) .none kV_read_has dc_read_has pm_read_has an_read_has cd_read_has ct_read_has), sl_read_has⟩)
    (c_read_has : PySem.W.codeIn K cd_read_has "read_has" = true)
    (k_read_has : PySem.W.keepIn K (.ref f_read_has) = true)
    (a_read_plain_part : PySem.W.nsIn K mainGlobals "read_plain_part" = some (some (.ref f_read_plain_part)))
    (l_read_plain_part : K.lookup f_read_plain_part = some ⟨oc_read_plain_part, od_read_plain_part, .func (PySem.W.fnOf "read_plain_part" "read_plain_part" (defArgs s_read_plain_part) (defBody s_read_plain_part) (defScope s_read_plain_part) .none kV_read_plain_part dc_read_plain_part pm_read_plain_part an_read_plain_part cd_read_plain_part ct_read_plain_part), sl_read_plain_part⟩)
    (c_read_plain_part : PySem.W.codeIn K cd_read_plain_part "read_plain_part" = true)
    (k_read_plain_part : PySem.W.keepIn K (.ref f_read_plain_part) = true)
    (a_read_part : PySem.W.nsIn K mainGlobals "read_part" = some (some (.ref f_read_part)))
    (l_read_part : K.lookup f_read_part = some ⟨oc_read_part, od_read_part, .func (PySem.W.fnOf "read_part" "read_part" (defArgs s_read_part) (defBody s_read_part) (defScope s_read_part) .none kV_read_part dc_read_part pm_read_part an_read_part cd_read_part ct_read_part), sl_read_part⟩)
    (c_read_part : PySem.W.codeIn K cd_read_part "read_part" = true)
    (k_read_part : PySem.W.keepIn K (.ref f_read_part) = true)
    (a_read_test : PySem.W.nsIn K mainGlobals "read_test" = some (some (.ref f_read_test)))
    (l_read_test : K.lookup f_read_test = some ⟨oc_read_test, od_read_test, .func (PySem.W.fnOf "read_test" "read_test" (defArgs s_read_test) (defBody s_read_test) (defScope s_read_test) .none kV_read_test dc_read_test pm_read_test an_read_test cd_read_test ct_read_test), sl_read_test⟩)
    (c_read_test : PySem.W.codeIn K cd_read_test "read_test" = true)
    (k_read_test : PySem.W.keepIn K (.ref f_read_test) = true)
    (a_names_given : PySem.W.nsIn K mainGlobals "names_given" = some (some (.ref f_names_given)))
    (l_names_given : K.lookup f_names_given = some ⟨oc_names_given, od_names_given, .func (PySem.W.fnOf "names_given" "names_given" (defArgs s_names_given) (defBody s_names_given) (defScope s_names_given) .none kV_names_given dc_names_given pm_names_given an_names_given cd_names_given ct_names_given), sl_names_given⟩)
    (c_names_given : PySem.W.codeIn K cd_names_given "names_given" = true)
    (k_names_given : PySem.W.keepIn K (.ref f_names_given) = true)
    (a_row_with_test : PySem.W.nsIn K mainGlobals "row_with_test" = some (some (.ref f_row_with_test)))
    (l_row_with_test : K.lookup f_row_with_test = some ⟨oc_row_with_test, od_row_with_test, .func (PySem.W.fnOf "row_with_test" "row_with_test" (defArgs s_row_with_test) (defBody s_row_with_test) (defScope s_row_with_test) .none kV_row_with_test dc_row_with_test pm_row_with_test an_row_with_test cd_row_with_test ct_row_with_test), sl_row_with_test⟩)
    (c_row_with_test : PySem.W.codeIn K cd_row_with_test "row_with_test" = true)
    (k_row_with_test : PySem.W.keepIn K (.ref f_row_with_test) = true)
    (a_row_of_pick : PySem.W.nsIn K mainGlobals "row_of_pick" = some (some (.ref f_row_of_pick)))
    (l_row_of_pick : K.lookup f_row_of_pick = some ⟨oc_row_of_pick, od_row_of_pick, .func (PySem.W.fnOf "row_of_pick" "row_of_pick" (defArgs s_row_of_pick) (defBody s_row_of_pick) (defScope s_row_of_pick) .none kV_row_of_pick dc_row_of_pick pm_row_of_pick an_row_of_pick cd_row_of_pick ct_row_of_pick), sl_row_of_pick⟩)
    (c_row_of_pick : PySem.W.codeIn K cd_row_of_pick "row_of_pick" = true)
    (k_row_of_pick : PySem.W.keepIn K (.ref f_row_of_pick) = true)
    (a_row_of_block_word : PySem.W.nsIn K mainGlobals "row_of_block_word" = some (some (.ref f_row_of_block_word)))
    (l_row_of_block_word : K.lookup f_row_of_block_word = some ⟨oc_row_of_block_word, od_row_of_block_word, .func (PySem.W.fnOf "row_of_block_word" "row_of_block_word" (defArgs s_row_of_block_word) (defBody s_row_of_block_word) (defScope s_row_of_block_word) .none kV_row_of_block_word dc_row_of_block_word pm_row_of_block_word an_row_of_block_word cd_row_of_block_word ct_row_of_block_word), sl_row_of_block_word⟩)
    (c_row_of_block_word : PySem.W.codeIn K cd_row_of_block_word "row_of_block_word" = true)
    (k_row_of_block_word : PySem.W.keepIn K (.ref f_row_of_block_word) = true)
    (a_read_row : PySem.W.nsIn K mainGlobals "read_row" = some (some (.ref f_read_row)))
    (l_read_row : K.lookup f_read_row = some ⟨oc_read_row, od_read_row, .func (PySem.W.fnOf "read_row" "read_row" (defArgs s_read_row) (defBody s_read_row) (defScope s_read_row) .none kV_read_row dc_read_row pm_read_row an_read_row cd_read_row ct_read_row), sl_read_row⟩)
    (c_read_row : PySem.W.codeIn K cd_read_row "read_row" = true)
    (k_read_row : PySem.W.keepIn K (.ref f_read_row) = true)
    (a_blocks_behind : PySem.W.nsIn K mainGlobals "blocks_behind" = some (some (.ref f_blocks_behind)))
    (l_blocks_behind : K.lookup f_blocks_behind = some ⟨oc_blocks_behind, od_blocks_behind, .func (PySem.W.fnOf "blocks_behind" "blocks_behind" (defArgs s_blocks_behind) (defBody s_blocks_behind) (defScope s_blocks_behind) .none kV_blocks_behind dc_blocks_behind pm_blocks_behind an_blocks_behind cd_blocks_behind ct_blocks_behind), sl_blocks_behind⟩)
    (c_blocks_behind : PySem.W.codeIn K cd_blocks_behind "blocks_behind" = true)
    (k_blocks_behind : PySem.W.keepIn K (.ref f_blocks_behind) = true)
    (a_read_rows : PySem.W.nsIn K mainGlobals "read_rows" = some (some (.ref f_read_rows)))
    (l_read_rows : K.lookup f_read_rows = some ⟨oc_read_rows, od_read_rows, .func (PySem.W.fnOf "read_rows" "read_rows" (defArgs s_read_rows) (defBody s_read_rows) (defScope s_read_rows) .none kV_read_rows dc_read_rows pm_read_rows an_read_rows cd_read_rows ct_read_rows), sl_read_rows⟩)
    (c_read_rows : PySem.W.codeIn K cd_read_rows "read_rows" = true)
    (k_read_rows : PySem.W.keepIn K (.ref f_read_rows) = true)
    (a_match_blocks : PySem.W.nsIn K mainGlobals "match_blocks" = some (some (.ref f_match_blocks)))
    (l_match_blocks : K.lookup f_match_blocks = some ⟨oc_match_blocks, od_match_blocks, .func (PySem.W.fnOf "match_blocks" "match_blocks" (defArgs s_match_blocks) (defBody s_match_blocks) (defScope s_match_blocks) .none kV_match_blocks dc_match_blocks pm_match_blocks an_match_blocks cd_match_blocks ct_match_blocks), sl_match_blocks⟩)
    (c_match_blocks : PySem.W.codeIn K cd_match_blocks "match_blocks" = true)
    (k_match_blocks : PySem.W.keepIn K (.ref f_match_blocks) = true)
    (a_keeps_order : PySem.W.nsIn K mainGlobals "keeps_order" = some (some (.ref f_keeps_order)))
    (l_keeps_order : K.lookup f_keeps_order = some ⟨oc_keeps_order, od_keeps_order, .func (PySem.W.fnOf "keeps_order" "keeps_order" (defArgs s_keeps_order) (defBody s_keeps_order) (defScope s_keeps_order) .none kV_keeps_order dc_keeps_order pm_keeps_order an_keeps_order cd_keeps_order ct_keeps_order), sl_keeps_order⟩)
    (c_keeps_order : PySem.W.codeIn K cd_keeps_order "keeps_order" = true)
    (k_keeps_order : PySem.W.keepIn K (.ref f_keeps_order) = true)
    (a_way_behind : PySem.W.nsIn K mainGlobals "way_behind" = some (some (.ref f_way_behind)))
    (l_way_behind : K.lookup f_way_behind = some ⟨oc_way_behind, od_way_behind, .func (PySem.W.fnOf "way_behind" "way_behind" (defArgs s_way_behind) (defBody s_way_behind) (defScope s_way_behind) .none kV_way_behind dc_way_behind pm_way_behind an_way_behind cd_way_behind ct_way_behind), sl_way_behind⟩)
    (c_way_behind : PySem.W.codeIn K cd_way_behind "way_behind" = true)
    (k_way_behind : PySem.W.keepIn K (.ref f_way_behind) = true)
    (a_is_turn : PySem.W.nsIn K mainGlobals "is_turn" = some (some (.ref f_is_turn)))
    (l_is_turn : K.lookup f_is_turn = some ⟨oc_is_turn, od_is_turn, .func (PySem.W.fnOf "is_turn" "is_turn" (defArgs s_is_turn) (defBody s_is_turn) (defScope s_is_turn) .none kV_is_turn dc_is_turn pm_is_turn an_is_turn cd_is_turn ct_is_turn), sl_is_turn⟩)
    (c_is_turn : PySem.W.codeIn K cd_is_turn "is_turn" = true)
    (k_is_turn : PySem.W.keepIn K (.ref f_is_turn) = true)
    (a_may_begin : PySem.W.nsIn K mainGlobals "may_begin" = some (some (.ref f_may_begin)))
    (l_may_begin : K.lookup f_may_begin = some ⟨oc_may_begin, od_may_begin, .func (PySem.W.fnOf "may_begin" "may_begin" (defArgs s_may_begin) (defBody s_may_begin) (defScope s_may_begin) .none kV_may_begin dc_may_begin pm_may_begin an_may_begin cd_may_begin ct_may_begin), sl_may_begin⟩)
    (c_may_begin : PySem.W.codeIn K cd_may_begin "may_begin" = true)
    (k_may_begin : PySem.W.keepIn K (.ref f_may_begin) = true)
    (a_least_break : PySem.W.nsIn K mainGlobals "least_break" = some (some (.ref f_least_break)))
    (l_least_break : K.lookup f_least_break = some ⟨oc_least_break, od_least_break, .func (PySem.W.fnOf "least_break" "least_break" (defArgs s_least_break) (defBody s_least_break) (defScope s_least_break) .none kV_least_break dc_least_break pm_least_break an_least_break cd_least_break ct_least_break), sl_least_break⟩)
    (c_least_break : PySem.W.codeIn K cd_least_break "least_break" = true)
    (k_least_break : PySem.W.keepIn K (.ref f_least_break) = true)
    (a_Lbag : PySem.W.nsIn K mainGlobals "_law_bag" = some (some (.ref f_Lbag)))
    (l_Lbag : K.lookup f_Lbag = some ⟨oc_Lbag, od_Lbag, .func (PySem.W.fnOf "_law_bag" "_law_bag" (defArgs sBag) (defBody sBag) (defScope sBag) .none kV_Lbag dc_Lbag pm_Lbag an_Lbag cd_Lbag ct_Lbag), sl_Lbag⟩)
    (c_Lbag : PySem.W.codeIn K cd_Lbag "_law_bag" = true)
    (k_Lbag : PySem.W.keepIn K (.ref f_Lbag) = true)
    (a_Ldraw : PySem.W.nsIn K mainGlobals "_law_draw" = some (some (.ref f_Ldraw)))
    (l_Ldraw : K.lookup f_Ldraw = some ⟨oc_Ldraw, od_Ldraw, .func (PySem.W.fnOf "_law_draw" "_law_draw" (defArgs sDraw) (defBody sDraw) (defScope sDraw) .none kV_Ldraw dc_Ldraw pm_Ldraw an_Ldraw cd_Ldraw ct_Ldraw), sl_Ldraw⟩)
    (c_Ldraw : PySem.W.codeIn K cd_Ldraw "_law_draw" = true)
    (k_Ldraw : PySem.W.keepIn K (.ref f_Ldraw) = true)
    (a_Ltest : PySem.W.nsIn K mainGlobals "_law_test" = some (some (.ref f_Ltest)))
    (l_Ltest : K.lookup f_Ltest = some ⟨oc_Ltest, od_Ltest, .func (PySem.W.fnOf "_law_test" "_law_test" (defArgs s_Ltest) (defBody s_Ltest) (defScope s_Ltest) .none kV_Ltest dc_Ltest pm_Ltest an_Ltest cd_Ltest ct_Ltest), sl_Ltest⟩)
    (c_Ltest : PySem.W.codeIn K cd_Ltest "_law_test" = true)
    (k_Ltest : PySem.W.keepIn K (.ref f_Ltest) = true)
    (a_Llines : PySem.W.nsIn K mainGlobals "_law_lines" = some (some (.ref f_Llines)))
    (l_Llines : K.lookup f_Llines = some ⟨oc_Llines, od_Llines, .func (PySem.W.fnOf "_law_lines" "_law_lines" (defArgs s_Llines) (defBody s_Llines) (defScope s_Llines) .none kV_Llines dc_Llines pm_Llines an_Llines cd_Llines ct_Llines), sl_Llines⟩)
    (c_Llines : PySem.W.codeIn K cd_Llines "_law_lines" = true)
    (k_Llines : PySem.W.keepIn K (.ref f_Llines) = true)
    (a_Lbad : PySem.W.nsIn K mainGlobals "_law_bad" = some (some (.ref f_Lbad)))
    (l_Lbad : K.lookup f_Lbad = some ⟨oc_Lbad, od_Lbad, .func (PySem.W.fnOf "_law_bad" "_law_bad" (defArgs s_Lbad) (defBody s_Lbad) (defScope s_Lbad) .none kV_Lbad dc_Lbad pm_Lbad an_Lbad cd_Lbad ct_Lbad), sl_Lbad⟩)
    (c_Lbad : PySem.W.codeIn K cd_Lbad "_law_bad" = true)
    (k_Lbad : PySem.W.keepIn K (.ref f_Lbad) = true)
    (a_Lopen : PySem.W.nsIn K mainGlobals "_law_open" = some (some (.ref f_Lopen)))
    (l_Lopen : K.lookup f_Lopen = some ⟨oc_Lopen, od_Lopen, .func (PySem.W.fnOf "_law_open" "_law_open" (defArgs s_Lopen) (defBody s_Lopen) (defScope s_Lopen) .none kV_Lopen dc_Lopen pm_Lopen an_Lopen cd_Lopen ct_Lopen), sl_Lopen⟩)
    (c_Lopen : PySem.W.codeIn K cd_Lopen "_law_open" = true)
    (k_Lopen : PySem.W.keepIn K (.ref f_Lopen) = true)
    (a_Ltold : PySem.W.nsIn K mainGlobals "_law_told" = some (some (.ref f_Ltold)))
    (l_Ltold : K.lookup f_Ltold = some ⟨oc_Ltold, od_Ltold, .func (PySem.W.fnOf "_law_told" "_law_told" (defArgs s_Ltold) (defBody s_Ltold) (defScope s_Ltold) .none kV_Ltold dc_Ltold pm_Ltold an_Ltold cd_Ltold ct_Ltold), sl_Ltold⟩)
    (c_Ltold : PySem.W.codeIn K cd_Ltold "_law_told" = true)
    (k_Ltold : PySem.W.keepIn K (.ref f_Ltold) = true)
    (a_law : PySem.W.nsIn K mainGlobals "law" = some (some (.ref f_law)))
    (l_law : K.lookup f_law = some ⟨oc_law, od_law, .func (PySem.W.fnOf "law" "law" (defArgs s_law) (defBody s_law) (defScope s_law) .none kV_law dc_law pm_law an_law cd_law ct_law), sl_law⟩)
    (c_law : PySem.W.codeIn K cd_law "law" = true)
    (k_law : PySem.W.keepIn K (.ref f_law) = true)
    (aR : PySem.W.nsIn K mainGlobals "Row" = some (some (.ref CR)))
    (aRi : PySem.W.findIn K (.ref CR) "__init__" = some (some (.ref IR)))
    (lR : K.lookup IR = some ⟨ocR, odR, .func (PySem.W.fnOf "__init__" "Row.__init__" (defArgs s_Row_init) (defBody s_Row_init) (defScope s_Row_init) (.ref TD) kVR dcR pmR anR cdR ctR), slR⟩)
    (cR : PySem.W.codeIn K cdR "Row.__init__" = true)
    (kR : PySem.W.keepIn K (.ref IR) = true)
    (bR : clB K CR IR ["word", "place", "number", "test"] = true)
    (dR : dflB K TD = true)
    (aW : PySem.W.nsIn K mainGlobals "Walk" = some (some (.ref CW)))
    (uW0 : PySem.W.findIn K (.ref CW) "__init__" = some (some (.ref W0)))
    (lW0 : K.lookup W0 = some ⟨ocW0, odW0, .func (PySem.W.fnOf "__init__" "Walk.__init__" (defArgs s_Walk_init) (defBody s_Walk_init) (defScope s_Walk_init) .none kVW0 dcW0 pmW0 anW0 cdW0 ctW0), slW0⟩)
    (cW0 : PySem.W.codeIn K cdW0 "Walk.__init__" = true)
    (kW0 : PySem.W.keepIn K (.ref W0) = true)
    (bW0 : methB K CW "__init__" W0 = true)
    (uW1 : PySem.W.findIn K (.ref CW) "step" = some (some (.ref W1)))
    (lW1 : K.lookup W1 = some ⟨ocW1, odW1, .func (PySem.W.fnOf "step" "Walk.step" (defArgs s_Walk_step) (defBody s_Walk_step) (defScope s_Walk_step) .none kVW1 dcW1 pmW1 anW1 cdW1 ctW1), slW1⟩)
    (cW1 : PySem.W.codeIn K cdW1 "Walk.step" = true)
    (kW1 : PySem.W.keepIn K (.ref W1) = true)
    (bW1 : methB K CW "step" W1 = true)
    (uW2 : PySem.W.findIn K (.ref CW) "begin_loop" = some (some (.ref W2)))
    (lW2 : K.lookup W2 = some ⟨ocW2, odW2, .func (PySem.W.fnOf "begin_loop" "Walk.begin_loop" (defArgs s_Walk_begin_loop) (defBody s_Walk_begin_loop) (defScope s_Walk_begin_loop) .none kVW2 dcW2 pmW2 anW2 cdW2 ctW2), slW2⟩)
    (cW2 : PySem.W.codeIn K cdW2 "Walk.begin_loop" = true)
    (kW2 : PySem.W.keepIn K (.ref W2) = true)
    (bW2 : methB K CW "begin_loop" W2 = true)
    (uW3 : PySem.W.findIn K (.ref CW) "stay_in_loop" = some (some (.ref W3)))
    (lW3 : K.lookup W3 = some ⟨ocW3, odW3, .func (PySem.W.fnOf "stay_in_loop" "Walk.stay_in_loop" (defArgs s_Walk_stay_in_loop) (defBody s_Walk_stay_in_loop) (defScope s_Walk_stay_in_loop) .none kVW3 dcW3 pmW3 anW3 cdW3 ctW3), slW3⟩)
    (cW3 : PySem.W.codeIn K cdW3 "Walk.stay_in_loop" = true)
    (kW3 : PySem.W.keepIn K (.ref W3) = true)
    (bW3 : methB K CW "stay_in_loop" W3 = true)
    (uW4 : PySem.W.findIn K (.ref CW) "fork" = some (some (.ref W4)))
    (lW4 : K.lookup W4 = some ⟨ocW4, odW4, .func (PySem.W.fnOf "fork" "Walk.fork" (defArgs s_Walk_fork) (defBody s_Walk_fork) (defScope s_Walk_fork) .none kVW4 dcW4 pmW4 anW4 cdW4 ctW4), slW4⟩)
    (cW4 : PySem.W.codeIn K cdW4 "Walk.fork" = true)
    (kW4 : PySem.W.keepIn K (.ref W4) = true)
    (bW4 : methB K CW "fork" W4 = true)
    (uW5 : PySem.W.findIn K (.ref CW) "pass_line" = some (some (.ref W5)))
    (lW5 : K.lookup W5 = some ⟨ocW5, odW5, .func (PySem.W.fnOf "pass_line" "Walk.pass_line" (defArgs s_Walk_pass_line) (defBody s_Walk_pass_line) (defScope s_Walk_pass_line) .none kVW5 dcW5 pmW5 anW5 cdW5 ctW5), slW5⟩)
    (cW5 : PySem.W.codeIn K cdW5 "Walk.pass_line" = true)
    (kW5 : PySem.W.keepIn K (.ref W5) = true)
    (bW5 : methB K CW "pass_line" W5 = true)
    (uW6 : PySem.W.findIn K (.ref CW) "end_ways" = some (some (.ref W6)))
    (lW6 : K.lookup W6 = some ⟨ocW6, odW6, .func (PySem.W.fnOf "end_ways" "Walk.end_ways" (defArgs s_Walk_end_ways) (defBody s_Walk_end_ways) (defScope s_Walk_end_ways) .none kVW6 dcW6 pmW6 anW6 cdW6 ctW6), slW6⟩)
    (cW6 : PySem.W.codeIn K cdW6 "Walk.end_ways" = true)
    (kW6 : PySem.W.keepIn K (.ref W6) = true)
    (bW6 : methB K CW "end_ways" W6 = true)
    (bW : clB K CW W0 ["kind", "broken", "ways", "forks", "turning"] = true)
    (aY : PySem.W.nsIn K mainGlobals "Flow" = some (some (.ref CY)))
    (uY0 : PySem.W.findIn K (.ref CY) "__init__" = some (some (.ref Y0)))
    (lY0 : K.lookup Y0 = some ⟨ocY0, odY0, .func (PySem.W.fnOf "__init__" "Flow.__init__" (defArgs s_Flow_init) (defBody s_Flow_init) (defScope s_Flow_init) .none kVY0 dcY0 pmY0 anY0 cdY0 ctY0), slY0⟩)
    (cY0 : PySem.W.codeIn K cdY0 "Flow.__init__" = true)
    (kY0 : PySem.W.keepIn K (.ref Y0) = true)
    (bY0 : methB K CY "__init__" Y0 = true)
    (uY1 : PySem.W.findIn K (.ref CY) "landing" = some (some (.ref Y1)))
    (lY1 : K.lookup Y1 = some ⟨ocY1, odY1, .func (PySem.W.fnOf "landing" "Flow.landing" (defArgs s_Flow_landing) (defBody s_Flow_landing) (defScope s_Flow_landing) .none kVY1 dcY1 pmY1 anY1 cdY1 ctY1), slY1⟩)
    (cY1 : PySem.W.codeIn K cdY1 "Flow.landing" = true)
    (kY1 : PySem.W.keepIn K (.ref Y1) = true)
    (bY1 : methB K CY "landing" Y1 = true)
    (uY2 : PySem.W.findIn K (.ref CY) "way_past" = some (some (.ref Y2)))
    (lY2 : K.lookup Y2 = some ⟨ocY2, odY2, .func (PySem.W.fnOf "way_past" "Flow.way_past" (defArgs s_Flow_way_past) (defBody s_Flow_way_past) (defScope s_Flow_way_past) .none kVY2 dcY2 pmY2 anY2 cdY2 ctY2), slY2⟩)
    (cY2 : PySem.W.codeIn K cdY2 "Flow.way_past" = true)
    (kY2 : PySem.W.keepIn K (.ref Y2) = true)
    (bY2 : methB K CY "way_past" Y2 = true)
    (uY3 : PySem.W.findIn K (.ref CY) "find_loops" = some (some (.ref Y3)))
    (lY3 : K.lookup Y3 = some ⟨ocY3, odY3, .func (PySem.W.fnOf "find_loops" "Flow.find_loops" (defArgs s_Flow_find_loops) (defBody s_Flow_find_loops) (defScope s_Flow_find_loops) .none kVY3 dcY3 pmY3 anY3 cdY3 ctY3), slY3⟩)
    (cY3 : PySem.W.codeIn K cdY3 "Flow.find_loops" = true)
    (kY3 : PySem.W.keepIn K (.ref Y3) = true)
    (bY3 : methB K CY "find_loops" Y3 = true)
    (bY : clB K CY Y0 ["rows", "size", "heads", "ends", "after", "other", "loop_of"] = true)
    (aZ : PySem.W.nsIn K mainGlobals "Code" = some (some (.ref CZ)))
    (uZ0 : PySem.W.findIn K (.ref CZ) "__init__" = some (some (.ref Z0)))
    (lZ0 : K.lookup Z0 = some ⟨ocZ0, odZ0, .func (PySem.W.fnOf "__init__" "Code.__init__" (defArgs s_Code_init) (defBody s_Code_init) (defScope s_Code_init) .none kVZ0 dcZ0 pmZ0 anZ0 cdZ0 ctZ0), slZ0⟩)
    (cZ0 : PySem.W.codeIn K cdZ0 "Code.__init__" = true)
    (kZ0 : PySem.W.keepIn K (.ref Z0) = true)
    (bZ0 : methB K CZ "__init__" Z0 = true)
    (bZ : clB K CZ Z0 ["kind", "width", "text", "flow", "memory", "_lines"] = true)
    (aB : PySem.W.nsIn K mainGlobals "HeapError" = some (some (.ref D)))
    (rB : PySem.W.readsIn K D (.type "type") = true)
    (gB : PySem.W.specialIn K (.ref D) "__getattribute__" = some (some (.builtin "type.__getattribute__")))
    (fB : PySem.W.findCls K (.ref D) (.type "type") "__init__" = some (.val (.builtin "ValueError.__init__")))
    (z_int : PySem.W.nsIn K mainGlobals "int" = some none)
    (z_list : PySem.W.nsIn K mainGlobals "list" = some none)
    (z_len : PySem.W.nsIn K mainGlobals "len" = some none)
    (z_isinstance : PySem.W.nsIn K mainGlobals "isinstance" = some none)
    (z_range : PySem.W.nsIn K mainGlobals "range" = some none)
    (z_str : PySem.W.nsIn K mainGlobals "str" = some none)
    (z_tuple : PySem.W.nsIn K mainGlobals "tuple" = some none)
    (z_any : PySem.W.nsIn K mainGlobals "any" = some none)
    (z_enumerate : PySem.W.nsIn K mainGlobals "enumerate" = some none)
    (z_min : PySem.W.nsIn K mainGlobals "min" = some none)
    (z_bool : PySem.W.nsIn K mainGlobals "bool" = some none)
    (p22 : decide (PySem.W.exmOne K (.ref C2) (.ref C2) = some true) = true)
    (p32 : decide (PySem.W.exmOne K (.ref C3) (.ref C2) = some false) = true)
    (p33 : decide (PySem.W.exmOne K (.ref C3) (.ref C3) = some true) = true)
    (aKINDS : PySem.W.nsIn K mainGlobals "KINDS" = some (some (.ref tKINDS)))
    (bKINDS : tupB K tKINDS kindsV = true)
    (aWIDTHS : PySem.W.nsIn K mainGlobals "WIDTHS" = some (some (.ref tWIDTHS)))
    (bWIDTHS : tupB K tWIDTHS widthsV = true)
    (aGIVEN : PySem.W.nsIn K mainGlobals "GIVEN" = some (some (.ref tGIVEN)))
    (bGIVEN : tupB K tGIVEN [.str "given", .int 0] = true)
    (aNUMBERS : PySem.W.nsIn K mainGlobals "NUMBERS" = some (some (.ref tNUMBERS)))
    (bNUMBERS : tupB K tNUMBERS numsV = true)
    (aSIGNS : PySem.W.nsIn K mainGlobals "SIGNS" = some (some (.ref tSIGNS)))
    (bSIGNS : tupB K tSIGNS signsV = true)
    (aLOOPS : PySem.W.nsIn K mainGlobals "LOOPS" = some (some (.ref tLOOPS)))
    (bLOOPS : tupB K tLOOPS loopsV = true)
    (aTOP_WORDS : PySem.W.nsIn K mainGlobals "TOP_WORDS" = some (some (.ref tTOP_WORDS)))
    (bTOP_WORDS : tupB K tTOP_WORDS topV = true)
    (aLOOP_WORDS : PySem.W.nsIn K mainGlobals "LOOP_WORDS" = some (some (.ref tLOOP_WORDS)))
    (bLOOP_WORDS : tupB K tLOOP_WORDS inLoopV = true)
    (aONCE : PySem.W.nsIn K mainGlobals "ONCE" = some (some (.ref tONCE)))
    (bONCE : tupB K tONCE onceV = true)
    (aAHEAD_OF_LOOPS : PySem.W.nsIn K mainGlobals "AHEAD_OF_LOOPS" = some (some (.ref tAHEAD_OF_LOOPS)))
    (bAHEAD_OF_LOOPS : tupB K tAHEAD_OF_LOOPS aheadV = true)
    (aFRESH : PySem.W.nsIn K mainGlobals "FRESH" = some (some (.ref tF)))
    (bFRESH : wayB K tF = true)
    (a60 : PySem.W.nsIn K mainGlobals "MOST_LINES" = some (some (.int 60 tk60)))
    (aA : PySem.W.nsIn K mainGlobals "ALLOWED" = some (some (.ref dA)))
    (lA : K.lookup dA = some ⟨.type "dict", none, .dict esA nA, #[]⟩)
    (kA : PySem.W.KeysLit w.params esA.toList)
    (sA : (dA == sysModules) = false)
    (nA1 : allFreeB K dA = true)
    (nA2 : allTabB K dA = true)
    (aS : PySem.W.nsIn K mainGlobals "SIDES" = some (some (.ref dS)))
    (lS : K.lookup dS = some ⟨.type "dict", none, .dict esS nS, #[]⟩)
    (kS : PySem.W.KeysLit w.params esS.toList)
    (nS1 : sidesB K dS = true)
    : ∃ fd : FuncData, (∀ (s : Shared) (v : Value), BindsTo s fd ⟨[v], []⟩ [("_law_script", v)]) ∧ ∀ base : Heap, K.In base → base.Ns mainGlobals mg → FnOk P w K mg base CX0 13 fa fd ["_law_script"] (spLaw K) := by
  have e := hfa.symm.trans (PySem.W.mg_of X G a_law)
  cases e
  have F_is_kind := fun_mk (st := s_is_kind) l_is_kind c_is_kind k_is_kind
  have b_is_kind := F_is_kind.binds (ps := ["value"]) fun _ _ _ _ _ _ us hl => match us, hl with | [_], _ => rfl
  have m_is_kind := PySem.W.mg_of X G a_is_kind
  have T_is_kind : FT K mg "is_kind" s_is_kind ["value"] f_is_kind := ⟨m_is_kind, _, F_is_kind, b_is_kind⟩
  have F_is_width := fun_mk (st := s_is_width) l_is_width c_is_width k_is_width
  have b_is_width := F_is_width.binds (ps := ["value"]) fun _ _ _ _ _ _ us hl => match us, hl with | [_], _ => rfl
  have m_is_width := PySem.W.mg_of X G a_is_width
  have T_is_width : FT K mg "is_width" s_is_width ["value"] f_is_width := ⟨m_is_width, _, F_is_width, b_is_width⟩
  have F_allows := fun_mk (st := s_allows) l_allows c_allows k_allows
  have b_allows := F_allows.binds (ps := ["kind", "word"]) fun _ _ _ _ _ _ us hl => match us, hl with | [_, _], _ => rfl
  have m_allows := PySem.W.mg_of X G a_allows
  have T_allows : FT K mg "allows" s_allows ["kind", "word"] f_allows := ⟨m_allows, _, F_allows, b_allows⟩
  have F_read_number := fun_mk (st := s_read_number) l_read_number c_read_number k_read_number
  have b_read_number := F_read_number.binds (ps := ["word", "width"]) fun _ _ _ _ _ _ us hl => match us, hl with | [_, _], _ => rfl
  have m_read_number := PySem.W.mg_of X G a_read_number
  have T_read_number : FT K mg "read_number" s_read_number ["word", "width"] f_read_number := ⟨m_read_number, _, F_read_number, b_read_number⟩
  have F_read_side := fun_mk (st := s_read_side) l_read_side c_read_side k_read_side
  have b_read_side := F_read_side.binds (ps := ["words", "place", "width"]) fun _ _ _ _ _ _ us hl => match us, hl with | [_, _, _], _ => rfl
  have m_read_side := PySem.W.mg_of X G a_read_side
  have T_read_side : FT K mg "read_side" s_read_side ["words", "place", "width"] f_read_side := ⟨m_read_side, _, F_read_side, b_read_side⟩
  have F_read_comparison := fun_mk (st := s_read_comparison) l_read_comparison c_read_comparison k_read_comparison
  have b_read_comparison := F_read_comparison.binds (ps := ["words", "place", "width"]) fun _ _ _ _ _ _ us hl => match us, hl with | [_, _, _], _ => rfl
  have m_read_comparison := PySem.W.mg_of X G a_read_comparison
  have T_read_comparison : FT K mg "read_comparison" s_read_comparison ["words", "place", "width"] f_read_comparison := ⟨m_read_comparison, _, F_read_comparison, b_read_comparison⟩
  have F_read_has := fun_mk (st := s_read_has) l_read_has c_read_has k_read_has
  have b_read_has := F_read_has.binds (ps := ["words", "place", "width"]) fun _ _ _ _ _ _ us hl => match us, hl with | [_, _, _], _ => rfl
  have m_read_has := PySem.W.mg_of X G a_read_has
  have T_read_has : FT K mg "read_has" s_read_has ["words", "place", "width"] f_read_has := ⟨m_read_has, _, F_read_has, b_read_has⟩
  have F_read_plain_part := fun_mk (st := s_read_plain_part) l_read_plain_part c_read_plain_part k_read_plain_part
  have b_read_plain_part := F_read_plain_part.binds (ps := ["text", "place", "width"]) fun _ _ _ _ _ _ us hl => match us, hl with | [_, _, _], _ => rfl
  have m_read_plain_part := PySem.W.mg_of X G a_read_plain_part
  have T_read_plain_part : FT K mg "read_plain_part" s_read_plain_part ["text", "place", "width"] f_read_plain_part := ⟨m_read_plain_part, _, F_read_plain_part, b_read_plain_part⟩
  have F_read_part := fun_mk (st := s_read_part) l_read_part c_read_part k_read_part
  have b_read_part := F_read_part.binds (ps := ["text", "place", "width"]) fun _ _ _ _ _ _ us hl => match us, hl with | [_, _, _], _ => rfl
  have m_read_part := PySem.W.mg_of X G a_read_part
  have T_read_part : FT K mg "read_part" s_read_part ["text", "place", "width"] f_read_part := ⟨m_read_part, _, F_read_part, b_read_part⟩
  have F_read_test := fun_mk (st := s_read_test) l_read_test c_read_test k_read_test
  have b_read_test := F_read_test.binds (ps := ["text", "place", "width"]) fun _ _ _ _ _ _ us hl => match us, hl with | [_, _, _], _ => rfl
  have m_read_test := PySem.W.mg_of X G a_read_test
  have T_read_test : FT K mg "read_test" s_read_test ["text", "place", "width"] f_read_test := ⟨m_read_test, _, F_read_test, b_read_test⟩
  have F_names_given := fun_mk (st := s_names_given) l_names_given c_names_given k_names_given
  have b_names_given := F_names_given.binds (ps := ["test"]) fun _ _ _ _ _ _ us hl => match us, hl with | [_], _ => rfl
  have m_names_given := PySem.W.mg_of X G a_names_given
  have T_names_given : FT K mg "names_given" s_names_given ["test"] f_names_given := ⟨m_names_given, _, F_names_given, b_names_given⟩
  have F_row_with_test := fun_mk (st := s_row_with_test) l_row_with_test c_row_with_test k_row_with_test
  have b_row_with_test := F_row_with_test.binds (ps := ["word", "place", "text", "width"]) fun _ _ _ _ _ _ us hl => match us, hl with | [_, _, _, _], _ => rfl
  have m_row_with_test := PySem.W.mg_of X G a_row_with_test
  have T_row_with_test : FT K mg "row_with_test" s_row_with_test ["word", "place", "text", "width"] f_row_with_test := ⟨m_row_with_test, _, F_row_with_test, b_row_with_test⟩
  have F_row_of_pick := fun_mk (st := s_row_of_pick) l_row_of_pick c_row_of_pick k_row_of_pick
  have b_row_of_pick := F_row_of_pick.binds (ps := ["place", "text", "width"]) fun _ _ _ _ _ _ us hl => match us, hl with | [_, _, _], _ => rfl
  have m_row_of_pick := PySem.W.mg_of X G a_row_of_pick
  have T_row_of_pick : FT K mg "row_of_pick" s_row_of_pick ["place", "text", "width"] f_row_of_pick := ⟨m_row_of_pick, _, F_row_of_pick, b_row_of_pick⟩
  have F_row_of_block_word := fun_mk (st := s_row_of_block_word) l_row_of_block_word c_row_of_block_word k_row_of_block_word
  have b_row_of_block_word := F_row_of_block_word.binds (ps := ["word", "place", "opened"]) fun _ _ _ _ _ _ us hl => match us, hl with | [_, _, _], _ => rfl
  have m_row_of_block_word := PySem.W.mg_of X G a_row_of_block_word
  have T_row_of_block_word : FT K mg "row_of_block_word" s_row_of_block_word ["word", "place", "opened"] f_row_of_block_word := ⟨m_row_of_block_word, _, F_row_of_block_word, b_row_of_block_word⟩
  have F_read_row := fun_mk (st := s_read_row) l_read_row c_read_row k_read_row
  have b_read_row := F_read_row.binds (ps := ["line", "opened", "width"]) fun _ _ _ _ _ _ us hl => match us, hl with | [_, _, _], _ => rfl
  have m_read_row := PySem.W.mg_of X G a_read_row
  have T_read_row : FT K mg "read_row" s_read_row ["line", "opened", "width"] f_read_row := ⟨m_read_row, _, F_read_row, b_read_row⟩
  have F_blocks_behind := fun_mk (st := s_blocks_behind) l_blocks_behind c_blocks_behind k_blocks_behind
  have b_blocks_behind := F_blocks_behind.binds (ps := ["word", "opened"]) fun _ _ _ _ _ _ us hl => match us, hl with | [_, _], _ => rfl
  have m_blocks_behind := PySem.W.mg_of X G a_blocks_behind
  have T_blocks_behind : FT K mg "blocks_behind" s_blocks_behind ["word", "opened"] f_blocks_behind := ⟨m_blocks_behind, _, F_blocks_behind, b_blocks_behind⟩
  have F_read_rows := fun_mk (st := s_read_rows) l_read_rows c_read_rows k_read_rows
  have b_read_rows := F_read_rows.binds (ps := ["lines", "width"]) fun _ _ _ _ _ _ us hl => match us, hl with | [_, _], _ => rfl
  have m_read_rows := PySem.W.mg_of X G a_read_rows
  have T_read_rows : FT K mg "read_rows" s_read_rows ["lines", "width"] f_read_rows := ⟨m_read_rows, _, F_read_rows, b_read_rows⟩
  have F_match_blocks := fun_mk (st := s_match_blocks) l_match_blocks c_match_blocks k_match_blocks
  have b_match_blocks := F_match_blocks.binds (ps := ["rows"]) fun _ _ _ _ _ _ us hl => match us, hl with | [_], _ => rfl
  have m_match_blocks := PySem.W.mg_of X G a_match_blocks
  have T_match_blocks : FT K mg "match_blocks" s_match_blocks ["rows"] f_match_blocks := ⟨m_match_blocks, _, F_match_blocks, b_match_blocks⟩
  have F_keeps_order := fun_mk (st := s_keeps_order) l_keeps_order c_keeps_order k_keeps_order
  have b_keeps_order := F_keeps_order.binds (ps := ["way", "word"]) fun _ _ _ _ _ _ us hl => match us, hl with | [_, _], _ => rfl
  have m_keeps_order := PySem.W.mg_of X G a_keeps_order
  have T_keeps_order : FT K mg "keeps_order" s_keeps_order ["way", "word"] f_keeps_order := ⟨m_keeps_order, _, F_keeps_order, b_keeps_order⟩
  have F_way_behind := fun_mk (st := s_way_behind) l_way_behind c_way_behind k_way_behind
  have b_way_behind := F_way_behind.binds (ps := ["way", "line", "word"]) fun _ _ _ _ _ _ us hl => match us, hl with | [_, _, _], _ => rfl
  have m_way_behind := PySem.W.mg_of X G a_way_behind
  have T_way_behind : FT K mg "way_behind" s_way_behind ["way", "line", "word"] f_way_behind := ⟨m_way_behind, _, F_way_behind, b_way_behind⟩
  have F_is_turn := fun_mk (st := s_is_turn) l_is_turn c_is_turn k_is_turn
  have b_is_turn := F_is_turn.binds (ps := ["way", "word"]) fun _ _ _ _ _ _ us hl => match us, hl with | [_, _], _ => rfl
  have m_is_turn := PySem.W.mg_of X G a_is_turn
  have T_is_turn : FT K mg "is_turn" s_is_turn ["way", "word"] f_is_turn := ⟨m_is_turn, _, F_is_turn, b_is_turn⟩
  have F_may_begin := fun_mk (st := s_may_begin) l_may_begin c_may_begin k_may_begin
  have b_may_begin := F_may_begin.binds (ps := ["way", "word"]) fun _ _ _ _ _ _ us hl => match us, hl with | [_, _], _ => rfl
  have m_may_begin := PySem.W.mg_of X G a_may_begin
  have T_may_begin : FT K mg "may_begin" s_may_begin ["way", "word"] f_may_begin := ⟨m_may_begin, _, F_may_begin, b_may_begin⟩
  have F_least_break := fun_mk (st := s_least_break) l_least_break c_least_break k_least_break
  have b_least_break := F_least_break.binds (ps := ["kind", "rows"]) fun _ _ _ _ _ _ us hl => match us, hl with | [_, _], _ => rfl
  have m_least_break := PySem.W.mg_of X G a_least_break
  have T_least_break : FT K mg "least_break" s_least_break ["kind", "rows"] f_least_break := ⟨m_least_break, _, F_least_break, b_least_break⟩
  have F_Lbag := fun_mk (st := sBag) l_Lbag c_Lbag k_Lbag
  have b_Lbag := F_Lbag.binds (ps := ["_law_script"]) fun _ _ _ _ _ _ us hl => match us, hl with | [_], _ => rfl
  have m_Lbag := PySem.W.mg_of X G a_Lbag
  have T_Lbag : FT K mg "_law_bag" sBag ["_law_script"] f_Lbag := ⟨m_Lbag, _, F_Lbag, b_Lbag⟩
  have F_Ldraw := fun_mk (st := sDraw) l_Ldraw c_Ldraw k_Ldraw
  have b_Ldraw := F_Ldraw.binds (ps := ["_law_bag_here", "_law_limit"]) fun _ _ _ _ _ _ us hl => match us, hl with | [_, _], _ => rfl
  have m_Ldraw := PySem.W.mg_of X G a_Ldraw
  have T_Ldraw : FT K mg "_law_draw" sDraw ["_law_bag_here", "_law_limit"] f_Ldraw := ⟨m_Ldraw, _, F_Ldraw, b_Ldraw⟩
  have F_Ltest := fun_mk (st := s_Ltest) l_Ltest c_Ltest k_Ltest
  have b_Ltest := F_Ltest.binds (ps := ["_law_bag_here", "_law_place", "_law_width"]) fun _ _ _ _ _ _ us hl => match us, hl with | [_, _, _], _ => rfl
  have m_Ltest := PySem.W.mg_of X G a_Ltest
  have T_Ltest : FT K mg "_law_test" s_Ltest ["_law_bag_here", "_law_place", "_law_width"] f_Ltest := ⟨m_Ltest, _, F_Ltest, b_Ltest⟩
  have F_Llines := fun_mk (st := s_Llines) l_Llines c_Llines k_Llines
  have b_Llines := F_Llines.binds (ps := ["_law_bag_here", "_law_place", "_law_deep", "_law_width", "_law_left"]) fun _ _ _ _ _ _ us hl => match us, hl with | [_, _, _, _, _], _ => rfl
  have m_Llines := PySem.W.mg_of X G a_Llines
  have T_Llines : FT K mg "_law_lines" s_Llines ["_law_bag_here", "_law_place", "_law_deep", "_law_width", "_law_left"] f_Llines := ⟨m_Llines, _, F_Llines, b_Llines⟩
  have F_Lbad := fun_mk (st := s_Lbad) l_Lbad c_Lbad k_Lbad
  have b_Lbad := F_Lbad.binds (ps := ["_law_bag_here", "_law_place", "_law_width"]) fun _ _ _ _ _ _ us hl => match us, hl with | [_, _, _], _ => rfl
  have m_Lbad := PySem.W.mg_of X G a_Lbad
  have T_Lbad : FT K mg "_law_bad" s_Lbad ["_law_bag_here", "_law_place", "_law_width"] f_Lbad := ⟨m_Lbad, _, F_Lbad, b_Lbad⟩
  have F_Lopen := fun_mk (st := s_Lopen) l_Lopen c_Lopen k_Lopen
  have b_Lopen := F_Lopen.binds (ps := ["_law_row"]) fun _ _ _ _ _ _ us hl => match us, hl with | [_], _ => rfl
  have m_Lopen := PySem.W.mg_of X G a_Lopen
  have T_Lopen : FT K mg "_law_open" s_Lopen ["_law_row"] f_Lopen := ⟨m_Lopen, _, F_Lopen, b_Lopen⟩
  have F_Ltold := fun_mk (st := s_Ltold) l_Ltold c_Ltold k_Ltold
  have b_Ltold := F_Ltold.binds (ps := ["_law_kind", "_law_width", "_law_lines_here"]) fun _ _ _ _ _ _ us hl => match us, hl with | [_, _, _], _ => rfl
  have m_Ltold := PySem.W.mg_of X G a_Ltold
  have T_Ltold : FT K mg "_law_told" s_Ltold ["_law_kind", "_law_width", "_law_lines_here"] f_Ltold := ⟨m_Ltold, _, F_Ltold, b_Ltold⟩
  have F_law := fun_mk (st := s_law) l_law c_law k_law
  have b_law := F_law.binds (ps := ["_law_script"]) fun _ _ _ _ _ _ us hl => match us, hl with | [_], _ => rfl
  have m_law := PySem.W.mg_of X G a_law
  have y_int := PySem.W.mg_none_of X G z_int
  have y_list := PySem.W.mg_none_of X G z_list
  have y_len := PySem.W.mg_none_of X G z_len
  have y_isinstance := PySem.W.mg_none_of X G z_isinstance
  have y_range := PySem.W.mg_none_of X G z_range
  have y_str := PySem.W.mg_none_of X G z_str
  have y_tuple := PySem.W.mg_none_of X G z_tuple
  have y_any := PySem.W.mg_none_of X G z_any
  have y_enumerate := PySem.W.mg_none_of X G z_enumerate
  have y_min := PySem.W.mg_none_of X G z_min
  have y_bool := PySem.W.mg_none_of X G z_bool
  have B : BltT mg := ⟨y_int, y_list, y_len⟩
  have T0 : ClT K mg "BadKind" "BadKind.__init__" iBadKind ["self", "kind"] ["kind"] C0 I0 := cl_mk X G aC0 xL0 lI0 cI0 kI0 (fun _ _ _ _ _ _ us hl => match us, hl with | [_, _], _ => rfl) bC0
  have T1 : ClT K mg "BadWidth" "BadWidth.__init__" iBadWidth ["self", "width"] ["width"] C1 I1 := cl_mk X G aC1 xL1 lI1 cI1 kI1 (fun _ _ _ _ _ _ us hl => match us, hl with | [_, _], _ => rfl) bC1
  have T2 : ClT K mg "BadLine" "BadLine.__init__" iBadLine ["self", "line"] ["line"] C2 I2 := cl_mk X G aC2 xL2 lI2 cI2 kI2 (fun _ _ _ _ _ _ us hl => match us, hl with | [_, _], _ => rfl) bC2
  have T3 : ClT K mg "Refused" "Refused.__init__" iRefused ["self", "line"] ["line"] C3 I3 := cl_mk X G aC3 xL3 lI3 cI3 kI3 (fun _ _ _ _ _ _ us hl => match us, hl with | [_, _], _ => rfl) bC3
  have T4 : ClT K mg "TooMany" "TooMany.__init__" iTooMany ["self", "what", "many", "most"] ["what", "many", "most"] C4 I4 := cl_mk X G aC4 xL4 lI4 cI4 kI4 (fun _ _ _ _ _ _ us hl => match us, hl with | [_, _, _, _], _ => rfl) bC4
  have ET : ErrT K mg D (fun i => [C0, C1, C2, C3, C4].getD i 0) (fun i => [I0, I1, I2, I3, I4].getD i 0) := ⟨⟨PySem.W.mg_of X G aB, ⟨rB, gB⟩, fB⟩, T0, T1, T2, T3, T4⟩
  have XT : ExmT K (fun i => [C0, C1, C2, C3, C4].getD i 0) := ⟨of_decide_eq_true p22, of_decide_eq_true p32, of_decide_eq_true p33⟩
  obtain ⟨tt, hD⟩ := dfl_of dR
  have FR := fund_mk (st := s_Row_init) lR cR kR hD
  obtain ⟨rmak, rcl, rnf⟩ := cl_of bR
  have R : RowT K mg CR IR tt := ⟨PySem.W.mg_of X G aR, rmak, rcl, rnf _ (by simp), rnf _ (by simp), rnf _ (by simp), rnf _ (by simp), _, FR⟩
  have FW0 := fun_mk (st := s_Walk_init) lW0 cW0 kW0
  have qW0 := FW0.binds (ps := ["self", "kind"]) fun _ _ _ _ _ _ us hl => match us, hl with | [_, _], _ => rfl
  obtain ⟨eW0, nW0⟩ := meth_of bW0
  have FW1 := fun_mk (st := s_Walk_step) lW1 cW1 kW1
  have qW1 := FW1.binds (ps := ["self", "line", "row"]) fun _ _ _ _ _ _ us hl => match us, hl with | [_, _, _], _ => rfl
  obtain ⟨eW1, nW1⟩ := meth_of bW1
  have FW2 := fun_mk (st := s_Walk_begin_loop) lW2 cW2 kW2
  have qW2 := FW2.binds (ps := ["self", "line", "word"]) fun _ _ _ _ _ _ us hl => match us, hl with | [_, _, _], _ => rfl
  obtain ⟨eW2, nW2⟩ := meth_of bW2
  have FW3 := fun_mk (st := s_Walk_stay_in_loop) lW3 cW3 kW3
  have qW3 := FW3.binds (ps := ["self", "line", "word"]) fun _ _ _ _ _ _ us hl => match us, hl with | [_, _, _], _ => rfl
  obtain ⟨eW3, nW3⟩ := meth_of bW3
  have FW4 := fun_mk (st := s_Walk_fork) lW4 cW4 kW4
  have qW4 := FW4.binds (ps := ["self", "line", "row"]) fun _ _ _ _ _ _ us hl => match us, hl with | [_, _, _], _ => rfl
  obtain ⟨eW4, nW4⟩ := meth_of bW4
  have FW5 := fun_mk (st := s_Walk_pass_line) lW5 cW5 kW5
  have qW5 := FW5.binds (ps := ["self", "line", "word"]) fun _ _ _ _ _ _ us hl => match us, hl with | [_, _, _], _ => rfl
  obtain ⟨eW5, nW5⟩ := meth_of bW5
  have FW6 := fun_mk (st := s_Walk_end_ways) lW6 cW6 kW6
  have qW6 := FW6.binds (ps := ["self"]) fun _ _ _ _ _ _ us hl => match us, hl with | [_], _ => rfl
  obtain ⟨eW6, nW6⟩ := meth_of bW6
  obtain ⟨makW, clW, nfW⟩ := cl_of bW
  have FY0 := fun_mk (st := s_Flow_init) lY0 cY0 kY0
  have qY0 := FY0.binds (ps := ["self", "rows"]) fun _ _ _ _ _ _ us hl => match us, hl with | [_, _], _ => rfl
  obtain ⟨eY0, nY0⟩ := meth_of bY0
  have FY1 := fun_mk (st := s_Flow_landing) lY1 cY1 kY1
  have qY1 := FY1.binds (ps := ["self", "at"]) fun _ _ _ _ _ _ us hl => match us, hl with | [_, _], _ => rfl
  obtain ⟨eY1, nY1⟩ := meth_of bY1
  have FY2 := fun_mk (st := s_Flow_way_past) lY2 cY2 kY2
  have qY2 := FY2.binds (ps := ["self", "at"]) fun _ _ _ _ _ _ us hl => match us, hl with | [_, _], _ => rfl
  obtain ⟨eY2, nY2⟩ := meth_of bY2
  have FY3 := fun_mk (st := s_Flow_find_loops) lY3 cY3 kY3
  have qY3 := FY3.binds (ps := ["self"]) fun _ _ _ _ _ _ us hl => match us, hl with | [_], _ => rfl
  obtain ⟨eY3, nY3⟩ := meth_of bY3
  obtain ⟨makY, clY, nfY⟩ := cl_of bY
  have FZ0 := fun_mk (st := s_Code_init) lZ0 cZ0 kZ0
  have qZ0 := FZ0.binds (ps := ["self", "kind", "width", "text"]) fun _ _ _ _ _ _ us hl => match us, hl with | [_, _, _, _], _ => rfl
  obtain ⟨eZ0, nZ0⟩ := meth_of bZ0
  obtain ⟨makZ, clZ, nfZ⟩ := cl_of bZ
  have W : WalkX K mg CW (fun i => [W0, W1, W2, W3, W4, W5, W6].getD i 0) := ⟨PySem.W.mg_of X G aW, makW, clW, nfW _ (by simp), nfW _ (by simp), nfW _ (by simp), nfW _ (by simp), nfW _ (by simp), ⟨_, FW0, qW0⟩, ⟨eW1, _, FW1, qW1⟩, ⟨eW2, _, FW2, qW2⟩, ⟨eW3, _, FW3, qW3⟩, ⟨eW4, _, FW4, qW4⟩, ⟨eW5, _, FW5, qW5⟩, ⟨eW6, _, FW6, qW6⟩⟩
  have CT : CodeX K mg CZ Z0 := ⟨PySem.W.mg_of X G aZ, makZ, clZ, nfZ _ (by simp), nfZ _ (by simp), nfZ _ (by simp), nfZ _ (by simp), nfZ _ (by simp), nfZ _ (by simp), ⟨_, FZ0, qZ0⟩⟩
  have FY : FlowT K mg CY (fun i => [Y0, Y1, Y2, Y3].getD i 0) := ⟨PySem.W.mg_of X G aY, makY, clY, nfY _ (by simp), nfY _ (by simp), nfY _ (by simp), nfY _ (by simp), nfY _ (by simp), nfY _ (by simp), nfY _ (by simp), ⟨_, FY0, qY0⟩, ⟨eY1, _, FY1, qY1⟩, ⟨eY2, _, FY2, qY2⟩, ⟨eY3, _, FY3, qY3⟩⟩
  have t_KINDS : TupT K mg "KINDS" tKINDS kindsV := ⟨PySem.W.mg_of X G aKINDS, tup_of bKINDS⟩
  have t_WIDTHS : TupT K mg "WIDTHS" tWIDTHS widthsV := ⟨PySem.W.mg_of X G aWIDTHS, tup_of bWIDTHS⟩
  have t_GIVEN : TupT K mg "GIVEN" tGIVEN [.str "given", .int 0] := ⟨PySem.W.mg_of X G aGIVEN, tup_of bGIVEN⟩
  have t_NUMBERS : TupT K mg "NUMBERS" tNUMBERS numsV := ⟨PySem.W.mg_of X G aNUMBERS, tup_of bNUMBERS⟩
  have t_SIGNS : TupT K mg "SIGNS" tSIGNS signsV := ⟨PySem.W.mg_of X G aSIGNS, tup_of bSIGNS⟩
  have t_LOOPS : TupT K mg "LOOPS" tLOOPS loopsV := ⟨PySem.W.mg_of X G aLOOPS, tup_of bLOOPS⟩
  have t_TOP_WORDS : TupT K mg "TOP_WORDS" tTOP_WORDS topV := ⟨PySem.W.mg_of X G aTOP_WORDS, tup_of bTOP_WORDS⟩
  have t_LOOP_WORDS : TupT K mg "LOOP_WORDS" tLOOP_WORDS inLoopV := ⟨PySem.W.mg_of X G aLOOP_WORDS, tup_of bLOOP_WORDS⟩
  have t_ONCE : TupT K mg "ONCE" tONCE onceV := ⟨PySem.W.mg_of X G aONCE, tup_of bONCE⟩
  have t_AHEAD_OF_LOOPS : TupT K mg "AHEAD_OF_LOOPS" tAHEAD_OF_LOOPS aheadV := ⟨PySem.W.mg_of X G aAHEAD_OF_LOOPS, tup_of bAHEAD_OF_LOOPS⟩
  have cF : FreshX K mg tF := ⟨PySem.W.mg_of X G aFRESH, way_of bFRESH⟩
  have cA : AllX K w mg dA := ⟨PySem.W.mg_of X G aA, ⟨_, _, lA, kA, sA⟩, fun x hx => of_decide_eq_true (List.all_eq_true.mp nA1 x hx), fun p hp => nt_of (List.all_eq_true.mp nA2 p hp)⟩
  have cS : SidesT K w mg dS := ⟨PySem.W.mg_of X G aS, ⟨_, _, lS, kS⟩, fun pl => by
    unfold sidesB at nS1
    rw [Bool.and_eq_true, Bool.and_eq_true] at nS1
    cases pl with
    | top => exact nt_of nS1.1
    | down => exact nt_of nS1.2.1
    | up => exact nt_of nS1.2.2⟩
  refine ⟨PySem.W.fnOf "law" "law" (defArgs s_law) (defBody s_law) (defScope s_law) .none kV_law dc_law pm_law an_law cd_law ct_law, fun s v => .of_eq rfl, fun base _ _ => ?_⟩
  obtain ⟨d1, F1, b1, G1⟩ := ok_is_kind (P := P) (w := w) (base := base) T_is_kind y_isinstance y_str t_KINDS
  obtain ⟨d2, F2, b2, G2⟩ := ok_is_width (P := P) (w := w) (base := base) T_is_width y_isinstance y_int t_WIDTHS
  obtain ⟨d3, F3, b3, G3⟩ := ok_allowX (P := P) (w := w) (base := base) T_allows cA
  obtain ⟨dn, Fn, bn, Gn⟩ := ok_num (P := P) (w := w) (base := base) T_read_number y_int t_NUMBERS
  obtain ⟨ds, Fs, bs, Gs⟩ := ok_side (P := P) (w := w) (base := base) T_read_side cS y_len Fn bn m_read_number Gn
  obtain ⟨dc, Fc, bc, Gc⟩ := ok_cmp (P := P) (w := w) (base := base) T_read_comparison t_SIGNS y_len y_enumerate Fs bs m_read_side Gs
  obtain ⟨dh, Fh, bh, Gh⟩ := ok_has (P := P) (w := w) (base := base) T_read_has y_len Fn bn m_read_number Gn
  obtain ⟨dp, Fp, bp, Gp⟩ := ok_plain (P := P) (w := w) (base := base) T_read_plain_part Fh bh m_read_has Gh Fc bc m_read_comparison Gc
  obtain ⟨dq, Fq, bq, Gq⟩ := ok_part (P := P) (w := w) (base := base) T_read_part y_len Fp bp m_read_plain_part Gp
  obtain ⟨d4, F4, b4, G4⟩ := ok_test (P := P) (w := w) (base := base) T_read_test y_tuple Fq bq m_read_part Gq
  obtain ⟨d5, F5, b5, G5⟩ := ok_names (P := P) (w := w) (base := base) T_names_given t_GIVEN y_any
  obtain ⟨d6, F6, b6, G6⟩ := ok_rowTest (P := P) (w := w) (base := base) T_row_with_test F4 b4 m_read_test G4 R
  obtain ⟨d7, F7, b7, G7⟩ := ok_block (P := P) (w := w) (base := base) T_row_of_block_word R
  obtain ⟨dk, Fk, bk, Gk⟩ := ok_pick (P := P) (w := w) (base := base) T_row_of_pick Fn bn m_read_number Gn R
  obtain ⟨d8, F8, b8, G8⟩ := ok_read_row (P := P) (w := w) (base := base) T_read_row F6 b6 m_row_with_test G6 F7 b7 m_row_of_block_word G7 Fk bk m_row_of_pick Gk R t_LOOPS t_TOP_WORDS t_LOOP_WORDS
  obtain ⟨d9, F9, b9, G9⟩ := ok_blocks (P := P) (w := w) (base := base) T_blocks_behind t_LOOPS
  obtain ⟨d10, F10, b10, G10⟩ := ok_read_rows (P := P) (w := w) (base := base) T_read_rows ET R y_enumerate y_len F8 b8 m_read_row G8 F9 b9 m_blocks_behind G9
  obtain ⟨d11, F11, b11, G11⟩ := ok_keeps (P := P) (w := w) (base := base) T_keeps_order t_AHEAD_OF_LOOPS y_bool
  obtain ⟨d12, F12, b12, G12⟩ := ok_behind (P := P) (w := w) (base := base) T_way_behind t_ONCE y_tuple
  obtain ⟨dt, Ft, bt, Gt⟩ := ok_turn (P := P) (w := w) (base := base) T_is_turn
  obtain ⟨dm, Fm, bm, Gm⟩ := ok_may (P := P) (w := w) (base := base) T_may_begin
  obtain ⟨d13, F13, b13, G13⟩ := ok_passX (P := P) (w := w) (base := base) W y_list F3 b3 m_allows G3 F11 b11 m_keeps_order G11 F12 b12 m_way_behind G12
  obtain ⟨db, Fb, bb, Gb⟩ := ok_beginX (P := P) (w := w) (base := base) W y_list y_any Ft bt m_is_turn Gt Fm bm m_may_begin Gm
  obtain ⟨dy, Fy, by_, Gy⟩ := ok_stayX (P := P) (w := w) (base := base) W
  obtain ⟨d14, F14, b14, G14⟩ := ok_forkX (P := P) (w := w) (base := base) W R y_list F5 b5 m_names_given G5 F3 b3 m_allows G3
  obtain ⟨d15, F15, b15, G15⟩ := ok_stepX (P := P) (w := w) (base := base) W R t_LOOPS Fb bb Gb Fy by_ Gy F14 b14 G14 F13 b13 G13
  obtain ⟨d16, F16, b16, G16⟩ := ok_leastX (P := P) (w := w) (base := base) (fI := IR) (tt := tt) T_least_break W cF y_list y_enumerate y_min F15 b15 G15
  obtain ⟨dM, FM, bM, GM⟩ := ok_mb (P := P) (w := w) (base := base) T_match_blocks R t_LOOPS y_enumerate
  obtain ⟨dY, FYi, bYi, GYi⟩ := ok_Flow (P := P) (w := w) (base := base) FY R t_LOOPS y_range y_len y_tuple FM bM m_match_blocks GM
  obtain ⟨d17, F17, b17, G17⟩ := ok_CodeX (P := P) (w := w) (base := base) FY FYi bYi CT ET y_len y_tuple GYi (PySem.W.mg_of X G a60) ⟨_, rfl⟩ F1 b1 m_is_kind G1 F2 b2 m_is_width G2 F10 b10 m_read_rows G10 F16 b16 m_least_break G16
  obtain ⟨d18, F18, b18, G18⟩ := ok_toldX (P := P) (w := w) (base := base) T_Ltold CT ET XT F17 b17 G17
  obtain ⟨d19, F19, b19, G19⟩ := ok_ltest (P := P) (w := w) (base := base) T_Ltest B y_str y_range F_Ldraw b_Ldraw m_Ldraw
  obtain ⟨d20, F20, b20, G20⟩ := ok_llines (P := P) (w := w) (base := base) T_Llines B y_str y_range F_Ldraw b_Ldraw m_Ldraw F19 b19 m_Ltest G19
  obtain ⟨d21, F21, b21, G21⟩ := ok_bad (P := P) (w := w) (base := base) T_Lbad B y_str F_Ldraw b_Ldraw m_Ldraw
  obtain ⟨d22, F22, b22, G22⟩ := ok_open (P := P) (w := w) (base := base) T_Lopen B
  exact ok_law F_law B y_range kindT F_Lbag b_Lbag m_Lbag F_Ldraw b_Ldraw m_Ldraw F20 b20 m_Llines (G20 5) F22 b22 m_Lopen G22 F18 b18 m_Ltold G18 F21 b21 m_Lbad G21
theorem walk {l : PySem.W.OpenLaw} {q : Program} {loose : List Str} {XP : (Str → Option Value) → Heap → Prop} {YP : World → Heap → Prop} {d : DefRec} {K : Params → PySem.W.Frag} (hn : l.most = some 63) (hdf : d.params.defaults = [])
    (hY : ∀ (w : World) (h : Heap), YP w h → (K w.params).In h)
    (F : ∀ (w : World) (mg : Str → Option Value) (fa : Addr) (h : Heap), (K w.params).In h → h.Ns mainGlobals mg → mg d.name = some (.ref fa) →
      ∃ fd : FuncData, (∀ (s : Shared) (u : Value), BindsTo s fd ⟨[u], []⟩ [("_law_script", u)]) ∧ ∀ base : Heap, (K w.params).In base → base.Ns mainGlobals mg → FnOk l.prog w (K w.params) mg base CX0 13 fa fd ["_law_script"] (spLaw (K w.params))) :
    PySem.W.WalkO q loose XP YP l.row.toRowW d [] (fun f vs => PySem.call f vs) :=
  L2.walk_of (n := 63) (k := 13) (x := "_law_script") (CX := fun _ => CX0) (sp := fun w => spLaw (K w.params)) hn (by decide) hdf ⟨rfl, by decide, by decide⟩ hY F (fun _ _ a ns hl _ hS => ⟨a, ns, rfl, hS, hl, fun _ => rfl⟩) fun _ _ _ _ _ z => z
end H2
open PySem PySem.W PyProof.Rows
set_option maxRecDepth 100000 in
set_option maxHeartbeats 0 in
theorem PySem.Challenge.cw_heapcode_k02_whole_lines_read_holds : PySem.Challenge.rw_heapcode_k02_whole_lines_read.Holds := by
  w_on; o_law; k_head; (case hw => w_witness2)
  k_fill
  refine H2.walk (l := PySem.Challenge.rw_heapcode_k02_whole_lines_read) rfl rfl (fun w h Y => PySem.W.kIn_of Y) ?F
  case F =>
    intro w mg fa h KX G hmg
    refine' H2.all_mk KX G hmg ?aC0 ?xL0 ?aI0 ?lI0 ?cI0 ?kI0 ?bC0 ?aC1 ?xL1 ?aI1 ?lI1 ?cI1 ?kI1 ?bC1 ?aC2 ?xL2 ?aI2 ?lI2 ?cI2 ?kI2 ?bC2 ?aC3 ?xL3 ?aI3 ?lI3 ?cI3 ?kI3 ?bC3 ?aC4 ?xL4 ?aI4 ?lI4 ?cI4 ?kI4 ?bC4 ?a_is_kind ?l_is_kind ?c_is_kind ?k_is_kind ?a_is_width ?l_is_width ?c_is_width ?k_is_width ?a_allows ?l_allows ?c_allows ?k_allows ?a_read_number ?l_read_number ?c_read_number ?k_read_number ?a_read_side ?l_read_side ?c_read_side ?k_read_side ?a_read_comparison ?l_read_comparison ?c_read_comparison ?k_read_comparison ?a_read_has ?l_read_has ?c_read_has ?k_read_has ?a_read_plain_part ?l_read_plain_part ?c_read_plain_part ?k_read_plain_part ?a_read_part ?l_read_part ?c_read_part ?k_read_part ?a_read_test ?l_read_test ?c_read_test ?k_read_test ?a_names_given ?l_names_given ?c_names_given ?k_names_given ?a_row_with_test ?l_row_with_test ?c_row_with_test ?k_row_with_test ?a_row_of_pick ?l_row_of_pick ?c_row_of_pick ?k_row_of_pick ?a_row_of_block_word ?l_row_of_block_word ?c_row_of_block_word ?k_row_of_block_word ?a_read_row ?l_read_row ?c_read_row ?k_read_row ?a_blocks_behind ?l_blocks_behind ?c_blocks_behind ?k_blocks_behind ?a_read_rows ?l_read_rows ?c_read_rows ?k_read_rows ?a_match_blocks ?l_match_blocks ?c_match_blocks ?k_match_blocks ?a_keeps_order ?l_keeps_order ?c_keeps_order ?k_keeps_order ?a_way_behind ?l_way_behind ?c_way_behind ?k_way_behind ?a_is_turn ?l_is_turn ?c_is_turn ?k_is_turn ?a_may_begin ?l_may_begin ?c_may_begin ?k_may_begin ?a_least_break ?l_least_break ?c_least_break ?k_least_break ?a_Lbag ?l_Lbag ?c_Lbag ?k_Lbag ?a_Ldraw ?l_Ldraw ?c_Ldraw ?k_Ldraw ?a_Ltest ?l_Ltest ?c_Ltest ?k_Ltest ?a_Llines ?l_Llines ?c_Llines ?k_Llines ?a_Lbad ?l_Lbad ?c_Lbad ?k_Lbad ?a_Lopen ?l_Lopen ?c_Lopen ?k_Lopen ?a_Ltold ?l_Ltold ?c_Ltold ?k_Ltold ?a_law ?l_law ?c_law ?k_law ?aR ?aRi ?lR ?cR ?kR ?bR ?dR ?aW ?uW0 ?lW0 ?cW0 ?kW0 ?bW0 ?uW1 ?lW1 ?cW1 ?kW1 ?bW1 ?uW2 ?lW2 ?cW2 ?kW2 ?bW2 ?uW3 ?lW3 ?cW3 ?kW3 ?bW3 ?uW4 ?lW4 ?cW4 ?kW4 ?bW4 ?uW5 ?lW5 ?cW5 ?kW5 ?bW5 ?uW6 ?lW6 ?cW6 ?kW6 ?bW6 ?bW ?aY ?uY0 ?lY0 ?cY0 ?kY0 ?bY0 ?uY1 ?lY1 ?cY1 ?kY1 ?bY1 ?uY2 ?lY2 ?cY2 ?kY2 ?bY2 ?uY3 ?lY3 ?cY3 ?kY3 ?bY3 ?bY ?aZ ?uZ0 ?lZ0 ?cZ0 ?kZ0 ?bZ0 ?bZ ?aB ?rB ?gB ?fB ?z_int ?z_list ?z_len ?z_isinstance ?z_range ?z_str ?z_tuple ?z_any ?z_enumerate ?z_min ?z_bool ?p22 ?p32 ?p33 ?aKINDS ?bKINDS ?aWIDTHS ?bWIDTHS ?aGIVEN ?bGIVEN ?aNUMBERS ?bNUMBERS ?aSIGNS ?bSIGNS ?aLOOPS ?bLOOPS ?aTOP_WORDS ?bTOP_WORDS ?aLOOP_WORDS ?bLOOP_WORDS ?aONCE ?bONCE ?aAHEAD_OF_LOOPS ?bAHEAD_OF_LOOPS ?aFRESH ?bFRESH ?a60 ?aA ?lA ?kA ?sA ?nA1 ?nA2 ?aS ?lS ?kS ?nS1
    (case aC0 => k_is)
    (case xL0 => k_is)
    (case aI0 => k_is)
    (case lI0 => k_is)
    (case cI0 => k_is)
    (case kI0 => k_is)
    (case aC1 => k_is)
    (case xL1 => k_is)
    (case aI1 => k_is)
    (case lI1 => k_is)
    (case cI1 => k_is)
    (case kI1 => k_is)
    (case aC2 => k_is)
    (case xL2 => k_is)
    (case aI2 => k_is)
    (case lI2 => k_is)
    (case cI2 => k_is)
    (case kI2 => k_is)
    (case aC3 => k_is)
    (case xL3 => k_is)
    (case aI3 => k_is)
    (case lI3 => k_is)
    (case cI3 => k_is)
    (case kI3 => k_is)
    (case aC4 => k_is)
    (case xL4 => k_is)
    (case aI4 => k_is)
    (case lI4 => k_is)
    (case cI4 => k_is)
    (case kI4 => k_is)
    (case a_is_kind => k_is)
    (case l_is_kind => k_is)
    (case c_is_kind => k_is)
    (case k_is_kind => k_is)
    (case a_is_width => k_is)
    (case l_is_width => k_is)
    (case c_is_width => k_is)
    (case k_is_width => k_is)
    (case a_allows => k_is)
    (case l_allows => k_is)
    (case c_allows => k_is)
    (case k_allows => k_is)
    (case a_read_number => k_is)
    (case l_read_number => k_is)
    (case c_read_number => k_is)
    (case k_read_number => k_is)
    (case a_read_side => k_is)
    (case l_read_side => k_is)
    (case c_read_side => k_is)
    (case k_read_side => k_is)
    (case a_read_comparison => k_is)
    (case l_read_comparison => k_is)
    (case c_read_comparison => k_is)
    (case k_read_comparison => k_is)
    (case a_read_has => k_is)
    (case l_read_has => k_is)
    (case c_read_has => k_is)
    (case k_read_has => k_is)
    (case a_read_plain_part => k_is)
    (case l_read_plain_part => k_is)
    (case c_read_plain_part => k_is)
    (case k_read_plain_part => k_is)
    (case a_read_part => k_is)
    (case l_read_part => k_is)
    (case c_read_part => k_is)
    (case k_read_part => k_is)
    (case a_read_test => k_is)
    (case l_read_test => k_is)
    (case c_read_test => k_is)
    (case k_read_test => k_is)
    (case a_names_given => k_is)
    (case l_names_given => k_is)
    (case c_names_given => k_is)
    (case k_names_given => k_is)
    (case a_row_with_test => k_is)
    (case l_row_with_test => k_is)
    (case c_row_with_test => k_is)
    (case k_row_with_test => k_is)
    (case a_row_of_pick => k_is)
    (case l_row_of_pick => k_is)
    (case c_row_of_pick => k_is)
    (case k_row_of_pick => k_is)
    (case a_row_of_block_word => k_is)
    (case l_row_of_block_word => k_is)
    (case c_row_of_block_word => k_is)
    (case k_row_of_block_word => k_is)
    (case a_read_row => k_is)
    (case l_read_row => k_is)
    (case c_read_row => k_is)
    (case k_read_row => k_is)
    (case a_blocks_behind => k_is)
    (case l_blocks_behind => k_is)
    (case c_blocks_behind => k_is)
    (case k_blocks_behind => k_is)
    (case a_read_rows => k_is)
    (case l_read_rows => k_is)
    (case c_read_rows => k_is)
    (case k_read_rows => k_is)
    (case a_match_blocks => k_is)
    (case l_match_blocks => k_is)
    (case c_match_blocks => k_is)
    (case k_match_blocks => k_is)
    (case a_keeps_order => k_is)
    (case l_keeps_order => k_is)
    (case c_keeps_order => k_is)
    (case k_keeps_order => k_is)
    (case a_way_behind => k_is)
    (case l_way_behind => k_is)
    (case c_way_behind => k_is)
    (case k_way_behind => k_is)
    (case a_is_turn => k_is)
    (case l_is_turn => k_is)
    (case c_is_turn => k_is)
    (case k_is_turn => k_is)
    (case a_may_begin => k_is)
    (case l_may_begin => k_is)
    (case c_may_begin => k_is)
    (case k_may_begin => k_is)
    (case a_least_break => k_is)
    (case l_least_break => k_is)
    (case c_least_break => k_is)
    (case k_least_break => k_is)
    (case a_Lbag => k_is)
    (case l_Lbag => k_is)
    (case c_Lbag => k_is)
    (case k_Lbag => k_is)
    (case a_Ldraw => k_is)
    (case l_Ldraw => k_is)
    (case c_Ldraw => k_is)
    (case k_Ldraw => k_is)
    (case a_Ltest => k_is)
    (case l_Ltest => k_is)
    (case c_Ltest => k_is)
    (case k_Ltest => k_is)
    (case a_Llines => k_is)
    (case l_Llines => k_is)
    (case c_Llines => k_is)
    (case k_Llines => k_is)
    (case a_Lbad => k_is)
    (case l_Lbad => k_is)
    (case c_Lbad => k_is)
    (case k_Lbad => k_is)
    (case a_Lopen => k_is)
    (case l_Lopen => k_is)
    (case c_Lopen => k_is)
    (case k_Lopen => k_is)
    (case a_Ltold => k_is)
    (case l_Ltold => k_is)
    (case c_Ltold => k_is)
    (case k_Ltold => k_is)
    (case a_law => k_is)
    (case l_law => k_is)
    (case c_law => k_is)
    (case k_law => k_is)
    (case aR => k_is)
    (case aRi => k_is)
    (case lR => k_is)
    (case cR => k_is)
    (case kR => k_is)
    (case aW => k_is)
    (case uW0 => k_is)
    (case lW0 => k_is)
    (case cW0 => k_is)
    (case kW0 => k_is)
    (case uW1 => k_is)
    (case lW1 => k_is)
    (case cW1 => k_is)
    (case kW1 => k_is)
    (case uW2 => k_is)
    (case lW2 => k_is)
    (case cW2 => k_is)
    (case kW2 => k_is)
    (case uW3 => k_is)
    (case lW3 => k_is)
    (case cW3 => k_is)
    (case kW3 => k_is)
    (case uW4 => k_is)
    (case lW4 => k_is)
    (case cW4 => k_is)
    (case kW4 => k_is)
    (case uW5 => k_is)
    (case lW5 => k_is)
    (case cW5 => k_is)
    (case kW5 => k_is)
    (case uW6 => k_is)
    (case lW6 => k_is)
    (case cW6 => k_is)
    (case kW6 => k_is)
    (case aY => k_is)
    (case uY0 => k_is)
    (case lY0 => k_is)
    (case cY0 => k_is)
    (case kY0 => k_is)
    (case uY1 => k_is)
    (case lY1 => k_is)
    (case cY1 => k_is)
    (case kY1 => k_is)
    (case uY2 => k_is)
    (case lY2 => k_is)
    (case cY2 => k_is)
    (case kY2 => k_is)
    (case uY3 => k_is)
    (case lY3 => k_is)
    (case cY3 => k_is)
    (case kY3 => k_is)
    (case aZ => k_is)
    (case uZ0 => k_is)
    (case lZ0 => k_is)
    (case cZ0 => k_is)
    (case kZ0 => k_is)
    (case aB => k_is)
    (case rB => k_is)
    (case gB => k_is)
    (case fB => k_is)
    (case z_int => k_is)
    (case z_list => k_is)
    (case z_len => k_is)
    (case z_isinstance => k_is)
    (case z_range => k_is)
    (case z_str => k_is)
    (case z_tuple => k_is)
    (case z_any => k_is)
    (case z_enumerate => k_is)
    (case z_min => k_is)
    (case z_bool => k_is)
    (case aKINDS => k_is)
    (case aWIDTHS => k_is)
    (case aGIVEN => k_is)
    (case aNUMBERS => k_is)
    (case aSIGNS => k_is)
    (case aLOOPS => k_is)
    (case aTOP_WORDS => k_is)
    (case aLOOP_WORDS => k_is)
    (case aONCE => k_is)
    (case aAHEAD_OF_LOOPS => k_is)
    (case aFRESH => k_is)
    (case a60 => k_is)
    (case aA => k_is)
    (case lA => k_is)
    (case aS => k_is)
    (case lS => k_is)
    (case bC0 => kernel_rfl)
    (case bC1 => kernel_rfl)
    (case bC2 => kernel_rfl)
    (case bC3 => kernel_rfl)
    (case bC4 => kernel_rfl)
    (case bR => kernel_rfl)
    (case dR => kernel_rfl)
    (case bW0 => kernel_rfl)
    (case bW1 => kernel_rfl)
    (case bW2 => kernel_rfl)
    (case bW3 => kernel_rfl)
    (case bW4 => kernel_rfl)
    (case bW5 => kernel_rfl)
    (case bW6 => kernel_rfl)
    (case bW => kernel_rfl)
    (case bY0 => kernel_rfl)
    (case bY1 => kernel_rfl)
    (case bY2 => kernel_rfl)
    (case bY3 => kernel_rfl)
    (case bY => kernel_rfl)
    (case bZ0 => kernel_rfl)
    (case bZ => kernel_rfl)
    (case p22 => kernel_rfl)
    (case p32 => kernel_rfl)
    (case p33 => kernel_rfl)
    (case bKINDS => kernel_rfl)
    (case bWIDTHS => kernel_rfl)
    (case bGIVEN => kernel_rfl)
    (case bNUMBERS => kernel_rfl)
    (case bSIGNS => kernel_rfl)
    (case bLOOPS => kernel_rfl)
    (case bTOP_WORDS => kernel_rfl)
    (case bLOOP_WORDS => kernel_rfl)
    (case bONCE => kernel_rfl)
    (case bAHEAD_OF_LOOPS => kernel_rfl)
    (case bFRESH => kernel_rfl)
    (case kA => exact ⟨⟨_, _, rfl, rfl⟩, ⟨_, _, rfl, rfl⟩, ⟨_, _, rfl, rfl⟩, ⟨_, _, rfl, rfl⟩, ⟨_, _, rfl, rfl⟩, ⟨_, _, rfl, rfl⟩, ⟨_, _, rfl, rfl⟩, trivial⟩)
    (case sA => decide)
    (case nA1 => kernel_rfl)
    (case nA2 => kernel_rfl)
    (case kS => exact ⟨⟨_, _, rfl, rfl⟩, ⟨_, _, rfl, rfl⟩, ⟨_, _, rfl, rfl⟩, trivial⟩)
    (case nS1 => kernel_rfl)
