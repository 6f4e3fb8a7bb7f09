import PyProof.Rows.All
import Wide.All
import OpenK.AllK
import Wide.FinOn
import HandS.ForMost
import HandS.Wide
import HandS.Conv
import HandS.EndBits
import HandS.ForExc
import HandS.Style
import HandS.Codes
import HandS.Property
import HandS.MakeKwOnly
import HandS.IsInst
import HandS.TupAny
import HandS.Walk
import HandS.Dict
import HandS.DictComp
import HandS.Finally
import HandS.DeepEq
import HandS.ExcInit
import HandS.ExcIs
import HandS.ExcField
import HandS.RaiseMore
import HandS.ExcOwn
import HandS.HotCalls
import HandS.Hot
import HandS.ExcValueHot
import HandS.Deep
import HandS.Text
import PySem.Challenge.RW_tightranges_k36_errors_of_runs
set_option Elab.async false
set_option linter.all false
set_option maxRecDepth 100000
namespace Gd
open PySem PySem.Spec PyProof.Rows L2

/-! ### a def called where no repr is under way -/
structure FnGd (P : Program) (w : World) (K : PySem.W.Frag) (mg : Str → Option Value)
    (base : Heap) (k : Nat) (f : Addr) (fd : FuncData) (ps : List Str) (sp : Sp) : Prop where
  len : ∀ vs H Q E, sp vs H Q E → vs.length = ps.length
  run : ∀ (A : Around) (out : List Env) (s : Shared) (H : Hp) (args : Args)
      (us : List Value) (vs : List V) (Q : VK) (E : XK),
      A.guards = some [] → Room k A → Env0 P w K mg base A out s H →
      BindsTo s fd args (ps.zip us) → Vals vs us → sp vs H Q E →
      codeAny (model P w) A (.call (.ref f) args) (CR CX0 out P w H s Q E) s

section
variable {P : Program} {w : World} {K : PySem.W.Frag} {mg : Str → Option Value} {base : Heap}

theorem okG {x qual : Str} {st : Stmt} {f : Addr} {fd : FuncData} {N ps : List Str} {k : Nat} {sp : Sp}
    (F : Fun K x qual st f fd) (S : FnScope N ps (defScope st))
    (len : ∀ vs H Q E, sp vs H Q E → vs.length = ps.length)
    (hb : ∀ (cdv : Value) (A : Around) (out : List Env) (s : Shared) (H : Hp) (vs : List V) (Q : VK) (E : XK),
      (A.deeper (envOfC qual (defScope st) s.heap.objs.size f cdv)).guards = some [] →
      Room k (A.deeper (envOfC qual (defScope st) s.heap.objs.size f cdv)) → sp vs H Q E →
      ∃ t, PSs (cxOf CX0 P w K mg base N qual (defScope st) f cdv A out s H E).nox (defBody st) t ∧
        t { nx := fun _ H' => Q .non H', rt := Q } (start N vs) H) :
    FnGd P w K mg base (k + 1) f fd ps sp := by
  obtain ⟨oc, od, kV, doc, pm, an, cdv, ct, osl, rfl, lk, cdok⟩ := F.ex
  constructor
  · exact len
  intro A out s H args us vs Q E gA rm env bnd rel pre
  have pl := len vs H Q E pre
  have keep : ∀ b o, base.get? b = some o → s.heap.get? b = some o := fun b o e => (env.bs b o e).1
  have kin := env.mod.kin.keeps keep
  have nol := env.mod.nolimit.keeps keep
  refine codeAny_call_function rm.depth (kin _ _ lk) rfl S.co S.gen rfl
    (PySem.W.codeRec_of kin cdok) (bnd _ _ _ _ ?_)
  refine wpAny_newFunctionEnv_cells S.kind ?_ fun en he s1 xx => ?_
  · rintro ⟨nm, val⟩ mem
    cases S.par nm (List.of_mem_zip mem).1 with
    | inl q => exact .inl q
    | inr q => exact .inr ⟨q, PySem.W.cellsFrom_some _ _ _ (.inl q)⟩
  subst he
  refine ⟨nol.keeps xx.toInCall.keep, codeAny_func ?_⟩
  obtain ⟨t, ht, hq⟩ := hb cdv A out s H vs Q E gA (rm.deeper _) pre
  have J0 := inv_start (CX := CX0) (E := E) (qual := qual) (f := f) (cd := cdv) S rm.hd env pl rel xx
  refine wpAny_mono (ht.nox.run [] s1 (start N vs) H _ J0 hq) ?_ (fun _ _ z => z)
  intro fl s' post
  cases fl with
  | next =>
    obtain ⟨_, H', J, q⟩ := post
    exact ⟨.non, H', J.os, J.bare, J.base, J.hok, rfl, q⟩
  | ret u =>
    obtain ⟨v, _, H', J, rv, q⟩ := post
    exact ⟨v, H', J.os, J.bare, J.base, J.hok, rv, q⟩
  | brk =>
    obtain ⟨_, _, _, no⟩ := post
    cases no
  | cont =>
    obtain ⟨_, _, _, no⟩ := post
    cases no

/-- the law's call at its own place: nothing is under way there -/
theorem lawG {mb : Str → Option Value} {k : Nat} {fa a : Addr} {fd : FuncData} {x : Str} {sp : Sp}
    {s : Shared} {vs : List Value} {ns : List Int}
    (kin : K.In s.heap) (glo : s.heap.Ns mainGlobals mg) (blt : s.heap.Ns builtinsNs mb)
    (boot : ∀ x : Str, x ≠ "__name__" → mb x = bootBuiltins x) (nol : s.heap.NoLimit) (gen : s.gens = #[])
    (obj : s.heap.get? a = some { cls := .type "list", data := .seq vs.toArray }) (insc : IntsAre vs ns)
    (short : ns.length ≤ sizeLine) (rm : Room k callerA)
    (F : ∀ base : Heap, K.In base → base.Ns mainGlobals mg → FnGd P w K mg base k fa fd [x] sp)
    (bnd : ∀ (s : Shared) (u : Value), BindsTo s fd ⟨[u], []⟩ [(x, u)])
    (pre : ∀ H : Hp, SqL K H a (ns.map V.int) → sp [.ref a] H (fun v _ => v = .bl true) E0) :
    codeAny (model P w) callerA (.call (.ref fa) ⟨[.ref a], []⟩)
      (fun r s' => r = .ok (.ret (.bool true)) ∧ OldK s.heap s'.heap ∧ s'.os = s.os ∧ AllBare s'.gens) s := by
  have rel : Vals (ns.map V.int) vs := vals_ints insc
  have cnt : vs.length = ns.length := insc.length
  let scr : Obj := { cls := .type "list", data := .seq vs.toArray }
  -- what is tracked at first: the script, unless the module knows it
  let H : Hp := fun b => if b = a ∧ K.lookup a = none then some (.frz scr (.lst (ns.map V.int))) else none
  have track : ∀ b u, H b = some u → b = a ∧ K.lookup a = none ∧ u = .frz scr (.lst (ns.map V.int)) := by
    intro b u e
    by_cases c : b = a ∧ K.lookup a = none
    · have e2 : some (HO.frz scr (.lst (ns.map V.int))) = some u := (if_pos c).symm.trans e
      exact ⟨c.1, c.2, (Option.some.inj e2).symm⟩
    · have e2 : (none : Option HO) = some u := (if_neg c).symm.trans e
      cases e2
  have isl : SqL K H a (ns.map V.int) := by
    cases q : K.lookup a with
    | none => exact .inl (.inr ⟨scr, if_pos ⟨rfl, q⟩⟩)
    | some o =>
      have o2 := kin a o q
      rw [obj] at o2
      cases o2
      exact .inr ⟨_, vs.toArray, _, q, rfl, rfl, rfl, by rw [List.size_toArray, cnt]; exact short, by simpa using rel⟩
  have hok : HOk P w H s.heap := by
    intro b u e
    obtain ⟨rfl, _, rfl⟩ := track b u e
    exact ⟨obj, by rw [List.length_map]; exact short, vs, _, rel, obj⟩
  have nodict : ∀ {b : Addr} {o : Obj} {es : Array DictEntry} {ep : Nat}, s.heap.get? b = some o → o.data = .dict es ep → H b = none := by
    intro b o es ep e d
    cases q : H b with
    | none => rfl
    | some u =>
      obtain ⟨rfl, _, _⟩ := track b u q
      rw [obj] at e
      cases e
      cases (show Data.seq vs.toArray _ = Data.dict es ep from d)
  have nspace : ∀ {b : Addr} {m : Str → Option Value}, s.heap.Ns b m → (hidT s.heap H).Ns b m := by
    rintro b m ⟨o, es, ep, e, d, r⟩
    exact ⟨o, es, ep, hidT_get e (nodict e d), d, r⟩
  have kin2 : K.In (hidT s.heap H) := by
    intro b o e
    refine hidT_get (kin b o e) ?_
    cases q : H b with
    | none => rfl
    | some u =>
      obtain ⟨rfl, n, _⟩ := track b u q
      rw [n] at e
      cases e
  have mod : Mod K mg (hidT s.heap H) := by
    refine ⟨kin2, nspace glo, ⟨mb, nspace blt, boot⟩, ?_⟩
    obtain ⟨mc, n1, n2⟩ := nol
    exact ⟨mc, nspace n1, n2⟩
  have env : Env0 P w K mg (hidT s.heap H) callerA [] s H := by
    refine ⟨rfl, mod, fun b o e => of_hidT e, Nat.le_of_eq (hidT_size _ _), trivial, ?_, hok, .of_eq gen⟩
    intro b m
    cases (show b ∈ ([] : List Addr) from m)
  have run := (F _ kin2 (nspace glo)).run callerA [] s H ⟨[.ref a], []⟩ [.ref a] [.ref a] _ _ rfl rm env
    (bnd s (.ref a)) (.cons rfl .nil) (pre H isl)
  refine codeAny_mono run ?_
  intro r s' post
  cases r with
  | error e => exact (post : False).elim
  | ok fl =>
    cases fl with
    | ret u =>
      obtain ⟨v, H', os, bare, un, hok', rv, vt⟩ := post
      have vt' : v = .bl true := vt
      subst vt'
      have ut : u = Value.bool true := rv
      subst ut
      refine ⟨rfl, OldK.of_keep ?_, os, bare⟩
      intro b o e
      cases q : H b with
      | none => exact un.keep b o e q (fun m => by cases (show b ∈ ([] : List Addr) from m)) (by simp)
      | some u2 =>
        obtain ⟨rfl, _, rfl⟩ := track b u2 q
        have stays := un.frzs b _ _ q
        have o1 := (hok b _ q).1
        have o2 := (hok' b _ stays).1
        rw [e] at o1
        cases o1
        exact o2
    | next => exact (post : False).elim
    | brk => exact (post : False).elim
    | cont => exact (post : False).elim
end

/-- the end of a law's proof -/
theorem walkG {l : PySem.W.OpenLaw} {n k : Nat} {q : Program} {loose : List Str} {XP : (Str → Option Value) → Heap → Prop}
    {YP : World → Heap → Prop} {d : DefRec} {K : Params → PySem.W.Frag} {sp : World → Sp} {x : Str}
    (most : l.most = some n) (small : n ≤ sizeLine) (plain : d.params.defaults = []) (rm : Room k callerA)
    (hY : ∀ (w : World) (h : Heap), YP w h → (K w.params).In h)
    (F : ∀ (w : World) (mg : Str → Option Value) (fa : Addr) (h : Heap),
      (K w.params).In h → h.Ns mainGlobals mg → mg d.name = some (.ref fa) →
      ∃ fd : FuncData, (∀ (s : Shared) (u : Value), BindsTo s fd ⟨[u], []⟩ [(x, u)]) ∧
        ∀ base : Heap, (K w.params).In base → base.Ns mainGlobals mg →
          FnGd l.prog w (K w.params) mg base k fa fd [x] (sp w))
    (pre : ∀ (w : World) (H : Hp) (a : Addr) (ns : List Int), ns.length ≤ n → (∀ z ∈ ns, Builtin.Int.intBits z ≤ 1048576) →
      SqL (K w.params) H a (ns.map V.int) → sp w [.ref a] H (fun v _ => v = .bl true) E0) :
    PySem.W.WalkO q loose XP YP l.row.toRowW d [] (fun f vs => PySem.call f vs) := by
  apply Att.attach_callB most plain
  intro w s0 s1 mg mb fa o pm cd doc a vs ns G Y _ _ _ named obj insc le bits gen
  obtain ⟨fd, bnd, all⟩ := F w mg fa _ (hY w _ Y) G.T.g named
  exact lawG (hY w _ Y) G.T.g G.T.b G.T.builtins G.T.nolimit gen obj insc (Nat.le_trans le small) rm all bnd
    fun H isl => pre w H a ns le bits isl

/-! ### rules -/
section
variable {X : Cx}
/-- repr of data -/
theorem call_repr {k : Nat} (gd : X.A.guards = some []) (hr : Room k X.A) : CallR X (.builtin "repr") (fun xs H Q => ∃ v d, xs = [v] ∧
    Dp X.K H v d ∧ d.hasDict = false ∧ d.showable = true ∧ d.depth ≤ 64 ∧ d.shown.length ≤ sizeLine ∧ (∃ a, v = .ref a) ∧ Q (.str d.shown) H) := by
  intro pins s σ H xs us Q I r h
  obtain ⟨v, d, rfl, dp, nod, sh, deep, fits, ⟨a, rfl⟩, q⟩ := h
  obtain ⟨u, rfl, ru⟩ := vals1 r
  cases ru
  obtain ⟨as, rd⟩ := Dp.reads I d _ _ dp rfl
  have room := hr.un
  refine repr_of_reads' rd sh (PyData.noDict_hsm nod) gd (by omega) (fun _ _ e => e) ?_ fits
  intro h' u tk keep
  exact ⟨.str _, H, I.kept keep, ⟨u, rfl⟩, q⟩
/-- i ** j, of great i -/
def CPowW (i j : Int) : Prop := 0 ≤ j ∧ (Builtin.Int.intBits i : Int) * j ≤ 2 ^ 27
theorem op_powW : OpR X (binaryOp .Pow) (rI CPowW fun i j => .int (i ^ j.toNat)) :=
  opI fun _ _ _ _ _ _ _ hc q => pow_int hc.1 hc.2 q
end
end Gd

set_option Elab.async false
set_option linter.all false
set_option maxRecDepth 100000
namespace Gd
open PySem PySem.Spec PyProof.Rows L2

/-! ### a def of the text, with all that a caller needs -/
structure Dn (P : Program) (w : World) (K : PySem.W.Frag) (mg : Str → Option Value) (base : Heap)
    (k : Nat) (x : Str) (st : Stmt) (ps : List Str) (sp : Sp) : Prop where
  ex : ∃ f fd, Fun K x x st f fd ∧ Binds K fd ps [] ∧ mg x = some (.ref f) ∧ FnOk P w K mg base CX0 k f fd ps sp
structure DnG (P : Program) (w : World) (K : PySem.W.Frag) (mg : Str → Option Value) (base : Heap)
    (k : Nat) (x : Str) (st : Stmt) (ps : List Str) (sp : Sp) : Prop where
  ex : ∃ f fd, Fun K x x st f fd ∧ Binds K fd ps [] ∧ mg x = some (.ref f) ∧ FnGd P w K mg base k f fd ps sp
section
variable {P : Program} {w : World} {K : PySem.W.Frag} {mg : Str → Option Value} {base : Heap}
/-- where a def stands -/
def At (K : PySem.W.Frag) (mg : Str → Option Value) (x : Str) (st : Stmt) (ps : List Str) : Prop :=
  ∃ f fd, Fun K x x st f fd ∧ Binds K fd ps [] ∧ mg x = some (.ref f)
theorem Dn.mk' {x : Str} {st : Stmt} {ps : List Str} {k : Nat} {sp : Sp} (h : At K mg x st ps)
    (ok : ∀ f fd, Fun K x x st f fd → FnOk P w K mg base CX0 k f fd ps sp) : Dn P w K mg base k x st ps sp := by
  obtain ⟨f, fd, F, b, g⟩ := h
  exact ⟨f, fd, F, b, g, ok f fd F⟩
theorem DnG.mk' {x : Str} {st : Stmt} {ps : List Str} {k : Nat} {sp : Sp} (h : At K mg x st ps)
    (ok : ∀ f fd, Fun K x x st f fd → FnGd P w K mg base k f fd ps sp) : DnG P w K mg base k x st ps sp := by
  obtain ⟨f, fd, F, b, g⟩ := h
  exact ⟨f, fd, F, b, g, ok f fd F⟩
end

/-- the reading of a call that raises nothing -/
def tCl (sp : Sp) (t : TA) : TE := fun σ H Q => t σ H fun vs H1 => sp vs H1 Q E0
def tClK (sp : Sp) (gV : List V → List V → List V) (t tk : TA) : TE := fun σ H Q => t σ H fun vs H1 => tk σ H1 fun zs H2 => sp (gV vs zs) H2 Q E0
section
variable {K : PySem.W.Frag} {x qual : Str} {st : Stmt} {f : Addr} {fd : FuncData} {ps ks : List Str}
theorem kb_of0 (n : Nat) (F : Fun K x qual st f fd) (g : {α : Type} → List α → List α → List α)
    (h : ∀ (kV doc pm : Value) (an : Option Addr) (cdv ct : Value) (us ws : List Value), us.length = n → ws.length = ks.length →
      bindArgs (PySem.W.fnOf x qual (defArgs st) (defBody st) (defScope st) .none kV doc pm an cdv ct) ⟨us, ks.zip ws⟩ = pure (ps.zip (g us ws))) :
    ∀ (s : Shared) (us ws : List Value), us.length = n → ws.length = ks.length → BindsTo s fd ⟨us, ks.zip ws⟩ (ps.zip (g us ws)) := by
  obtain ⟨oc, od, kV, doc, pm, an, cdv, ct, osl, rfl, lk, hcd⟩ := F.ex
  intro s us ws h1 h2
  exact .of_eq (h kV doc pm an cdv ct us ws h1 h2)
end
section
variable {X : Cx} {x : Str} {st : Stmt} {ps ks : List Str} {sp : Sp} {k j n : Nat} {e : Expr} {es : List Expr} {kws : List Keyword} {t tk : TA} {p pos : Pos}
/-- a call of a def that has its promise -/
theorem pe_c (D : Dn X.prog X.w X.K X.mg X.base k x st ps sp) (hr : Room j X.A) (hg : Gl X x) (ha : PA X (e :: es) t) (hk : k ≤ j := by decide)
    (hdb : (x == ("__debug__" : Str)) = false := by decide) (he : starEach (e :: es) X.env = (false, eval e X.env) :: starEach es X.env := by rfl)
    (hpl : (backTo pos (starEach es X.env)).any (·.1) = false := by rfl) :
    PE X (.Call (.Name x p) (e :: es) [] pos) (tCl sp t) := by
  obtain ⟨f, fd, F, b, g, ok⟩ := D.ex
  refine ⟨fun pins s σ H Q I h => ?_⟩
  refine wpAny_Call_Name_kw (ld_glob I hg g ?_ hdb)
  refine PySem.W.callWith_K (h₀ := X.base) I.ok.mod.kin F.kp (thn (ha.run pos pins s σ H _ I h) fun us s1 got => ?_) he hpl
  obtain ⟨vs, H1, I1, r1, q1⟩ := got
  refine ⟨I1.kIn, ?_⟩
  exact run_fn (dvs := []) ok (hr.mono hk) b .nil pass0 I1 r1 (by rw [List.append_nil]; exact q1)
theorem pe_cG (gd : X.A.guards = some []) (D : DnG X.prog X.w X.K X.mg X.base k x st ps sp) (hr : Room j X.A) (hg : Gl X x) (ha : PA X (e :: es) t) (hk : k ≤ j := by decide)
    (hdb : (x == ("__debug__" : Str)) = false := by decide) (he : starEach (e :: es) X.env = (false, eval e X.env) :: starEach es X.env := by rfl)
    (hpl : (backTo pos (starEach es X.env)).any (·.1) = false := by rfl) :
    PE X (.Call (.Name x p) (e :: es) [] pos) (tCl sp t) := by
  obtain ⟨f, fd, F, b, g, ok⟩ := D.ex
  refine ⟨fun pins s σ H Q I h => ?_⟩
  refine wpAny_Call_Name_kw (ld_glob I hg g ?_ hdb)
  refine PySem.W.callWith_K (h₀ := X.base) I.ok.mod.kin F.kp (thn (ha.run pos pins s σ H _ I h) fun us s1 got => ?_) he hpl
  obtain ⟨vs, H1, I1, r1, q2⟩ := got
  refine ⟨I1.kIn, ?_⟩
  have cnt : us.length = ps.length := by
    rw [← r1.length]
    exact ok.len _ _ _ _ q2
  have bnd : BindsTo s1 fd ⟨us, []⟩ (ps.zip us) := by
    have z := b s1 us I1.kIn (by simpa using cnt)
    simpa using z
  refine wpAny_call (codeAny_mono (ok.run X.A X.stack s1 H1 ⟨us, []⟩ us vs _ E0 gd (hr.mono hk) I1.env0 bnd r1 q2) ?_)
  intro r s' post
  cases r with
  | error e => exact (post : False).elim
  | ok fl =>
    cases fl with
    | ret u => exact I1.after post
    | next => exact (post : False).elim
    | brk => exact (post : False).elim
    | cont => exact (post : False).elim
/-- how the keywords bind -/
def KwTo (K : PySem.W.Frag) (x : Str) (st : Stmt) (ps ks : List Str) (n : Nat) (g : {α : Type} → List α → List α → List α) : Prop :=
  (∀ {vs zs : List V} {us ws : List Value}, vs.length = n → zs.length = ks.length → Vals vs us → Vals zs ws → Vals (g vs zs) (g us ws)) ∧
  ∀ f fd, Fun K x x st f fd → ∀ (s : Shared) (us ws : List Value), us.length = n → ws.length = ks.length → BindsTo s fd ⟨us, ks.zip ws⟩ (ps.zip (g us ws))
def tClN (n m : Nat) (sp : Sp) (gV : List V → List V → List V) (t tk : TA) : TE := fun σ H Q => t σ H fun vs H1 => tk σ H1 fun zs H2 => vs.length = n ∧ zs.length = m ∧ sp (gV vs zs) H2 Q E0
/-- f(k = v, ..) -/
theorem pe_cz {g : {α : Type} → List α → List α → List α} (D : Dn X.prog X.w X.K X.mg X.base k x st ps sp) (hr : Room j X.A) (kb : KwTo X.K x st ps ks 0 g) (hg : Gl X x) (hkw : PK X kws tk) (hk : k ≤ j := by decide)
    (hall : (backToKw pos (keywordEach kws X.env)).all (·.1.isSome) = true := by rfl) (hks : (backToKw pos (keywordEach kws X.env)).filterMap (·.1) = ks := by rfl)
    (hdb : (x == ("__debug__" : Str)) = false := by decide)
    (hpl : ((backTo pos (starEach [] X.env)).any (·.1) || (backToKw pos (keywordEach kws X.env)).any (·.1.isNone)) = false := by rfl) :
    PE X (.Call (.Name x p) [] kws pos) (tClN 0 ks.length sp g tNil tk) := by
  obtain ⟨f, fd, F, b, gg, ok⟩ := D.ex
  refine ⟨fun pins s σ H Q I h => ?_⟩
  refine wpAny_Call_Name_kw (ld_glob I hg gg ?_ hdb)
  refine PySem.W.callWith_KW0 (h₀ := X.base) I.ok.mod.kin F.kp hall ?_ hpl
  refine thn (hkw.run pos pins s σ H _ I h) fun ws s2 got => ?_
  obtain ⟨zs, H2, I2, rz, l1, l2, q2⟩ := got
  refine ⟨I2.kIn, ?_⟩
  rw [hks]
  have rel := kb.1 l1 l2 Paired.nil rz
  have bnd := kb.2 f fd F s2 [] ws rfl (rz.length.symm.trans l2)
  refine wpAny_call (codeAny_mono (ok.run X.A X.stack s2 H2 ⟨[], ks.zip ws⟩ _ _ _ E0 (hr.mono hk) I2.env0 bnd rel q2) ?_)
  intro r s' post
  cases r with
  | error e => exact (post : False).elim
  | ok fl =>
    cases fl with
    | ret u => exact I2.after post
    | next => exact (post : False).elim
    | brk => exact (post : False).elim
    | cont => exact (post : False).elim
end

/-! ### heaps: all but the draws' list stays -/
def Kp (a : Addr) (H H' : Hp) : Prop := ∀ b o, b ≠ a → H b = some o → H' b = some o
theorem Kp.refl {a : Addr} {H : Hp} : Kp a H H := fun _ _ _ e => e
theorem Kp.trans {a : Addr} {H H1 H2 : Hp} (x : Kp a H H1) (y : Kp a H1 H2) : Kp a H H2 := fun b o n e => y b o n (x b o n e)
theorem Kp.of {a : Addr} {H H' : Hp} (x : Same H H') : Kp a H H' := fun b o _ e => x b o e
theorem Kp.at {a : Addr} {H : Hp} {o : HO} : Kp a H (upd H a o) := fun b u n e => by rw [upd_ne n]; exact e
theorem Kp.new {a p : Addr} {H : Hp} {o : HO} (n : H p = none) : Kp a H (upd H p o) := fun b u _ e => by rw [upd_ne (ne_of_none e n)]; exact e
theorem Same.new {p : Addr} {H : Hp} {o : HO} (n : H p = none) : Same H (upd H p o) := fun b u e => by rw [upd_ne (ne_of_none e n)]; exact e
theorem SqT.same {K : PySem.W.Frag} {H H' : Hp} {b : Addr} {xs : List V} (k : Same H H') (h : SqT K H b xs) : SqT K H' b xs := by
  rcases h with (h | ⟨o, h⟩) | h
  · exact .inl (.inl (k _ _ h))
  · exact .inl (.inr ⟨o, k _ _ h⟩)
  · exact .inr h
/-- the draws' state: its list of three ints, after at most n draws -/
structure RS (n : Nat) (H : Hp) (a : Addr) : Prop where
  ok : ∃ d s t : Int, H a = some (.lst [.int d, .int s, .int t]) ∧ 0 ≤ d ∧ d.natAbs < 2 ^ 13000 ∧ 0 ≤ s ∧ s < 2305843009213693951 ∧ 0 ≤ t ∧ t ≤ n
theorem RS.mono {n m : Nat} {H : Hp} {a : Addr} (h : n ≤ m) (r : RS n H a) : RS m H a := by
  obtain ⟨d, s, t, e, h1, h2, h3, h4, h5, h6⟩ := r.ok
  exact ⟨d, s, t, e, h1, h2, h3, h4, h5, by omega⟩
theorem RS.same {n : Nat} {H H' : Hp} {a : Addr} (r : RS n H a) (k : Same H H') : RS n H' a := by
  obtain ⟨d, s, t, e, r⟩ := r.ok
  exact ⟨d, s, t, k _ _ e, r⟩
theorem RS.ne {n : Nat} {H : Hp} {a b : Addr} {o : HO} (r : RS n H a) (e : H b = some o) (no : ∀ xs, o ≠ .lst xs) : b ≠ a := by
  obtain ⟨d, s, t, e2, _⟩ := r.ok
  exact ne_of e e2 (no _)
theorem SqT.kp {K : PySem.W.Frag} {n : Nat} {H H' : Hp} {a b : Addr} {xs : List V} (r : RS n H a) (k : Kp a H H') (h : SqT K H b xs) : SqT K H' b xs := by
  rcases h with (h | ⟨o, h⟩) | h
  · exact .inl (.inl (k _ _ (r.ne h (fun _ z => by cases z)) h))
  · exact .inl (.inr ⟨o, k _ _ (r.ne h (fun _ z => by cases z)) h⟩)
  · exact .inr h

/-! ### ranges -/
abbrev Rg := Option (Option Int × Option Int)
def ov : Option Int → V
  | none => .non
  | some i => .int i
def RgV (K : PySem.W.Frag) (H : Hp) (v : V) : Rg → Prop
  | none => v = .non
  | some (l, h) => ∃ p, v = .ref p ∧ SqT K H p [ov l, ov h]
theorem RgV.same {K : PySem.W.Frag} {H H' : Hp} {v : V} {r : Rg} (k : Same H H') (h : RgV K H v r) : RgV K H' v r := by
  cases r with
  | none => exact h
  | some q =>
    obtain ⟨p, e, s⟩ := h
    exact ⟨p, e, SqT.same k s⟩
theorem RgV.kp {K : PySem.W.Frag} {n : Nat} {H H' : Hp} {a : Addr} {v : V} {r : Rg} (rs : RS n H a) (k : Kp a H H') (h : RgV K H v r) : RgV K H' v r := by
  cases r with
  | none => exact h
  | some q =>
    obtain ⟨p, e, s⟩ := h
    exact ⟨p, e, SqT.kp rs k s⟩
/-- Range check accepts it -/
def RgFit : Rg → Prop
  | some (some l, some h) => l ≤ h
  | _ => True
end Gd

set_option Elab.async false
set_option linter.all false
set_option maxRecDepth 100000
namespace Gd
open PySem PySem.Spec PyProof.Rows L2

theorem inV_ints (z : Int) : ∀ ns : List Int, inV (.int z) (ns.map V.int) = decide (z ∈ ns)
  | [] => rfl
  | n :: ns => by
    have ih := inV_ints z ns
    unfold inV at ih ⊢
    rw [List.map_cons, List.any_cons, ih]
    show ((n == z) || decide (z ∈ ns)) = decide (z ∈ n :: ns)
    by_cases h : n = z
    · subst h
      simp
    · have h2 : ¬ z = n := fun e => h e.symm
      simp [h, h2]
theorem flat_ints : ∀ ns : List Int, (ns.map V.int).all flatV = true
  | [] => rfl
  | _ :: ns => flat_ints ns
theorem dp_ints {K : PySem.W.Frag} {H : Hp} : ∀ ns : List Int, DpAll K H (ns.map V.int) (ns.map PyData.int)
  | [] => .nil
  | n :: ns => .cons (.int n) (dp_ints ns)
theorem canLay_ints : ∀ ns : List Int, PyData.canLayAll0 (ns.map PyData.int) = true
  | [] => rfl
  | n :: ns => by
    rw [List.map_cons]
    unfold PyData.canLayAll0
    rw [canLay_ints ns]
    rfl
theorem depth_ints : ∀ ns : List Int, PyData.depthAll (ns.map PyData.int) ≤ 1
  | [] => by simp [PyData.depthAll]
  | n :: ns => by
    have ih := depth_ints ns
    simp only [List.map_cons, PyData.depthAll, PyData.depth]
    omega
theorem shaped_ints (ns : List Int) : SeqAt.shaped (.list (ns.map PyData.int)) = true := by
  unfold SeqAt.shaped
  have h1 : PyData.canLay0 (.list (ns.map PyData.int)) = true := by
    have e : PyData.canLay0 (.list (ns.map PyData.int)) = PyData.canLayAll0 (ns.map PyData.int) := by simp [PyData.canLay0]
    rw [e]
    exact canLay_ints ns
  have h2 : PyData.depth (.list (ns.map PyData.int)) ≤ 64 := by
    have := depth_ints ns
    simp only [PyData.depth]
    omega
  rw [h1, decide_eq_true h2]
  rfl
theorem eqv_ints_nil (ns : List Int) : PyData.eqv (.list (ns.map PyData.int)) (.list []) = decide (ns = []) := by
  cases ns with
  | nil => simp [PyData.eqv, PyData.eqvAll]
  | cons n ns => simp [PyData.eqv, PyData.eqvAll]
/-- [x for x in xs if test] over ints, the test a function of the int -/
theorem lc_filter {K : PySem.W.Frag} {j : Nat} {tt : TT} {σ : L2.St} {H : Hp} {Qd : Hp → Prop} {a D : Addr} (ns : List Int) (p : Int → Bool)
    (hl : SqL K H a (ns.map V.int)) (hz : ns.length ≤ 100000) (nD : H D = none)
    (hw : ∀ z : Int, wipe ((wipe σ [j]).set j (some (.int z))) [j] = wipe σ [j])
    (hg : ∀ z : Int, ((wipe σ [j]).set j (some (.int z)))[j]? = some (some (.int z)))
    (ht : ∀ (z : Int) (H' : Hp) (R : Bool → Hp → Prop), Same H H' → R (p z) H' → tt ((wipe σ [j]).set j (some (.int z))) H' R)
    (q : Qd (upd H D (.lst ((ns.filter p).map V.int)))) :
    ∃ Z : Nat → Nat → Hp → Prop, (∃ m, Z 0 m (upd H D (.lst []))) ∧
      ∀ i m G, Z i m G →
        ((Itl K a).stop i G ∧ Qd G) ∨
        ((Itl K a).go i G ∧ ∃ N : Hp → Prop, (∀ G', N G' → ∃ m', m' < m ∧ Z (i + 1) m' G') ∧
          ∀ x G', (Itl K a).yld i G x G' →
            gName j x (wipe σ [j]) G' fun σ2 G2 =>
              wipe σ2 [j] = wipe σ [j] ∧
              tt σ2 G2 fun b G3 =>
                if b = true then
                  tVar j σ2 G3 fun y G4 =>
                    ∃ acc, G4 D = some (.lst acc) ∧ acc.length < sizeLine ∧
                      N (upd G4 D (.lst (acc ++ [y])))
                else N G3) := by
  refine lc_list (K := K) (a := a) (xs := ns.map V.int) (fun i H' => H' = upd H D (.lst (((ns.take i).filter p).map V.int))) rfl ?_ ?_ ?_
  · intro i H' _ e
    subst e
    exact (Same.new nD).seq hl
  · intro i x H' hx e
    subst e
    rw [List.getElem?_map] at hx
    cases c : ns[i]? with
    | none =>
      rw [c] at hx
      cases hx
    | some z =>
      rw [c] at hx
      have ex : V.int z = x := Option.some.inj hx
      subst ex
      have lt : i < ns.length := (List.getElem?_eq_some_iff.mp c).1
      have tk : (ns.take (i + 1)).filter p = (ns.take i).filter p ++ (if p z = true then [z] else []) := by
        rw [List.take_add_one, c]
        show ((ns.take i) ++ [z]).filter p = _
        rw [List.filter_append]
        by_cases c2 : p z = true
        · rw [if_pos c2]; simp [c2]
        · rw [if_neg c2]; simp [c2]
      refine ⟨hw z, ht z _ _ (Same.new nD) ?_⟩
      by_cases c2 : p z = true
      · rw [c2]
        refine iteT ⟨_, hg z, _, upd_same, ?_, ?_⟩
        · rw [List.length_map]
          have h1 : ((ns.take i).filter p).length ≤ (ns.take i).length := List.length_filter_le _ _
          have h2 : (ns.take i).length ≤ ns.length := List.length_take_le' ..
          exact Nat.lt_of_le_of_lt (Nat.le_trans (Nat.le_trans h1 h2) hz) (by decide)
        · rw [upd_upd, tk, if_pos c2, List.map_append]
          rfl
      · have c3 : p z = false := by simpa using c2
        rw [c3]
        refine iteF ?_
        show upd H D _ = upd H D _
        rw [tk, if_neg c2, List.append_nil]
  · intro H' e
    subst e
    rw [List.length_map, List.take_length]
    exact q
end Gd

set_option Elab.async false
set_option linter.all false
set_option maxRecDepth 100000
set_option autoImplicit false
namespace Gd
open PySem PySem.Spec PyProof.Rows L2

/-! ### data whose text is short -/
structure DOk (n k : Nat) (d : PyData) : Prop where
  short : d.leavesShort 62 = true
  bulk : d.bulk ≤ n
  nod : d.hasDict = false
  shw : d.showable = true
  lay : d.canLay0 = true
  deep : d.depth ≤ k
structure DAll (n k : Nat) (ds : List PyData) : Prop where
  short : PyData.leavesShortAll 62 ds = true
  bulk : PyData.bulkAll ds ≤ n
  nod : PyData.hasDictAll ds = false
  shw : PyData.showableAll ds = true
  lay : PyData.canLayAll0 ds = true
  deep : PyData.depthAll ds ≤ k
theorem DOk.mono {n m k j : Nat} {d : PyData} (h : DOk n k d) (a : n ≤ m) (b : k ≤ j) : DOk m j d :=
  ⟨h.short, Nat.le_trans h.bulk a, h.nod, h.shw, h.lay, Nat.le_trans h.deep b⟩
theorem DAll.mono {n m k j : Nat} {ds : List PyData} (h : DAll n k ds) (a : n ≤ m) (b : k ≤ j) : DAll m j ds :=
  ⟨h.short, Nat.le_trans h.bulk a, h.nod, h.shw, h.lay, Nat.le_trans h.deep b⟩
theorem DOk.none : DOk 0 1 .none := ⟨rfl, Nat.le_refl _, rfl, rfl, rfl, by simp [PyData.depth]⟩
theorem DOk.bool (b : Bool) : DOk 0 1 (.bool b) := ⟨rfl, Nat.le_refl _, rfl, rfl, rfl, by simp [PyData.depth]⟩
theorem DOk.int {i : Int} (h : i.natAbs < 10 ^ 60) : DOk 0 1 (.int i) := by
  refine ⟨?_, Nat.le_refl _, rfl, ?_, rfl, by simp [PyData.depth]⟩
  · have e := int_text_length_le10 (k := 60) (by decide) h
    unfold PyData.leavesShort
    refine decide_eq_true ?_
    show (Str.ofString (toString i)).length ≤ 62
    rw [PySem.ofString_length]
    omega
  · unfold PyData.showable
    refine decide_eq_true ?_
    have h2 : i.natAbs < 2 ^ 200 := Nat.lt_trans h (by decide)
    have := PySem.Flt.log2_lt_of (k := 200) (by decide) h2
    omega
theorem DOk.str {x : Str} (h1 : (x.cps.toList.all fun c => decide (c < 16 ^ 8)) = true) (h2 : x.cps.size ≤ 20) (h3 : PyData.canLay0 (.str x) = true) : DOk 20 1 (.str x) :=
  ⟨by unfold PyData.leavesShort; exact h1, by unfold PyData.bulk; exact h2, rfl, rfl, h3, by simp [PyData.depth]⟩
theorem DAll.nil : DAll 0 0 [] := ⟨rfl, Nat.le_refl _, rfl, rfl, rfl, by simp [PyData.depthAll]⟩
theorem DAll.cons {n m k j : Nat} {d : PyData} {ds : List PyData} (h : DOk n k d) (t : DAll m j ds) : DAll (n + 1 + m) (max k j) (d :: ds) := by
  refine ⟨?_, ?_, ?_, ?_, ?_, ?_⟩
  · unfold PyData.leavesShortAll; rw [h.short, t.short]; rfl
  · unfold PyData.bulkAll; have := h.bulk; have := t.bulk; omega
  · unfold PyData.hasDictAll; rw [h.nod, t.nod]; rfl
  · unfold PyData.showableAll; rw [h.shw, t.shw]; rfl
  · unfold PyData.canLayAll0; rw [h.lay, t.lay]; rfl
  · unfold PyData.depthAll; have := h.deep; have := t.deep; omega
theorem DOk.list {n k : Nat} {ds : List PyData} (t : DAll n k ds) : DOk n (k + 1) (.list ds) := by
  refine ⟨?_, ?_, ?_, ?_, ?_, ?_⟩
  · unfold PyData.leavesShort; exact t.short
  · unfold PyData.bulk; exact t.bulk
  · unfold PyData.hasDict; exact t.nod
  · unfold PyData.showable; exact t.shw
  · unfold PyData.canLay0; exact t.lay
  · unfold PyData.depth; have := t.deep; omega
theorem DOk.tuple {n k : Nat} {ds : List PyData} (t : DAll n k ds) : DOk n (k + 1) (.tuple ds) := by
  refine ⟨?_, ?_, ?_, ?_, ?_, ?_⟩
  · unfold PyData.leavesShort; exact t.short
  · unfold PyData.bulk; exact t.bulk
  · unfold PyData.hasDict; exact t.nod
  · unfold PyData.showable; exact t.shw
  · unfold PyData.canLay0; exact t.lay
  · unfold PyData.depth; have := t.deep; omega
theorem DOk.fits {n k : Nat} {d : PyData} (h : DOk n k d) (hn : n ≤ 200000) : d.shown.length ≤ sizeLine := by
  have e := PyData.shown_le_bulk 62 (by decide) d h.short
  have b := h.bulk
  have s : sizeLine = 16777216 := by decide
  omega
theorem DOk.shaped {n k : Nat} {d : PyData} (h : DOk n k d) (hk : k ≤ 64) : SeqAt.shaped d = true := by
  unfold SeqAt.shaped
  rw [h.lay, decide_eq_true (Nat.le_trans h.deep hk)]
  rfl
theorem DOk.eqv {n k : Nat} {d : PyData} (h : DOk n k d) : PyData.eqv d d = true := SeqAt.eqv_refl d h.lay
section
variable {X : Cx}
/-- repr of data that is short -/
theorem call_reprD {k : Nat} (gd : X.A.guards = some []) (hr : Room k X.A) : CallR X (.builtin "repr") (fun xs H Q => ∃ v d n k, xs = [v] ∧
    Dp X.K H v d ∧ DOk n k d ∧ n ≤ 200000 ∧ k ≤ 64 ∧ (∃ a, v = .ref a) ∧ Q (.str d.shown) H) := by
  intro pins s σ H xs us Q I r h
  obtain ⟨v, d, n, k, e, dp, ok, hn, hk, ex, q⟩ := h
  exact call_repr gd hr pins s σ H xs us Q I r ⟨v, d, e, dp, ok.nod, ok.shw, Nat.le_trans ok.deep hk, ok.fits hn, ex, q⟩
end

/-! ### draws -/
theorem RS.fresh {n : Nat} {H : Hp} {g p : Addr} (r : RS n H g) (np : H p = none) : p ≠ g := fun z => by
  obtain ⟨_, _, _, e, _⟩ := r.ok
  rw [← z, np] at e
  cases e
theorem pick_mem {xs : List V} {d : Int} (h0 : 0 ≤ d) (h1 : d < (xs.length : Int)) : ∃ v, atI xs d = some v ∧ v ∈ xs := by
  have lt : d.toNat < xs.length := by omega
  refine ⟨xs[d.toNat], ?_, List.getElem_mem lt⟩
  exact at_of (j := d.toNat) (by omega) (List.getElem?_eq_getElem lt)
theorem Kp.lst {K : PySem.W.Frag} {H H' : Hp} {g b : Addr} {xs : List V} (k : Kp g H H') (h : b ≠ g) (l : SqL K H b xs) : SqL K H' b xs := by
  rcases l with (h2 | ⟨o, h2⟩) | h2
  · exact .inl (.inl (k _ _ h h2))
  · exact .inl (.inr ⟨o, k _ _ h h2⟩)
  · exact .inr h2
/-- [e for x in xs] over a list; each e is a value of its own (told by f), no matter what else the heap bears -/
theorem lc_map {K : PySem.W.Frag} {j : Nat} {te : TE} {σ : L2.St} {H : Hp} {Qd : Hp → Prop} {a D : Addr} {xs : List V} (f : V → V)
    (hl : SqL K H a xs) (hz : xs.length ≤ 100000) (nD : H D = none)
    (hw : ∀ z : V, wipe ((wipe σ [j]).set j (some z)) [j] = wipe σ [j])
    (he : ∀ (z : V) (H' : Hp) (R : VK), z ∈ xs → Same H H' → R (f z) H' → te ((wipe σ [j]).set j (some z)) H' R)
    (q : Qd (upd H D (.lst (xs.map f)))) :
    ∃ Z : Nat → Nat → Hp → Prop, (∃ m, Z 0 m (upd H D (.lst []))) ∧
      ∀ i m G, Z i m G →
        ((Itl K a).stop i G ∧ Qd G) ∨
        ((Itl K a).go i G ∧ ∃ N : Hp → Prop, (∀ G', N G' → ∃ m', m' < m ∧ Z (i + 1) m' G') ∧
          ∀ x G', (Itl K a).yld i G x G' →
            gName j x (wipe σ [j]) G' fun σ2 G2 =>
              wipe σ2 [j] = wipe σ [j] ∧
              tYes σ2 G2 fun b G3 =>
                if b = true then
                  te σ2 G3 fun y G4 =>
                    ∃ acc, G4 D = some (.lst acc) ∧ acc.length < sizeLine ∧
                      N (upd G4 D (.lst (acc ++ [y])))
                else N G3) := by
  refine lc_list (K := K) (a := a) (xs := xs) (fun i H' => H' = upd H D (.lst ((xs.take i).map f))) rfl ?_ ?_ ?_
  · intro i H' _ e
    subst e
    exact (Same.new nD).seq hl
  · intro i x H' hx e
    subst e
    have lt : i < xs.length := (List.getElem?_eq_some_iff.mp hx).1
    have tk : (xs.take (i + 1)).map f = (xs.take i).map f ++ [f x] := by
      rw [List.take_add_one, hx]
      simp
    refine ⟨hw x, ?_⟩
    refine he x _ _ (List.mem_of_getElem? hx) (Same.new nD) ⟨_, upd_same, ?_, ?_⟩
    · rw [List.length_map]
      exact Nat.lt_of_le_of_lt (Nat.le_trans (List.length_take_le' ..) hz) (by decide)
    · rw [upd_upd, tk]
  · intro H' e
    subst e
    rw [List.take_length]
    exact q
/-- [e for x in xs] over a list; e may make objects; each is told by Out of its place -/
theorem lc_rel {K : PySem.W.Frag} {j : Nat} {te : TE} {σ : L2.St} {H : Hp} {Qd : Hp → Prop} {a D : Addr} {xs : List V} (Out : Nat → Hp → V → Prop)
    (hl : SqL K H a xs) (hz : xs.length ≤ 100000) (nD : H D = none)
    (st : ∀ i G G' y acc, Kp D G G' → G D = some (.lst acc) → Out i G y → Out i G' y)
    (hw : ∀ z : V, wipe ((wipe σ [j]).set j (some z)) [j] = wipe σ [j])
    (he : ∀ (i : Nat) (z : V) (G : Hp) (R : VK), xs[i]? = some z → Same H G → (∀ y G', Same G G' → Out i G' y → R y G') → te ((wipe σ [j]).set j (some z)) G R)
    (q : ∀ G ys, Same H G → G D = some (.lst ys) → ys.length = xs.length → (∀ (i : Nat) y, ys[i]? = some y → Out i G y) → Qd G) :
    ∃ Z : Nat → Nat → Hp → Prop, (∃ m, Z 0 m (upd H D (.lst []))) ∧
      ∀ i m G, Z i m G →
        ((Itl K a).stop i G ∧ Qd G) ∨
        ((Itl K a).go i G ∧ ∃ N : Hp → Prop, (∀ G', N G' → ∃ m', m' < m ∧ Z (i + 1) m' G') ∧
          ∀ x G', (Itl K a).yld i G x G' →
            gName j x (wipe σ [j]) G' fun σ2 G2 =>
              wipe σ2 [j] = wipe σ [j] ∧
              tYes σ2 G2 fun b G3 =>
                if b = true then
                  te σ2 G3 fun y G4 =>
                    ∃ acc, G4 D = some (.lst acc) ∧ acc.length < sizeLine ∧
                      N (upd G4 D (.lst (acc ++ [y])))
                else N G3) := by
  refine lc_list (K := K) (a := a) (xs := xs) (fun i G => Same H G ∧ ∃ ys, G D = some (.lst ys) ∧ ys.length = i ∧ ∀ (k : Nat) y, ys[k]? = some y → Out k G y)
    ⟨Same.new nD, [], upd_same, rfl, fun k y e => by simp at e⟩ ?_ ?_ ?_
  · intro i G _ e
    exact e.1.seq hl
  · rintro i x G hx ⟨sm, ys, oD, ly, ok⟩
    have lt : i < xs.length := (List.getElem?_eq_some_iff.mp hx).1
    refine ⟨hw x, ?_⟩
    refine he i x G _ hx sm fun y G' sm' oy => ⟨ys, sm' _ _ oD, Nat.lt_of_le_of_lt (by omega : ys.length ≤ 100000) (by decide), ?_⟩
    have kp : Kp D G' (upd G' D (.lst (ys ++ [y]))) := Kp.at
    refine ⟨fun b o e => ?_, ys ++ [y], upd_same, by rw [List.length_append, ly]; rfl, ?_⟩
    · rw [upd_ne (ne_of_none e nD)]
      exact sm' _ _ (sm _ _ e)
    · intro k y' ey
      by_cases c : k < ys.length
      · rw [List.getElem?_append_left c] at ey
        exact st _ _ _ _ _ kp (sm' _ _ oD) (st _ _ _ _ _ (Kp.of sm') oD (ok k y' ey))
      · have kl : k < (ys ++ [y]).length := (List.getElem?_eq_some_iff.mp ey).1
        rw [List.length_append] at kl
        have kk : k = i := by
          have : ([y] : List V).length = 1 := rfl
          omega
        subst kk
        rw [List.getElem?_append_right (by omega), ly, Nat.sub_self] at ey
        have e1 : y = y' := Option.some.inj ey
        subst e1
        exact st _ _ _ _ _ kp (sm' _ _ oD) oy
  · rintro G ⟨sm, ys, oD, ly, ok⟩
    exact q G ys sm oD ly ok
theorem SqT.kpl {K : PySem.W.Frag} {H H' : Hp} {a b : Addr} {xs ys : List V} (k : Kp a H H') (l : H a = some (.lst ys)) (h : SqT K H b xs) : SqT K H' b xs := by
  rcases h with (h | ⟨o, h⟩) | h
  · exact .inl (.inl (k _ _ (ne_of h l (fun z => by cases z)) h))
  · exact .inl (.inr ⟨o, k _ _ (ne_of h l (fun z => by cases z)) h⟩)
  · exact .inr h
theorem RgV.kpl {K : PySem.W.Frag} {H H' : Hp} {a : Addr} {v : V} {r : Rg} {ys : List V} (k : Kp a H H') (l : H a = some (.lst ys)) (h : RgV K H v r) : RgV K H' v r := by
  match r, h with
  | none, h => exact h
  | some q, ⟨p, e, s⟩ => exact ⟨p, e, SqT.kpl k l s⟩
/-! ### data of any size, for == -/
structure Ly (k : Nat) (d : PyData) : Prop where
  lay : d.canLay0 = true
  deep : d.depth ≤ k
structure LyAll (k : Nat) (ds : List PyData) : Prop where
  lay : PyData.canLayAll0 ds = true
  deep : PyData.depthAll ds ≤ k
theorem Ly.mono {k j : Nat} {d : PyData} (h : Ly k d) (a : k ≤ j) : Ly j d := ⟨h.lay, Nat.le_trans h.deep a⟩
theorem LyAll.mono {k j : Nat} {d : List PyData} (h : LyAll k d) (a : k ≤ j) : LyAll j d := ⟨h.lay, Nat.le_trans h.deep a⟩
theorem Ly.none : Ly 1 .none := ⟨rfl, by simp [PyData.depth]⟩
theorem Ly.bool (b : Bool) : Ly 1 (.bool b) := ⟨rfl, by simp [PyData.depth]⟩
theorem Ly.int (i : Int) : Ly 1 (.int i) := ⟨rfl, by simp [PyData.depth]⟩
theorem LyAll.nil : LyAll 0 [] := ⟨rfl, by simp [PyData.depthAll]⟩
theorem LyAll.cons {k j : Nat} {d : PyData} {ds : List PyData} (h : Ly k d) (t : LyAll j ds) : LyAll (max k j) (d :: ds) := by
  refine ⟨?_, ?_⟩
  · unfold PyData.canLayAll0; rw [h.lay, t.lay]; rfl
  · unfold PyData.depthAll; have := h.deep; have := t.deep; omega
theorem Ly.list {k : Nat} {ds : List PyData} (t : LyAll k ds) : Ly (k + 1) (.list ds) := by
  refine ⟨?_, ?_⟩
  · unfold PyData.canLay0; exact t.lay
  · unfold PyData.depth; have := t.deep; omega
theorem Ly.tuple {k : Nat} {ds : List PyData} (t : LyAll k ds) : Ly (k + 1) (.tuple ds) := by
  refine ⟨?_, ?_⟩
  · unfold PyData.canLay0; exact t.lay
  · unfold PyData.depth; have := t.deep; omega
theorem Ly.shaped {k : Nat} {d : PyData} (h : Ly k d) (hk : k ≤ 64 := by decide) : SeqAt.shaped d = true := by
  unfold SeqAt.shaped
  rw [h.lay, decide_eq_true (Nat.le_trans h.deep hk)]
  rfl
theorem Ly.eqv {k : Nat} {d : PyData} (h : Ly k d) : PyData.eqv d d = true := SeqAt.eqv_refl d h.lay
/-- [e for x in t] over a tuple -/
theorem lc_relT {K : PySem.W.Frag} {j : Nat} {te : TE} {σ : L2.St} {H : Hp} {Qd : Hp → Prop} {a D : Addr} {xs : List V} (Out : Nat → Hp → V → Prop)
    (hl : SqT K H a xs) (hz : xs.length ≤ 100000) (nD : H D = none)
    (st : ∀ i G G' y acc, Kp D G G' → G D = some (.lst acc) → Out i G y → Out i G' y)
    (hw : ∀ z : V, wipe ((wipe σ [j]).set j (some z)) [j] = wipe σ [j])
    (he : ∀ (i : Nat) (z : V) (G : Hp) (R : VK), xs[i]? = some z → Same H G → (∀ y G', Same G G' → Out i G' y → R y G') → te ((wipe σ [j]).set j (some z)) G R)
    (q : ∀ G ys, Same H G → G D = some (.lst ys) → ys.length = xs.length → (∀ (i : Nat) y, ys[i]? = some y → Out i G y) → Qd G) :
    ∃ Z : Nat → Nat → Hp → Prop, (∃ m, Z 0 m (upd H D (.lst []))) ∧
      ∀ i m G, Z i m G →
        ((Itt K a).stop i G ∧ Qd G) ∨
        ((Itt K a).go i G ∧ ∃ N : Hp → Prop, (∀ G', N G' → ∃ m', m' < m ∧ Z (i + 1) m' G') ∧
          ∀ x G', (Itt K a).yld i G x G' →
            gName j x (wipe σ [j]) G' fun σ2 G2 =>
              wipe σ2 [j] = wipe σ [j] ∧
              tYes σ2 G2 fun b G3 =>
                if b = true then
                  te σ2 G3 fun y G4 =>
                    ∃ acc, G4 D = some (.lst acc) ∧ acc.length < sizeLine ∧
                      N (upd G4 D (.lst (acc ++ [y])))
                else N G3) := by
  refine lc_tup (K := K) (a := a) (xs := xs) (fun i G => Same H G ∧ ∃ ys, G D = some (.lst ys) ∧ ys.length = i ∧ ∀ (k : Nat) y, ys[k]? = some y → Out k G y)
    ⟨Same.new nD, [], upd_same, rfl, fun k y e => by simp at e⟩ ?_ ?_ ?_
  · intro i G _ e
    exact SqT.same e.1 hl
  · rintro i x G hx ⟨sm, ys, oD, ly, ok⟩
    have lt : i < xs.length := (List.getElem?_eq_some_iff.mp hx).1
    refine ⟨hw x, ?_⟩
    refine he i x G _ hx sm fun y G' sm' oy => ⟨ys, sm' _ _ oD, Nat.lt_of_le_of_lt (by omega : ys.length ≤ 100000) (by decide), ?_⟩
    have kp : Kp D G' (upd G' D (.lst (ys ++ [y]))) := Kp.at
    refine ⟨fun b o e => ?_, ys ++ [y], upd_same, by rw [List.length_append, ly]; rfl, ?_⟩
    · rw [upd_ne (ne_of_none e nD)]
      exact sm' _ _ (sm _ _ e)
    · intro k y' ey
      by_cases c : k < ys.length
      · rw [List.getElem?_append_left c] at ey
        exact st _ _ _ _ _ kp (sm' _ _ oD) (st _ _ _ _ _ (Kp.of sm') oD (ok k y' ey))
      · have kl : k < (ys ++ [y]).length := (List.getElem?_eq_some_iff.mp ey).1
        rw [List.length_append] at kl
        have kk : k = i := by
          have : ([y] : List V).length = 1 := rfl
          omega
        subst kk
        rw [List.getElem?_append_right (by omega), ly, Nat.sub_self] at ey
        have e1 : y = y' := Option.some.inj ey
        subst e1
        exact st _ _ _ _ _ kp (sm' _ _ oD) oy
  · rintro G ⟨sm, ys, oD, ly, ok⟩
    exact q G ys sm oD ly ok
end Gd

set_option Elab.async false
set_option linter.all false
set_option maxRecDepth 100000
set_option autoImplicit false
namespace Gd
open PySem PySem.Spec PyProof.Rows L2

/-! ### data stays -/
mutual
theorem dp_same {K : PySem.W.Frag} {H H' : Hp} (k : Same H H') : ∀ {v : V} {d : PyData}, Dp K H v d → Dp K H' v d
  | _, _, .non => .non
  | _, _, .bl b => .bl b
  | _, _, .int i => .int i
  | _, _, .str x => .str x
  | _, _, .lst s a => .lst (k.seq s) (dpa_same k a)
  | _, _, .tup s a => .tup (SqT.same k s) (dpa_same k a)
theorem dpa_same {K : PySem.W.Frag} {H H' : Hp} (k : Same H H') : ∀ {v : List V} {d : List PyData}, DpAll K H v d → DpAll K H' v d
  | _, _, .nil => .nil
  | _, _, .cons a b => .cons (dp_same k a) (dpa_same k b)
end
/-- no list in it -/
inductive NoL : PyData → Prop
  | non : NoL .none
  | bl (b : Bool) : NoL (.bool b)
  | int (i : Int) : NoL (.int i)
  | str (x : Str) : NoL (.str x)
  | tup {ds : List PyData} : (∀ d ∈ ds, NoL d) → NoL (.tuple ds)
/-- the only list that may change stands at a -/
def Kl (a : Addr) (H H' : Hp) : Prop := (∃ ys, H a = some (.lst ys)) ∧ Kp a H H'
mutual
theorem dp_kl {K : PySem.W.Frag} {H H' : Hp} {a : Addr} (k : Kl a H H') : ∀ {v : V} {d : PyData}, Dp K H v d → NoL d → Dp K H' v d
  | _, _, .non, _ => .non
  | _, _, .bl b, _ => .bl b
  | _, _, .int i, _ => .int i
  | _, _, .str x, _ => .str x
  | _, _, .tup s x, n => .tup (let ⟨⟨_, o⟩, kp⟩ := k; SqT.kpl kp o s) (dpa_kl k x (match n with | .tup h => h))
  | _, _, .lst s x, n => nomatch n
theorem dpa_kl {K : PySem.W.Frag} {H H' : Hp} {a : Addr} (k : Kl a H H') : ∀ {v : List V} {d : List PyData}, DpAll K H v d → (∀ x ∈ d, NoL x) → DpAll K H' v d
  | _, _, .nil, _ => .nil
  | _, _, .cons x y, n => .cons (dp_kl k x (n _ (by simp))) (dpa_kl k y fun z m => n z (by simp [m]))
end
theorem RS.kl {n : Nat} {H H' : Hp} {g : Addr} (r : RS n H g) (k : Kp g H H') : Kl g H H' := by
  obtain ⟨_, _, _, e, _⟩ := r.ok
  exact ⟨⟨_, e⟩, k⟩
theorem dpa_len {K : PySem.W.Frag} {H : Hp} : ∀ {v : List V} {d : List PyData}, DpAll K H v d → v.length = d.length
  | _, _, .nil => rfl
  | _, _, .cons _ b => by rw [List.length_cons, List.length_cons, dpa_len b]
theorem dpa_get {K : PySem.W.Frag} {H : Hp} : ∀ {v : List V} {d : List PyData} {i : Nat} {x : V}, DpAll K H v d → v[i]? = some x → ∃ y, d[i]? = some y ∧ Dp K H x y
  | _, _, _, _, .nil, e => by simp at e
  | _, _, 0, _, .cons a _, e => by
    have e' := Option.some.inj e
    subst e'
    exact ⟨_, rfl, a⟩
  | _, _, i + 1, x, .cons _ b, e => by
    obtain ⟨y, e2, h⟩ := dpa_get (i := i) (x := x) b (by simpa using e)
    exact ⟨y, by simpa using e2, h⟩
theorem dpa_app {K : PySem.W.Frag} {H : Hp} : ∀ {v w : List V} {d e : List PyData}, DpAll K H v d → DpAll K H w e → DpAll K H (v ++ w) (d ++ e)
  | _, _, _, _, .nil, y => y
  | _, _, _, _, .cons a b, y => .cons a (dpa_app b y)
theorem dpa_one {K : PySem.W.Frag} {H : Hp} {v : V} {d : PyData} (h : Dp K H v d) : DpAll K H [v] [d] := .cons h .nil
theorem dpa_take {K : PySem.W.Frag} {H : Hp} : ∀ {v : List V} {d : List PyData} (n : Nat), DpAll K H v d → DpAll K H (v.take n) (d.take n)
  | _, _, 0, _ => .nil
  | _, _, _ + 1, .nil => .nil
  | _, _, n + 1, .cons a b => .cons a (dpa_take n b)
theorem dpa_drop {K : PySem.W.Frag} {H : Hp} : ∀ {v : List V} {d : List PyData} (n : Nat), DpAll K H v d → DpAll K H (v.drop n) (d.drop n)
  | _, _, 0, r => r
  | _, _, _ + 1, .nil => .nil
  | _, _, n + 1, .cons _ b => dpa_drop n b
theorem dpa_rev {K : PySem.W.Frag} {H : Hp} : ∀ {v : List V} {d : List PyData}, DpAll K H v d → DpAll K H v.reverse d.reverse
  | _, _, .nil => .nil
  | _, _, .cons a b => by
    rw [List.reverse_cons, List.reverse_cons]
    exact dpa_app (dpa_rev b) (dpa_one a)
theorem dpa_strs {K : PySem.W.Frag} {H : Hp} : ∀ ns : List Str, DpAll K H (ns.map V.str) (ns.map PyData.str)
  | [] => .nil
  | n :: ns => .cons (.str n) (dpa_strs ns)

/-! ### an own class: its methods, len, == -/
/-- where a method stands -/
def AtM (K : PySem.W.Frag) (C : Addr) (m qual : Str) (st : Stmt) (ps : List Str) : Prop :=
  ∃ f fd, PySem.W.findIn K (.ref C) m = some (some (.ref f)) ∧ PySem.W.isFn K (.ref f) = true ∧ Fun K m qual st f fd ∧ Binds K fd ps []
/-- where a property's getter stands -/
def AtP (K : PySem.W.Frag) (C : Addr) (m qual : Str) (st : Stmt) (ps : List Str) : Prop :=
  ∃ p f fd, PropOf K C m p f ∧ Fun K m qual st f fd ∧ Binds K fd ps []
structure Mt (P : Program) (w : World) (K : PySem.W.Frag) (mg : Str → Option Value) (base : Heap)
    (k : Nat) (C : Addr) (m qual : Str) (st : Stmt) (ps : List Str) (sp : Sp) : Prop where
  ex : ∃ f fd, PySem.W.findIn K (.ref C) m = some (some (.ref f)) ∧ PySem.W.isFn K (.ref f) = true ∧ Fun K m qual st f fd ∧ Binds K fd ps [] ∧ FnOk P w K mg base CX0 k f fd ps sp
structure Pt (P : Program) (w : World) (K : PySem.W.Frag) (mg : Str → Option Value) (base : Heap)
    (k : Nat) (C : Addr) (m qual : Str) (st : Stmt) (ps : List Str) (sp : Sp) : Prop where
  ex : ∃ p f fd, PropOf K C m p f ∧ Fun K m qual st f fd ∧ Binds K fd ps [] ∧ FnOk P w K mg base CX0 k f fd ps sp
/-- an own class -/
structure Ck (K : PySem.W.Frag) (mg : Str → Option Value) (C : Addr) (x : Str) : Prop where
  cl : Cls K C
  mks : PySem.W.makesIn K C = true
  kp : PySem.W.keepIn K (.ref C) = true
  mg_ : mg x = some (.ref C)
section
variable {P : Program} {w : World} {K : PySem.W.Frag} {mg : Str → Option Value} {base : Heap}
theorem Mt.mk' {C : Addr} {m qual : Str} {st : Stmt} {ps : List Str} {k : Nat} {sp : Sp} (h : AtM K C m qual st ps)
    (ok : ∀ f fd, Fun K m qual st f fd → FnOk P w K mg base CX0 k f fd ps sp) : Mt P w K mg base k C m qual st ps sp := by
  obtain ⟨f, fd, a, i, F, b⟩ := h
  exact ⟨f, fd, a, i, F, b, ok f fd F⟩
theorem Pt.mk' {C : Addr} {m qual : Str} {st : Stmt} {ps : List Str} {k : Nat} {sp : Sp} (h : AtP K C m qual st ps)
    (ok : ∀ f fd, Fun K m qual st f fd → FnOk P w K mg base CX0 k f fd ps sp) : Pt P w K mg base k C m qual st ps sp := by
  obtain ⟨p, f, fd, a, F, b⟩ := h
  exact ⟨p, f, fd, a, F, b, ok f fd F⟩
end
section
variable {X : Cx} {x m qual : Str} {st : Stmt} {ps ks : List Str} {sp : Sp} {k j n : Nat} {e o : Expr} {es : List Expr} {kws : List Keyword} {ta : TE} {t tk : TA} {p pos apos : Pos} {C : Addr}
/-- C(e, ..) -/
theorem pe_new (T : Ck X.K X.mg C x) (D : Mt X.prog X.w X.K X.mg X.base k C "__init__" qual st ps sp) (hr : Room j X.A) (hg : Gl X x) (ha : PA X (e :: es) t) (hk : k + 1 ≤ j := by decide)
    (hdb : (x == ("__debug__" : Str)) = false := by decide) (he : starEach (e :: es) X.env = (false, eval e X.env) :: starEach es X.env := by rfl)
    (hpl : (backTo pos (starEach es X.env)).any (·.1) = false := by rfl) :
    PE X (.Call (.Name x p) (e :: es) [] pos) (tMake C sp [] E0 t) := by
  obtain ⟨f, fd, a, i, F, b, ok⟩ := D.ex
  exact pe_make ⟨T.mks, a, i, T.kp⟩ ok (hr.mono hk) hg T.mg_ b .nil pass0 ha hdb he hpl
/-- e.f, a property -/
theorem pe_p (T : Ck X.K X.mg C x) (D : Pt X.prog X.w X.K X.mg X.base k C m qual st ps sp) (hr : Room j X.A) (he : PE X e ta) (hk : k + 1 ≤ j := by decide)
    (hab : attributeBase e m X.env (eval e X.env) = eval e X.env := by rfl) : PE X (.Attribute e m pos) (tProp C sp [] E0 ta) := by
  obtain ⟨p, f, fd, a, F, b, ok⟩ := D.ex
  exact pe_prop he T.cl a ok (hr.mono hk) b .nil pass0 hab
/-- len(o), o with its own __len__ -/
theorem call_lenO (D : Mt X.prog X.w X.K X.mg X.base k C "__len__" qual st ps sp) (hr : Room j X.A) (hk : k + 1 ≤ j := by decide) :
    CallR X (.builtin "len") (fun xs H Q => ∃ a dx fs, xs = [.ref a] ∧ H a = some (.ins C dx fs) ∧ sp [.ref a] H (fun v H' => ∃ n : Int, v = .int n ∧ 0 ≤ n ∧ n < 2 ^ 63 ∧ Q (.int n) H') E0) := by
  intro pins s σ H xs us Q I r h
  obtain ⟨a, dx, fs, rfl, ha, q⟩ := h
  obtain ⟨f, fd, at_, i, F, b, ok⟩ := D.ex
  obtain ⟨u, rfl, ru⟩ := vals1 r
  cases ru
  obtain ⟨mA, J, _⟩ := ins_get I.hok ha
  obtain ⟨od, J, _⟩ := J.look
  obtain ⟨m, hF⟩ := I.fr
  refine PySem.W.len_K hF I.ok.mod.kin J at_ i ?_
  have cnt : ([Value.ref a] : List Value).length = ps.length := by
    have := ok.len _ _ _ _ q
    exact this
  have bnd : BindsTo s fd ⟨[.ref a], []⟩ (ps.zip [.ref a]) := by
    have z := b s [.ref a] I.kIn (by simpa using cnt)
    simpa using z
  have hr' := hr.mono hk
  refine wpAny_call (codeAny_mono (ok.run X.A.in1 X.stack s H ⟨[.ref a], []⟩ [.ref a] [.ref a] _ E0 hr'.in1 I.env0.in1 bnd (.cons rfl .nil) q) ?_)
  intro r' s' post
  cases r' with
  | error e => exact (post : False).elim
  | ok fl =>
    cases fl with
    | ret u =>
      obtain ⟨v, H', I2, rv, n, ev, n0, n1, q2⟩ := I.after post
      subst ev
      obtain ⟨tk, rfl⟩ := rv
      exact ⟨⟨n0, n1⟩, .int n, H', I2.tok _, ⟨s'.toks, rfl⟩, q2⟩
    | next => exact (post : False).elim
    | brk => exact (post : False).elim
    | cont => exact (post : False).elim
/-- o == y, o with its own __eq__, which tells True or False -/
theorem op_eqO (D : Mt X.prog X.w X.K X.mg X.base k C "__eq__" qual st ps sp) (hr : Room j X.A) (hk : k ≤ j := by decide) :
    OpR X (compareOp .Eq) (fun x y H Q => ∃ a dx fs t, x = .ref a ∧ H a = some (.ins C dx fs) ∧ TyX X.K H y t ∧ PySem.W.notFirst X.K C t = true ∧
      sp [.ref a, y] H (fun v H' => ∃ b : Bool, v = .bl b ∧ Q (.bl b) H') E0) := by
  intro pins s σ H x y v u Q I rx ry h
  obtain ⟨a, dx, fs, t, rfl, ha, ty, nf, q⟩ := h
  obtain ⟨f, fd, at_, i, F, b, ok⟩ := D.ex
  cases rx
  obtain ⟨mA, J, _⟩ := ins_get I.hok ha
  obtain ⟨od, J, _⟩ := J.look
  obtain ⟨m, hF⟩ := I.fr
  obtain ⟨Pk, kit, pk, _⟩ := kit_of I ry ty
  have hr' := hr.mono hk
  show wpAny (model X.prog X.w) X.A (richCompare .Eq (.ref a) u) (EP X pins σ Q) X.xe s
  refine PySem.W.cmp_K (op := .Eq) (tb := t) hr'.units0 hF I.ok.mod.kin J (kit.ty _ _ I.kIn pk) nf at_ i ?_
  have cnt : ([Value.ref a, u] : List Value).length = ps.length := by
    have := ok.len _ _ _ _ q
    exact this
  have bnd : BindsTo s fd ⟨[.ref a, u], []⟩ (ps.zip [.ref a, u]) := by
    have z := b s [.ref a, u] I.kIn (by simpa using cnt)
    simpa using z
  refine wpAny_call (codeAny_mono (ok.run X.A X.stack s H ⟨[.ref a, u], []⟩ [.ref a, u] [.ref a, y] _ E0 hr' I.env0 bnd (.cons rfl (.cons ry .nil)) q) ?_)
  intro r' s' post
  cases r' with
  | error e => exact (post : False).elim
  | ok fl =>
    cases fl with
    | ret w =>
      obtain ⟨v, H', I2, rv, n, ev, q2⟩ := I.after post
      subst ev
      have ew : w = Value.bool n := rv
      subst ew
      exact ⟨.bl n, H', I2, rfl, q2⟩
    | next => exact (post : False).elim
    | brk => exact (post : False).elim
    | cont => exact (post : False).elim
/-- C(k = v, ..) -/
theorem pe_newk {g : {α : Type} → List α → List α → List α} (T : Ck X.K X.mg C x) (D : Mt X.prog X.w X.K X.mg X.base k C "__init__" qual st ps sp) (hr : Room j X.A)
    (kb : ∀ f fd, Fun X.K "__init__" qual st f fd → KBn X.K fd ps 1 ks g g) (hg : Gl X x) (hkw : PK X kws tk) (hk : k + 1 ≤ j := by decide)
    (hall : (backToKw pos (keywordEach kws X.env)).all (·.1.isSome) = true := by rfl) (hks : (backToKw pos (keywordEach kws X.env)).filterMap (·.1) = ks := by rfl) (hdb : (x == ("__debug__" : Str)) = false := by decide)
    (hpl : ((backTo pos (starEach [] X.env)).any (·.1) || (backToKw pos (keywordEach kws X.env)).any (·.1.isNone)) = false := by rfl) :
    PE X (.Call (.Name x p) [] kws pos) (tMakeK C 0 ks.length sp g E0 tNil tk) := by
  obtain ⟨f, fd, a, i, F, b, ok⟩ := D.ex
  exact pe_makeK0 ⟨T.mks, a, i, T.kp⟩ ok (hr.mono hk) hg T.mg_ (kb f fd F) pass0 hkw hall hks hdb hpl
end
end Gd

set_option Elab.async false
set_option linter.all false
set_option maxRecDepth 100000
set_option autoImplicit false
namespace Gd
open PySem PySem.Spec PyProof.Rows L2

/-! ### t[::-1], t a tuple -/
theorem adjust_rev (n : Nat) : Builtin.Slice.sliceAdjust none none (-1) (n : Int) = ((n : Int) - 1, -1) := by
  simp [Builtin.Slice.sliceAdjust]
theorem places_rev (n : Nat) : Builtin.Slice.slicePlaces ((n : Int) - 1) (-1) (-1) = n := by
  unfold Builtin.Slice.slicePlaces
  rw [if_neg (by decide)]
  by_cases h : (n : Int) - 1 > -1
  · rw [if_pos h]
    have e : (- (-1) : Int) = 1 := by decide
    rw [e, Int.ediv_one]
    omega
  · rw [if_neg h]
    omega
theorem fm_congr {α β : Type} {f g : α → Option β} : ∀ l : List α, (∀ x ∈ l, f x = g x) → l.filterMap f = l.filterMap g
  | [], _ => rfl
  | a :: l, h => by
    rw [List.filterMap_cons, List.filterMap_cons, h a (by simp), fm_congr l fun x m => h x (by simp [m])]
theorem pick_rev (xs : Array Value) : ((List.range xs.size).filterMap fun (k : Nat) => xs[(((xs.size : Int) - 1) + (k : Int) * (-1)).toNat]?).toArray = xs.toList.reverse.toArray := by
  have e : ((List.range xs.size).filterMap fun (k : Nat) => xs[(((xs.size : Int) - 1) + (k : Int) * (-1)).toNat]?) = ((List.range xs.size).map fun k => xs.size - 1 - k).filterMap (xs[·]?) := by
    rw [List.filterMap_map]
    refine fm_congr _ fun k hk => ?_
    have := List.mem_range.mp hk
    show xs[(((xs.size : Int) - 1) + (k : Int) * (-1)).toNat]? = xs[xs.size - 1 - k]?
    congr 1
    omega
  rw [e, PySem.W.krv_range, List.filterMap_reverse, PySem.W.krv_all]
section
variable {prog : Program} {w : World} {A : Around} {E : Value → Shared → Prop} {s : Shared}
theorem applied_rev {sl : Addr} {vl vu vs : Value} {n : Nat} {Q : Int × Int × Nat → Shared → Prop} (hs : s.heap.IsSliceOf sl vl vu vs) (pl : IsPart vl none) (pu : IsPart vu none) (ps : IsPart vs (some (-1)))
    (h : Q ((n : Int) - 1, -1, n) s) : wpAny (model prog w) A (Builtin.Slice.sliceApplied (.ref sl) (pure (n : Int))) Q E s := by
  obtain ⟨os, hos, hcs, hds⟩ := id hs
  unfold Builtin.Slice.sliceApplied Builtin.Slice.sliceFields
  refine wpAny_bind (wpAny_bind (wpAny_field hos hds (x := vl) rfl (wpAny_bind (wpAny_field hos hds (x := vu) rfl (wpAny_bind (wpAny_field hos hds (x := vs) rfl (wpAny_pure ?_)))))))
  refine wpAny_bind (HT.slicePart_ ps ?_)
  show wpAny _ _ (if ((-1 : Int) == 0) = true then _ else _) _ _ s
  rw [if_neg (by decide)]
  refine wpAny_bind (HT.slicePart_ pl (wpAny_bind (HT.slicePart_ pu (wpAny_bind (wpAny_pure ?_)))))
  show wpAny _ _ (match Builtin.Slice.sliceAdjust none none (-1) (n : Int) with | (lo, hi) => pure (lo, (-1 : Int), Builtin.Slice.slicePlaces lo hi (-1))) _ _ s
  rw [adjust_rev n]
  show wpAny _ _ (pure ((n : Int) - 1, (-1 : Int), Builtin.Slice.slicePlaces ((n : Int) - 1) (-1) (-1))) _ _ s
  rw [places_rev]
  exact wpAny_pure h
theorem getItem_rev {t sl : Addr} {items : Array Value} {vl vu vs : Value} {Q : Value → Shared → Prop} (ht : IsTup s.heap t items) (hs : s.heap.IsSliceOf sl vl vu vs) (pl : IsPart vl none) (pu : IsPart vu none) (ps : IsPart vs (some (-1)))
    (h : Q (.ref s.heap.objs.size) { s with heap := s.heap.push { cls := .type "tuple", data := .seq items.toList.reverse.toArray } })
    (hsz : items.size ≤ sizeLine) : wpAny (model prog w) A (getItem (.ref t) (.ref sl)) Q E s := by
  have hok : sizeOk (.seq items.toList.reverse.toArray) := by
    show items.toList.reverse.toArray.size ≤ sizeLine
    rw [List.size_toArray, List.length_reverse, Array.length_toList]
    exact hsz
  obtain ⟨os, hos, hcs, hds⟩ := id hs
  have hTs : s.TypeIs (.ref sl) "slice" := ⟨os, hos, hcs⟩
  unfold getItem
  try with_reducible refine wpAny_holding ?_
  first | refine wpAny_bind (wpAny_pure ?_) | skip
  refine wpAny_bind (wpAny_sequenceKey ht.typeIs (by decide) ?_)
  refine wpAny_bind (wpAny_callSpecial?_slot (name := Str.ofString "__getitem__") ht.typeIs PyProof.Rows.slot_tuple_getitem
    (wpAny_call_entry PyProof.Rows.slot_tuple_getitem ht.typeIs entry_tuple_getitem ?_ (args_tuple_getitem _ _)))
  show wpAny _ _ (Builtin.Tuple.tupleItemsOf (.ref t) >>= _) _ _ s
  refine wpAny_bind (tupleItemsOf_ ht ?_)
  refine wpAny_bind (wpAny_typeOf hTs ?_)
  rw [if_pos (by decide)]
  refine wpAny_bind (applied_rev hs pl pu ps ?_)
  have hno : ¬ (((((items.size : Int) - 1) == 0) && ((-1 : Int) == 1) && (items.size == items.size)) = true) := by
    intro q
    rw [Bool.and_eq_true, Bool.and_eq_true] at q
    exact absurd (eq_of_beq q.1.2) (by decide)
  show wpAny _ _ (if ((((items.size : Int) - 1) == 0) && ((-1 : Int) == 1) && (items.size == items.size)) = true then _ else _) _ _ s
  rw [if_neg hno, pick_rev]
  first
    | exact wpAny_bind (m := Builtin.Tuple.tupleExact _) (wpAny_newObj_type (wpAny_pure ⟨_, rfl, wpAny_pure h⟩) hok)
    | exact wpAny_bind (m := Builtin.Tuple.tupleExact _) (wpAny_newObj_type (wpAny_bind (wpAny_pure (wpAny_pure ⟨_, rfl, wpAny_pure h⟩))) hok)
    | exact wpAny_bind (wpAny_bind (m := Builtin.Tuple.tupleExact _) (wpAny_newObj_type (wpAny_pure (wpAny_pure ⟨_, rfl, wpAny_pure h⟩)) hok))
    | exact wpAny_bind (wpAny_bind (m := Builtin.Tuple.tupleExact _) (wpAny_newObj_type (wpAny_pure ⟨_, rfl, wpAny_pure h⟩) hok))
end
section
variable {X : Cx}
def tRevT (K : PySem.W.Frag) (te : TE) : TE := fun σ H Q => te σ H fun x H1 => ∃ a xs, x = .ref a ∧ SqT K H1 a xs ∧ ∀ p, H1 p = none → Q (.ref p) (upd H1 p (.tup xs.reverse))
theorem pe_revT {e : Expr} {te : TE} {k : Nat} {p1 p2 p3 pos : Pos} (he : PE X e te) : PE X (.Subscript e (.Slice none none (some (.UnaryOp .USub (.Constant (.int 1) k p1) p2)) p3) pos) (tRevT X.K te) := by
  refine ⟨fun pins s σ H Q I h => ?_⟩
  refine Subscript_ (thn (he.run pins s σ H _ I h) fun v s1 ⟨x, H1, I1, r1, q1⟩ => ?_)
  obtain ⟨a, xs, ex, hx, q⟩ := q1
  subst ex
  cases r1
  have hst : PO X (some (.UnaryOp .USub (.Constant (.int 1) k p1) p2)) (tPart (tUn (rU fun i => .int (-i)) (tC (.int 1)))) := po_some (pe_un un_neg pe_int)
  refine wpAny_Slice (thn (po_none.run pins s1 σ H1 (fun o H2 => o = none ∧ H2 = H1) I1 ⟨rfl, rfl⟩) fun vl s2 ⟨l, H2, I2, pl, el, e2⟩ => ?_)
  subst el e2
  refine thn (po_none.run pins s2 σ H2 (fun o H3 => o = none ∧ H3 = H2) I2 ⟨rfl, rfl⟩) fun vu s3 ⟨u, H3, I3, pu, eu, e3⟩ => ?_
  subst eu e3
  refine thn (hst.run pins s3 σ H3 (fun o H4 => o = some (-1) ∧ H4 = H3) I3 ⟨1, rfl, -1, rfl, rfl, rfl⟩) fun vs s4 ⟨o, H4, I4, ps, eo, e4⟩ => ?_
  subst eo e4
  have I5 : Inv X pins σ H4 { s4 with heap := s4.heap.push { cls := .type "slice", data := .fields #[vl, vu, vs] } } := I4.kept (t' := s4.toks) fun b ob q => Heap.get?_push_of_some _ q
  obtain ⟨its, r, ht, hz⟩ := I5.tuple hx
  have hlen := r.length
  show wpAny (model X.prog X.w) X.A (subscriptTail e (.Slice none none (some (.UnaryOp .USub (.Constant (.int 1) k p1) p2)) p3) (.ref a) (.ref s4.heap.objs.size)) (EP X pins σ Q) X.xe { s4 with heap := s4.heap.push { cls := .type "slice", data := .fields #[vl, vu, vs] } }
  refine tail_any (ops := [.ref a, .ref s4.heap.objs.size]) ht.typeIs (PyProof.Rows.slot_tuple_getitem.lookup) ?_ (by with_unfolding_all rfl)
  refine getItem_rev ht (Heap.IsSliceOf.new _ vl vu vs) pl pu ps ?_ (by rw [List.size_toArray]; omega)
  refine ⟨.ref _, _, I5.laid (t' := s4.toks) (o := .tup xs.reverse) (fun b ob q => Heap.get?_push_of_some _ q) (Nat.le_refl _) ?_, rfl, q _ (I5.hok.fresh (Nat.le_refl _))⟩
  refine ⟨by rw [List.length_reverse]; omega, its.reverse, r.reverse, _, Heap.get?_push_size _ rfl, rfl, 0, rfl⟩
end
end Gd

set_option Elab.async false
set_option linter.all false
set_option maxRecDepth 100000
set_option autoImplicit false
namespace Gd
open PySem PySem.Spec PyProof.Rows L2

/-! ### methods of an own class, called -/
section
variable {X : Cx} {x m qual : Str} {st : Stmt} {ps ks : List Str} {sp : Sp} {k j : Nat} {e o : Expr} {es : List Expr} {kws : List Keyword} {ta : TE} {t tk : TA} {p pos apos : Pos} {C : Addr}
/-- o.m(e, ..) -/
theorem pe_m {pl : Sem Bool} (T : Ck X.K X.mg C x) (D : Mt X.prog X.w X.K X.mg X.base k C m qual st ps sp) (hr : Room j X.A) (he : PE X o ta) (ha : PA X (e :: es) t) (hk : k ≤ j := by decide)
    (hst : starEach (e :: es) X.env = (false, eval e X.env) :: starEach es X.env := by rfl) (hpl : (backTo pos (starEach es X.env)).any (·.1) = false := by rfl)
    (ht : eval (.Call (.Attribute o m apos) (e :: es) [] pos) X.env = (do
      let ov ← eval o X.env
      standAt apos.atName
      let (f, first) ← holding [ov] (getMethod ov m pl)
      callWith pos f first (backTo pos (starEach (e :: es) X.env)) (backToKw pos (keywordEach [] X.env))) := by rfl) :
    PE X (.Call (.Attribute o m apos) (e :: es) [] pos) (tMeth C m sp [] E0 ta t) := by
  obtain ⟨f, fd, at_, i, F, b, ok⟩ := D.ex
  exact pe_meth he T.cl ⟨at_, i, F.kp⟩ ok (hr.mono hk) b .nil pass0 ha hst hpl ht
/-- o.m() -/
theorem pe_m0 {pl : Sem Bool} (T : Ck X.K X.mg C x) (D : Mt X.prog X.w X.K X.mg X.base k C m qual st ps sp) (hr : Room j X.A) (he : PE X o ta) (hk : k ≤ j := by decide)
    (ht : eval (.Call (.Attribute o m apos) [] [] pos) X.env = (do
      let ov ← eval o X.env
      standAt apos.atName
      let (f, first) ← holding [ov] (getMethod ov m pl)
      callWith pos f first (backTo pos (starEach [] X.env)) (backToKw pos (keywordEach [] X.env))) := by rfl) :
    PE X (.Call (.Attribute o m apos) [] [] pos) (tMeth C m sp [] E0 ta tNil) := by
  obtain ⟨f, fd, at_, i, F, b, ok⟩ := D.ex
  exact pe_meth0 he T.cl ⟨at_, i, F.kp⟩ ok (hr.mono hk) b .nil pass0 ht
/-- the reading of o == y, o with its own __eq__ -/
def rEqO (K : PySem.W.Frag) (C : Addr) (sp : Sp) : R2 := fun x y H Q => ∃ a dx fs t, x = .ref a ∧ H a = some (.ins C dx fs) ∧ TyX K H y t ∧ PySem.W.notFirst K C t = true ∧
  sp [.ref a, y] H (fun v H' => ∃ b : Bool, v = .bl b ∧ Q (.bl b) H') E0
/-- the reading of o.m(k = v, ..) -/
def tMethK (C : Addr) (m : Str) (n : Nat) (sp : Sp) (gV : List V → List V → List V) (ta : TE) (tk : TA) : TE := fun σ H Q => ta σ H fun x H1 => ∃ a dx fs, x = .ref a ∧ H1 a = some (.ins C dx fs) ∧ fs.lookup m = none ∧
  tk σ H1 fun zs H2 => zs.length = n ∧ sp (gV [x] zs) H2 Q E0
/-- o.m(k = v, ..) -/
theorem pe_mk {pl : Sem Bool} {g : {α : Type} → List α → List α → List α} (T : Ck X.K X.mg C x) (D : Mt X.prog X.w X.K X.mg X.base k C m qual st ps sp) (hr : Room j X.A) (kb : ∀ f fd, Fun X.K m qual st f fd → KBn X.K fd ps 1 ks g g) (he : PE X o ta) (hkw : PK X kws tk) (hk : k ≤ j := by decide)
    (hall : (backToKw pos (keywordEach kws X.env)).all (·.1.isSome) = true := by rfl) (hks : (backToKw pos (keywordEach kws X.env)).filterMap (·.1) = ks := by rfl)
    (hpl : ((backTo pos (starEach [] X.env)).any (·.1) || (backToKw pos (keywordEach kws X.env)).any (·.1.isNone)) = false := by rfl)
    (ht : eval (.Call (.Attribute o m apos) [] kws pos) X.env = (do
      let ov ← eval o X.env
      standAt apos.atName
      let (f, first) ← holding [ov] (getMethod ov m pl)
      callWith pos f first (backTo pos (starEach [] X.env)) (backToKw pos (keywordEach kws X.env))) := by rfl) :
    PE X (.Call (.Attribute o m apos) [] kws pos) (tMethK C m ks.length sp g ta tk) := by
  obtain ⟨f, fd, at_, i, F, b, ok⟩ := D.ex
  refine ⟨fun pins s σ H Q I h => ?_⟩
  refine PySem.W.methodCall_KW (pl := pl) (thn (he.run pins s σ H _ I h) fun u s1 got => ?_) ht
  obtain ⟨x', H1, I1, rx, a, dx, fs, ex, ea, l, q⟩ := got
  subst ex
  obtain rfl : u = Value.ref a := rx
  refine getmeth_ok I1 ea T.cl ⟨at_, i, F.kp⟩ l ?_
  refine PySem.W.callWith_KW0 (first := [.ref a]) (h₀ := X.base) I.ok.mod.kin F.kp hall ?_ hpl
  refine thn (hkw.run pos pins s1 σ H1 _ I1 q) fun ws s2 got2 => ?_
  obtain ⟨zs, H2, I2, rz, l1, q2⟩ := got2
  refine ⟨I2.kIn, ?_⟩
  rw [hks]
  have kb' := kb f fd F
  have r1 : Vals [V.ref a] [Value.ref a] := .cons rfl .nil
  have rel := kb'.rel r1 rz
  have bnd := kb'.to s2 [.ref a] ws I2.kIn rfl (rz.length.symm.trans l1)
  show wpAny _ _ (call (.ref f) [.ref a] (ks.zip ws)) _ _ _
  refine wpAny_call (codeAny_mono (ok.run X.A X.stack s2 H2 ⟨[.ref a], ks.zip ws⟩ _ _ _ E0 (hr.mono hk) I2.env0 bnd rel q2) ?_)
  intro r s' post
  cases r with
  | error e => exact (post : False).elim
  | ok fl =>
    cases fl with
    | ret u => exact I2.after post
    | next => exact (post : False).elim
    | brk => exact (post : False).elim
    | cont => exact (post : False).elim
end
end Gd

set_option Elab.async false
set_option linter.all false
set_option maxRecDepth 100000
set_option autoImplicit false
namespace Gd
open PySem PySem.Spec PyProof.Rows L2

/-! ### a shown text has only signs that there are -/
def Sg (t : Str) : Prop := ∀ c ∈ t.cps.toList, c < 1114112
theorem Sg.ok {t : Str} (h : Sg t) : PyData.strOk t = true := by
  unfold PyData.strOk
  rw [← Array.all_toList, List.all_eq_true]
  exact fun c m => decide_eq_true (h c m)
theorem Sg.of {t : Str} (h : PyData.strOk t = true) : Sg t := by
  unfold PyData.strOk at h
  rw [← Array.all_toList, List.all_eq_true] at h
  exact fun c m => of_decide_eq_true (h c m)
theorem char_lt (c : Char) : c.toNat < 1114112 := by
  have h := c.valid
  have e : c.toNat = c.val.toNat := rfl
  rcases h with h | h
  · have h1 : c.val.toNat < 0xd800 := h
    omega
  · have h1 : c.val.toNat < 0x110000 := h.2
    omega
theorem Sg.lit (s : String) : Sg (Str.ofString s) := fun c m => by
  rw [signs_ofString] at m
  obtain ⟨ch, _, rfl⟩ := List.mem_map.mp m
  exact char_lt ch
theorem Sg.app {a b : Str} (ha : Sg a) (hb : Sg b) : Sg (a ++ b) := fun c m => by
  have e : (a ++ b).cps = a.cps ++ b.cps := rfl
  rw [e, Array.toList_append, List.mem_append] at m
  exact m.elim (ha c) (hb c)
theorem reprChar_lt {q c : Nat} (hq : q < 1114112) (hc : c < 1114112) : ∀ d ∈ PySem.Builtin.Str.reprChar q c, d < 1114112 := by
  intro d m
  have hex : ∀ n, d ∈ List.replicate n 48 ++ (Nat.toDigits 16 c).map Char.toNat → d < 1114112 := fun n m => by
    rcases List.mem_append.mp m with m | m
    · have := (List.mem_replicate.mp m).2
      omega
    · obtain ⟨ch, _, rfl⟩ := List.mem_map.mp m
      exact char_lt ch
  unfold PySem.Builtin.Str.reprChar at m
  simp only at m
  split at m
  · simp only [List.mem_cons, List.not_mem_nil, or_false] at m
    omega
  split at m
  · simp only [List.mem_cons, List.not_mem_nil, or_false] at m
    omega
  split at m
  · simp only [List.mem_cons, List.not_mem_nil, or_false] at m
    omega
  split at m
  · simp only [List.mem_cons, List.not_mem_nil, or_false] at m
    omega
  split at m
  · simp only [List.mem_cons, List.not_mem_nil, or_false] at m
    omega
  split at m
  · rcases List.mem_append.mp m with m | m
    · simp only [List.mem_cons, List.not_mem_nil, or_false] at m
      omega
    · exact hex _ m
  split at m
  · rcases List.mem_append.mp m with m | m
    · simp only [List.mem_cons, List.not_mem_nil, or_false] at m
      omega
    · exact hex _ m
  · rcases List.mem_append.mp m with m | m
    · simp only [List.mem_cons, List.not_mem_nil, or_false] at m
      omega
    · exact hex _ m
theorem foldl_lt {q : Nat} (hq : q < 1114112) : ∀ (l : List Nat) (acc : Array Nat), (∀ c ∈ l, c < 1114112) → (∀ c ∈ acc.toList, c < 1114112) → ∀ c ∈ (l.foldl (fun out c => out ++ (PySem.Builtin.Str.reprChar q c).toArray) acc).toList, c < 1114112
  | [], acc, _, ha => ha
  | c :: l, acc, hl, ha => by
    refine foldl_lt hq l _ (fun d m => hl d (List.mem_cons_of_mem _ m)) fun d m => ?_
    rw [Array.toList_append, List.mem_append] at m
    rcases m with m | m
    · exact ha d m
    · exact reprChar_lt hq (hl c List.mem_cons_self) d m
theorem quote_lt (x : Str) : reprQuote x < 1114112 := by
  unfold reprQuote
  split <;> decide
theorem Sg.repr {x : Str} (h : Sg x) : Sg (reprText x) := by
  intro c m
  have e : (reprText x).cps = (x.cps.foldl (fun out c => out ++ (PySem.Builtin.Str.reprChar (reprQuote x) c).toArray) #[reprQuote x]).push (reprQuote x) := rfl
  rw [e, Array.toList_push, List.mem_append] at m
  rcases m with m | m
  · rw [← Array.foldl_toList] at m
    refine foldl_lt (quote_lt x) _ _ h (fun d md => ?_) c m
    have : d = reprQuote x := by simpa using md
    rw [this]
    exact quote_lt x
  · have : c = reprQuote x := by simpa using m
    rw [this]
    exact quote_lt x
theorem Sg.text : ∀ (ts : List Str) (k : Nat) (acc : Str), Sg acc → (∀ t ∈ ts, Sg t) → Sg (textFrom k acc ts)
  | [], _, _, ha, _ => ha
  | t :: ts, k, acc, ha, ht => by
    refine Sg.text ts (k + 1) _ (Sg.app (Sg.app ha ?_) (ht t List.mem_cons_self)) fun u m => ht u (List.mem_cons_of_mem _ m)
    split
    · exact Sg.lit _
    · exact Sg.lit _
theorem Sg.join {sep : Str} (hs : Sg sep) : ∀ (ts : List Str), (∀ t ∈ ts, Sg t) → Sg (Str.join sep ts)
  | [], _ => fun c m => by
    have : c ∈ ([] : List Nat) := m
    simp at this
  | [x], h => h x List.mem_cons_self
  | x :: y :: r, h => Sg.app (Sg.app (h x List.mem_cons_self) hs) (Sg.join hs (y :: r) fun t m => h t (List.mem_cons_of_mem _ m))
mutual
theorem shown_sg : ∀ d : PyData, d.canLay0 = true → Sg d.shown
  | .none, _ => by
    rw [PyData.shown_none]
    exact Sg.lit _
  | .bool b, _ => by
    rw [PyData.shown_bool]
    split <;> exact Sg.lit _
  | .int i, _ => by
    rw [PyData.shown_int]
    exact Sg.lit _
  | .str x, h => by
    have h' : PyData.strOk x = true := by simpa [PyData.canLay0] using h
    have e : (PyData.str x).shown = reprText x := by simp [PyData.shown]
    rw [e]
    exact Sg.repr (Sg.of h')
  | .list xs, h => by
    have h' : PyData.canLayAll0 xs = true := by simpa [PyData.canLay0] using h
    have e : (PyData.list xs).shown = listText (PyData.shownAll xs) := by simp [PyData.shown]
    rw [e]
    exact Sg.app (Sg.text _ _ _ (Sg.lit _) (shownAll_sg xs h')) (Sg.lit _)
  | .tuple xs, h => by
    have h' : PyData.canLayAll0 xs = true := by simpa [PyData.canLay0] using h
    have e : (PyData.tuple xs).shown = tupleText (PyData.shownAll xs) := by simp [PyData.shown]
    rw [e]
    refine Sg.app (Sg.app (Sg.lit _) (Sg.join (Sg.lit _) _ (shownAll_sg xs h'))) ?_
    split <;> exact Sg.lit _
  | .dict _, h => by simp [PyData.canLay0] at h
theorem shownAll_sg : ∀ xs : List PyData, PyData.canLayAll0 xs = true → ∀ t ∈ PyData.shownAll xs, Sg t
  | [], _, t, m => by
    rw [PyData.shownAll_nil] at m
    simp at m
  | x :: xs, h, t, m => by
    have h' : x.canLay0 = true ∧ PyData.canLayAll0 xs = true := by simpa [PyData.canLayAll0] using h
    rw [PyData.shownAll_cons, List.mem_cons] at m
    rcases m with rfl | m
    · exact shown_sg x h'.1
    · exact shownAll_sg xs h'.2 t m
end
theorem shown_ok {d : PyData} (h : d.canLay0 = true) : PyData.strOk d.shown = true := (shown_sg d h).ok
end Gd

set_option Elab.async false
set_option linter.all false
set_option maxRecDepth 100000
set_option autoImplicit false
namespace Gd
open PySem PySem.Spec PyProof.Rows L2

/-! ### dicts of text keys -/
mutual
theorem reads_noL {h : Heap} : ∀ (d : PyData) {v : Value} {as : List Addr}, Reads h v d as → NoL d → as = []
  | .none, _, _, r, _ => by cases r; rfl
  | .bool _, _, _, r, _ => by cases r; rfl
  | .int _, _, _, r, _ => by cases r; rfl
  | .str _, _, _, r, _ => by cases r; rfl
  | .list _, _, _, _, n => by cases n
  | .tuple ds, _, _, r, n => by
    cases r with
    | tuple h1 h2 h3 ra => exact readsAll_noL ds ra (by cases n with | tup f => exact f)
  | .dict _, _, _, _, n => by cases n
theorem readsAll_noL {h : Heap} : ∀ (ds : List PyData) {vs : List Value} {as : List Addr}, ReadsAll h vs ds as → (∀ d ∈ ds, NoL d) → as = []
  | [], _, _, r, _ => by cases r; rfl
  | d :: ds, _, _, r, n => by
    cases r with
    | cons r1 r2 =>
      rw [reads_noL d r1 (n d (by simp)), readsAll_noL ds r2 (fun x m => n x (by simp [m]))]
      rfl
end
/-- the pairs of a dict -/
abbrev kvOf (ks : List Str) (vs : List V) : List (Key × V) := (ks.map Sum.inr).zip vs
/-- at a: a dict from the texts ks to values of the data ds -/
structure Dct (K : PySem.W.Frag) (H : Hp) (a : Addr) (ks : List Str) (ds : List PyData) : Prop where
  ex : ∃ vs : List V, vs.length = ks.length ∧ H a = some (.dK (kvOf ks vs)) ∧ DpAll K H vs ds
  nol : ∀ d ∈ ds, NoL d
theorem keys_reads {P : Program} {w : World} {h : Heap} : ∀ {es : List DictEntry} {kvs : List (Key × Value)} {ks : List Str}, Pairs (mixKind P w) es kvs → kvs.map (·.1) = ks.map Sum.inr → ReadsAll h (es.map (·.key)) (ks.map PyData.str) []
  | [], _, ks, .nil, e => by
    have : ks = [] := by simpa using e.symm
    subst this
    exact .nil
  | _ :: _, _, [], .cons _ _ _, e => by simp at e
  | d :: es, kv :: kvs, k :: ks, .cons h1 h2 h3, e => by
    simp only [List.map_cons, List.cons.injEq] at e
    have h1' : keyIs kv.1 d.key = true := h1
    rw [e.1] at h1'
    rcases keyIs_shape h1' with ⟨i, t, q, _⟩ | ⟨x, t, q, q2⟩
    · cases q
    · cases q
      have := keys_reads (h := h) h3 e.2
      simp only [List.map_cons]
      rw [q2]
      exact ReadsAll.cons (.str k t) this
theorem vals_of_pairs {P : Program} {w : World} : ∀ {es : List DictEntry} {kvs : List (Key × Value)}, Pairs (mixKind P w) es kvs → es.map (·.val) = kvs.map (·.2)
  | _, _, .nil => rfl
  | _, _, .cons _ h2 h3 => by
    simp only [List.map_cons]
    rw [h2, vals_of_pairs h3]
theorem kv_vals {α : Type} : ∀ {kvs : List (α × V)} {us : List (α × Value)}, KV kvs us → Vals (kvs.map (·.2)) (us.map (·.2))
  | _, _, .nil => .nil
  | _, _, .cons h t => .cons h.2 (kv_vals t)
theorem kv_keys {α : Type} : ∀ {kvs : List (α × V)} {us : List (α × Value)}, KV kvs us → kvs.map (·.1) = us.map (·.1)
  | _, _, .nil => rfl
  | _, _, .cons h t => by
    simp only [List.map_cons]
    rw [h.1, kv_keys t]
theorem kvOf_keys : ∀ {ks : List Str} {vs : List V}, vs.length = ks.length → (kvOf ks vs).map (·.1) = ks.map Sum.inr
  | [], [], _ => rfl
  | k :: ks, v :: vs, l => by
    show Sum.inr k :: (kvOf ks vs).map (·.1) = _
    rw [kvOf_keys (by simpa using l)]
    rfl
theorem kvOf_vals : ∀ {ks : List Str} {vs : List V}, vs.length = ks.length → (kvOf ks vs).map (·.2) = vs
  | [], [], _ => rfl
  | k :: ks, v :: vs, l => by
    show v :: (kvOf ks vs).map (·.2) = _
    rw [kvOf_vals (by simpa using l)]
/-- the data of such a dict -/
def dctD (ks : List Str) (ds : List PyData) : PyData := .dict ((ks.map PyData.str).zip ds)
/-- a dict whose text is short -/
structure DctOk (n k : Nat) (ks : List Str) (ds : List PyData) : Prop where
  ks_ : ∀ x ∈ ks, DOk 20 1 (.str x)
  ds_ : ∀ d ∈ ds, DOk n k d
  len : ds.length = ks.length
  few : ks.length ≤ 100
theorem zip_facts {n k : Nat} : ∀ {ks : List Str} {ds : List PyData}, ds.length = ks.length → (∀ x ∈ ks, DOk 20 1 (.str x)) → (∀ d ∈ ds, DOk n k d) → 1 ≤ k →
    PyData.leavesShortKv 62 ((ks.map PyData.str).zip ds) = true ∧ PyData.bulkKv ((ks.map PyData.str).zip ds) ≤ ks.length * (n + 22) ∧ PyData.showableKv ((ks.map PyData.str).zip ds) = true ∧ PyData.depthKv ((ks.map PyData.str).zip ds) ≤ k
  | [], [], _, _, _, _ => ⟨rfl, by simp [PyData.bulkKv], rfl, by simp [PyData.depthKv]⟩
  | x :: ks, d :: ds, l, hk, hd, k1 => by
    obtain ⟨a1, a2, a3, a4⟩ := zip_facts (ks := ks) (ds := ds) (by simpa using l) (fun y m => hk y (by simp [m])) (fun y m => hd y (by simp [m])) k1
    have X := hk x (by simp)
    have D := hd d (by simp)
    simp only [List.map_cons, List.zip_cons_cons]
    refine ⟨?_, ?_, ?_, ?_⟩
    · unfold PyData.leavesShortKv
      rw [X.short, D.short, a1]
      rfl
    · unfold PyData.bulkKv
      have := X.bulk
      have := D.bulk
      rw [List.length_cons, Nat.succ_mul]
      omega
    · unfold PyData.showableKv
      rw [X.shw, D.shw, a3]
      rfl
    · unfold PyData.depthKv
      have := X.deep
      have := D.deep
      omega
theorem reads_dct {X : Cx} {pins : List (Addr × Obj)} {σ : L2.St} {H : Hp} {s : Shared} {a : Addr} {ks : List Str} {ds : List PyData} (I : Inv X pins σ H s) (h : Dct X.K H a ks ds) : Reads s.heap (.ref a) (dctD ks ds) [a] ∧ a ≠ sysModules := by
  obtain ⟨vs, lv, e, da⟩ := h.ex
  obtain ⟨_, hs, us, kv, o, es, ep, ho, ex, hdat, _, prs, _⟩ := dk_of I.hok e
  have k1 : ReadsAll s.heap (es.toList.map (·.key)) (ks.map PyData.str) [] := keys_reads prs (by rw [← kv_keys kv, kvOf_keys lv])
  have rv : Vals vs (us.map (·.2)) := by
    have z := kv_vals kv
    rw [kvOf_vals lv] at z
    exact z
  obtain ⟨as, k2⟩ := Dp.readsAll I ds vs (us.map (·.2)) da rv
  have z := readsAll_noL ds k2 h.nol
  subst z
  rw [← vals_of_pairs prs] at k2
  have l1 : (ks.map PyData.str).length = ds.length := by rw [List.length_map, ← lv, dpa_len da]
  have e1 : ((ks.map PyData.str).zip ds).map (·.1) = ks.map PyData.str := by
    rw [List.map_fst_zip]
    omega
  have e2 : ((ks.map PyData.str).zip ds).map (·.2) = ds := by
    rw [List.map_snd_zip]
    omega
  refine ⟨?_, fun z => ?_⟩
  · have := Reads.dict (kvs := (ks.map PyData.str).zip ds) ho ex.1 hdat (by rw [e1]; exact k1) (by rw [e2]; exact k2)
    exact this
  · rw [z] at hs
    simp at hs
section
variable {X : Cx}
/-- repr of a dict that is short -/
theorem call_reprDct {k : Nat} (gd : X.A.guards = some []) (hr : Room k X.A) : CallR X (.builtin "repr") (fun xs H Q => ∃ a ks ds n j, xs = [.ref a] ∧
    Dct X.K H a ks ds ∧ DctOk n j ks ds ∧ n ≤ 1000 ∧ 1 ≤ j ∧ j ≤ 60 ∧ Q (.str (dctD ks ds).shown) H) := by
  intro pins s σ H xs us Q I r h
  obtain ⟨a, ks, ds, n, j, rfl, dc, ok, hn, j1, hj, q⟩ := h
  obtain ⟨u, rfl, ru⟩ := vals1 r
  cases ru
  obtain ⟨rd, ns⟩ := reads_dct I dc
  obtain ⟨f1, f2, f3, f4⟩ := zip_facts ok.len ok.ks_ ok.ds_ j1
  have room := hr.un
  have dd : (dctD ks ds).depth ≤ 61 := by
    unfold dctD PyData.depth
    omega
  have fits : (dctD ks ds).shown.length ≤ sizeLine := by
    have e := PyData.shown_le_bulk 62 (by decide) (dctD ks ds) (by unfold dctD PyData.leavesShort; exact f1)
    have b : (dctD ks ds).bulk ≤ ks.length * (n + 22) := by
      unfold dctD PyData.bulk
      exact f2
    have c : ks.length * (n + 22) ≤ 100 * 1022 := Nat.mul_le_mul ok.few (by omega)
    have s : sizeLine = 16777216 := by decide
    omega
  refine repr_of_reads' rd (by unfold dctD PyData.showable; exact f3) (fun _ z => ?_) gd (by omega) (fun _ _ e => e) ?_ fits
  · have : sysModules = a := by simpa using z
    exact ns this.symm
  · intro h' u tk keep
    exact ⟨.str _, H, I.kept keep, ⟨u, rfl⟩, q⟩
end

/-! ### what stands at a key -/
theorem valV_kv {ks : List Str} (nd : ks.Nodup) : ∀ {vs : List V} {i : Nat} {x : Str} {v : V}, ks[i]? = some x → vs[i]? = some v → valV (kvOf ks vs) (.inr x) = some v := by
  induction ks with
  | nil => intro vs i x v e; simp at e
  | cons k ks ih =>
    intro vs i x v e1 e2
    cases vs with
    | nil => simp at e2
    | cons u vs =>
      have nd' := List.nodup_cons.mp nd
      show valV ((Sum.inr k, u) :: kvOf ks vs) (.inr x) = some v
      cases i with
      | zero =>
        have a : k = x := by simpa using e1
        have b : u = v := by simpa using e2
        subst a b
        exact valV_pos rfl
      | succ i =>
        have m : x ∈ ks := List.mem_of_getElem? (by simpa using e1)
        have ne : ¬ (Sum.inr k : Key) = Sum.inr x := fun z => by
          cases z
          exact nd'.1 m
        rw [valV_neg ne]
        exact ih nd'.2 (by simpa using e1) (by simpa using e2)
theorem valV_no {x : Str} : ∀ {ks : List Str} {vs : List V}, x ∉ ks → valV (kvOf ks vs) (.inr x) = none
  | [], _, _ => rfl
  | _ :: _, [], _ => rfl
  | k :: ks, v :: vs, h => by
    show valV ((Sum.inr k, v) :: kvOf ks vs) (.inr x) = none
    rw [valV_neg (fun z => by cases z; exact h (by simp))]
    exact valV_no (fun m => h (by simp [m]))
theorem kvOf_snoc {ks : List Str} {vs : List V} {k : Str} {v : V} (l : vs.length = ks.length) : kvOf ks vs ++ [(Sum.inr k, v)] = kvOf (ks ++ [k]) (vs ++ [v]) := by
  unfold kvOf
  rw [List.map_append, List.zip_append (by rw [List.length_map, l])]
  rfl
theorem Dct.same {K : PySem.W.Frag} {H H' : Hp} {a : Addr} {ks : List Str} {ds : List PyData} (k : Same H H') (h : Dct K H a ks ds) : Dct K H' a ks ds := by
  obtain ⟨vs, l, e, d⟩ := h.ex
  exact ⟨⟨vs, l, k _ _ e, dpa_same k d⟩, h.nol⟩
theorem Dct.kl {K : PySem.W.Frag} {H H' : Hp} {a g : Addr} {ks : List Str} {ds : List PyData} (k : Kl g H H') (h : Dct K H a ks ds) : Dct K H' a ks ds := by
  obtain ⟨vs, l, e, d⟩ := h.ex
  obtain ⟨ys, eg⟩ := k.1
  exact ⟨⟨vs, l, k.2 _ _ (ne_of e eg (fun z => by cases z)) e, dpa_kl k d h.nol⟩, h.nol⟩
end Gd

set_option Elab.async false
set_option linter.all false
set_option maxRecDepth 100000
set_option maxHeartbeats 2000000
set_option autoImplicit false
namespace Gd
open PySem PySem.Spec PyProof.Rows L2

/-! ### own exceptions with the __init__ of their base: made as values -/
/-- where that __init__ stands -/
def AtI (K : PySem.W.Frag) (fI : Addr) (qual : Str) (st : Stmt) (ps : List Str) : Prop := ∃ fd, Fun K "__init__" qual st fI fd ∧ Binds K fd ps []
structure DnI (P : Program) (w : World) (K : PySem.W.Frag) (mg : Str → Option Value) (base : Heap) (k : Nat) (fI : Addr) (qual : Str) (st : Stmt) (ps : List Str) (sp : Sp) : Prop where
  ex : ∃ fd, Fun K "__init__" qual st fI fd ∧ Binds K fd ps [] ∧ FnOk P w K mg base CX0 k fI fd ps sp
theorem DnI.mk' {P : Program} {w : World} {K : PySem.W.Frag} {mg : Str → Option Value} {base : Heap} {fI : Addr} {qual : Str} {st : Stmt} {ps : List Str} {k : Nat} {sp : Sp} (h : AtI K fI qual st ps)
    (ok : ∀ f fd, Fun K "__init__" qual st f fd → FnOk P w K mg base CX0 k f fd ps sp) : DnI P w K mg base k fI qual st ps sp := by
  obtain ⟨fd, F, b⟩ := h
  exact ⟨fd, F, b, ok fI fd F⟩
/-- what the top has left of such a class -/
structure ExT (K : PySem.W.Frag) (mg : Str → Option Value) (C fI : Addr) (x : Str) : Prop where
  ox : OexC K C
  mg_ : mg x = some (.ref C)
  iC : PySem.W.findIn K (.ref C) "__init__" = some (some (.ref fI))
  tI : PySem.W.typeIn K (.ref fI) = some (.type "function")
  nV : PySem.W.findIn K (.ref C) "value" = some none
  hg : PySem.W.findIn K (.ref C) "__getattribute__" = some (some (.builtin "BaseException.__getattribute__"))
  hk : PySem.W.findIn K (.ref C) "__getattr__" = some none
  hd : PySem.W.hasDictIn K C = true
  ha : PySem.W.findIn K (.ref C) "__class__" = some (some (.builtin "object.__class__"))
  hn : PySem.W.specialIn K (.builtin "object.__class__") "__get__" = some (some (.builtin "getset_descriptor.__get__"))
  ht : PySem.W.takesIn K (.builtin "object.__class__") = some true
  hm : PySem.W.mroIn K C (.type "object") = some true
/-- at a: an exception of the class at C that bears v -/
def ErrAt (H : Hp) (C : Addr) (a : Addr) (v : V) : Prop := ∃ d, H a = some (exo a C (some d)) ∧ H d = some (exd d [("value", v)])
theorem ErrAt.same {H H' : Hp} {C a : Addr} {v : V} (k : Same H H') (h : ErrAt H C a v) : ErrAt H' C a v := by
  obtain ⟨d, h1, h2⟩ := h
  exact ⟨d, k _ _ h1, k _ _ h2⟩
/-- the promise of __init__ -/
def spIni (K : PySem.W.Frag) : Sp := fun vs H Q _ => ∃ a C v, vs = [.ref a, v] ∧ OexC K C ∧ PySem.W.findIn K (.ref C) "value" = some none ∧ H a = some (exo a C none) ∧
  ∀ dx, H dx = none → dx ≠ a → Q .non (upd (upd H dx (exd dx [("value", v)])) a (exo a C (some dx)))
/-- C(e, ..), as a value -/
def tMkV (C : Addr) (sp : Sp) (ta : TA) : TE := fun σ H Q => ta σ H fun vs H1 => vs.length ≤ 1000 ∧ ∀ a, H1 a = none → sp (.ref a :: vs) (upd H1 a (exo a C none)) (fun v H2 => v = .non ∧ Q (.ref a) H2) E0
section
variable {X : Cx} {x qual : Str} {st : Stmt} {ps : List Str} {sp : Sp} {k j : Nat} {e : Expr} {es : List Expr} {ta : TA} {p pos : Pos} {C fI : Addr}
theorem pe_mkE (T : ExT X.K X.mg C fI x) (D : DnI X.prog X.w X.K X.mg X.base k fI qual st ps sp) (hr : Room j X.A) (hg : Gl X x) (ha : PA X (e :: es) ta) (hk : k + 1 ≤ j := by decide)
    (hdb : (x == ("__debug__" : Str)) = false := by decide) (he : starEach (e :: es) X.env = (false, eval e X.env) :: starEach es X.env := by rfl)
    (hpl : (backTo pos (starEach es X.env)).any (·.1) = false := by rfl) :
    PE X (.Call (.Name x p) (e :: es) [] pos) (tMkV C sp ta) := by
  obtain ⟨fd, F, b, ok⟩ := D.ex
  have hr' := hr.mono hk
  refine ⟨fun pins s σ H Q I h => ?_⟩
  obtain ⟨nm, q, N, bs, bm, sn, sub, ab, col, dd, k0, k1, k2, k3, k5, hC, hbm⟩ := T.ox.cls
  refine wpAny_Call_Name_kw (ld_glob I hg T.mg_ ?_ hdb)
  refine PySem.W.callWith_K (h₀ := X.base) I.ok.mod.kin T.ox.kC (thn (ha.run pos pins s σ H _ I h) fun us s1 got => ?_) he hpl
  obtain ⟨vs, H1, I1, r1, hz, q1⟩ := got
  refine ⟨I1.kIn, ?_⟩
  show wpAny _ _ (call (.ref C) us) _ _ _
  obtain ⟨hp, g, dr, tk, os⟩ := s1
  have big : hp.objs.size ≤ hp.objs.size + 1 := Nat.le_succ _
  have new : H1 (hp.objs.size + 1) = none := I1.hok.fresh big
  have hq := q1 (hp.objs.size + 1) new
  have grow : ∀ b o, hp.get? b = some o → ((hp.push (PySem.W.kdv_tup us)).push (PySem.HandSPX.excO C hp.objs.size)).get? b = some o := fun b o z => Heap.get?_push_of_some _ (Heap.get?_push_of_some _ z)
  have there : ((hp.push (PySem.W.kdv_tup us)).push (PySem.HandSPX.excO C hp.objs.size)).get? (hp.objs.size + 1) = some (PySem.HandSPX.excO C hp.objs.size) := by heap_get
  have I2 : Inv X pins σ (upd H1 (hp.objs.size + 1) (exo (hp.objs.size + 1) C none)) ⟨(hp.push (PySem.W.kdv_tup us)).push (PySem.HandSPX.excO C hp.objs.size), g, dr, tk, os⟩ := I1.laid (t' := tk) grow big (exo_ok there)
  have r2 : Vals (V.ref (hp.objs.size + 1) :: vs) (Value.ref (hp.objs.size + 1) :: us) := .cons rfl r1
  have cnt : (Value.ref (hp.objs.size + 1) :: us).length = ps.length := by
    rw [← r2.length]
    exact ok.len _ _ _ _ hq
  have bnd : BindsTo ⟨(hp.push (PySem.W.kdv_tup us)).push (PySem.HandSPX.excO C hp.objs.size), g, dr, tk, os⟩ fd ⟨Value.ref (hp.objs.size + 1) :: us, []⟩ (ps.zip (Value.ref (hp.objs.size + 1) :: us)) := by
    have z := b _ (Value.ref (hp.objs.size + 1) :: us) I2.kIn (by simpa using cnt)
    simpa using z
  have few : us.length ≤ sizeLine := by
    rw [← Paired.length r1, sizeLine_eq]
    omega
  refine wpAny_call (PySem.HandSPX.call_own PySem.F.excBase_ValueError (fun Y => PySem.HandSPX.refsVE_contains Y bm hbm) (I1.kIn _ _ hC) (PySem.W.looks_findIn I1.kIn T.iC) (fun self => PySem.W.bind_fn I1.kIn self T.tI) few ?_)
  refine codeAny_mono (ok.run _ X.stack _ _ ⟨Value.ref (hp.objs.size + 1) :: us, []⟩ (Value.ref (hp.objs.size + 1) :: us) _ _ E0 (hr'.make C us []) (I2.env0.make C us []) bnd r2 hq) fun r s' post => ?_
  cases r with
  | error er => exact (post : False).elim
  | ok fl =>
    cases fl with
    | ret u =>
      obtain ⟨v, H3, I3, rv, ev, q3⟩ := I2.after post
      subst ev
      exact ⟨rv, .ref (hp.objs.size + 1), H3, I3, rfl, q3⟩
    | next => exact (post : False).elim
    | brk => exact (post : False).elim
    | cont => exact (post : False).elim
end
/-- an exception is made -/
theorem mk_err {K : PySem.W.Frag} {C : Addr} {H1 : Hp} {v : V} {Q : Addr → Hp → Prop} {E : XK} (T : OexC K C) (n : PySem.W.findIn K (.ref C) "value" = some none)
    (q : ∀ a H', Same H1 H' → H1 a = none → ErrAt H' C a v → Q a H') :
    ∀ a, H1 a = none → spIni K (.ref a :: [v]) (upd H1 a (exo a C none)) (fun u H2 => u = .non ∧ Q a H2) E := by
  intro a na
  refine ⟨a, C, v, rfl, T, n, upd_same, fun dx nd ne => ⟨rfl, ?_⟩⟩
  have nd1 : H1 dx = none := by rw [upd_ne ne] at nd; exact nd
  refine q a _ (fun b o e => ?_) na ⟨dx, upd_same, ?_⟩
  · rw [upd_ne (ne_of_none e na), upd_ne (ne_of_none e nd1), upd_ne (ne_of_none e na)]
    exact e
  · rw [upd_ne ne, upd_same]
/-! ### e.value -/
def tVal (ta : TE) (C : Addr → Prop) : TE := fun σ H Q => ta σ H fun x H1 => ∃ a c v, x = .ref a ∧ C c ∧ ErrAt H1 c a v ∧ Q v H1
theorem err_inst {X : Cx} {pins : List (Addr × Obj)} {σ : L2.St} {H : Hp} {s : Shared} {C a : Addr} {v : V} (I : Inv X pins σ H s) (h : ErrAt H C a v) :
    ∃ (oe od : Obj) (u : Value), PySem.W.InstAt s.heap a oe C (some od) ∧ RelV v u ∧ PySem.W.lookIn "value" od = some (some u) := by
  obtain ⟨d, e1, e2⟩ := h
  obtain ⟨t1, he⟩ := exo_at I.hok e1
  obtain ⟨mA, ns, rel⟩ := exd_at I.hok e2
  obtain ⟨od, ho, hl⟩ := lookIn_ns ns
  have l : List.lookup ("value" : Str) [(("value" : Str), v)] = some v := by simp [List.lookup]
  obtain ⟨u, hu, ru⟩ := RelO.some_of (v := v) (o := mA "value") (by rw [← l]; exact rel "value")
  exact ⟨_, od, u, ⟨he, rfl, rfl, ho⟩, ru, by rw [hl, hu]⟩
theorem pe_val {X : Cx} {e : Expr} {te : TE} {pos : Pos} {S : Addr → Prop} (T : ∀ c, S c → ∃ fI x, ExT X.K X.mg c fI x) (he : PE X e te) (hb : attributeBase e "value" X.env (eval e X.env) = eval e X.env := by rfl) :
    PE X (.Attribute e "value" pos) (tVal te S) := by
  refine ⟨fun pins s σ H Q I h => ?_⟩
  refine attr_of hb (thn (he.run pins s σ H _ I h) fun u s1 got => ?_)
  obtain ⟨x, H1, I1, rx, a, c, v, ex, sc, ea, q⟩ := got
  subst ex
  obtain rfl : u = Value.ref a := rx
  obtain ⟨fI, y, T⟩ := T c sc
  obtain ⟨oe, od, w, J, ru, hl⟩ := err_inst I1 ea
  exact HandSPX.exc_get I1.kIn J T.hg T.hk T.ox.exC (PySem.W.findObj_own T.hd T.nV rfl hl) (handed_of ru) ⟨v, H1, I1.tok _, ru, q⟩
/-! ### isinstance(e, D) of such an exception -/
end Gd
namespace PySem.W
open PySem PySem.Spec PySem.Calls PyProof.Rows
section
variable {prog : Program} {w : World} {A : Around} {E : Value → Shared → Prop} {s : Shared} {K : Frag} {x D : Addr} {ox : Obj} {od : Option Obj}
theorem gd_findCls (c : (clsIn K D).isSome = true) {a g : Value} {n : Str} (f : findIn K (.ref D) n = some (some a)) (gt : specialIn K a "__get__" = some (some g)) (tk : takesIn K a = some true) : findObj K D od n = some (.bind g a) := by
  obtain ⟨cd, e⟩ := Option.isSome_iff_exists.mp c
  simp [findObj, e, f, gt, tk]
theorem gd_readCls {Q : Option Value → Shared → Prop} (ga : findIn K (.ref D) "__getattribute__" = some (some (.builtin "BaseException.__getattribute__"))) (gg : findIn K (.ref D) "__getattr__" = some none)
    (isE : subIn K (.ref D) (.type "BaseException") = some true) (c : (clsIn K D).isSome = true) (fc : findIn K (.ref D) "__class__" = some (some (.builtin "object.__class__")))
    (gt : specialIn K (.builtin "object.__class__") "__get__" = some (some (.builtin "getset_descriptor.__get__"))) (tk : takesIn K (.builtin "object.__class__") = some true) (mo : mroIn K D (.type "object") = some true)
    (Y : K.In s.heap) (J : InstAt s.heap x ox D od) (q : Q (some (.ref D)) { s with toks := s.toks + 1 }) : wpAny (model prog w) A (getAttr? (.ref x) "__class__") Q E s := by
  obtain ⟨hp, g, d, t, os⟩ := s
  have own : Looks (model prog w) hp (typeOf (.ref x)) (.ref D) := J.type
  have lga := looks_findIn (M := model prog w) Y ga
  have lgg := looks_findIn (M := model prog w) Y gg
  have lfc := looks_find (M := model prog w) Y J (gd_findCls (od := od) c fc gt tk)
  have exc : Looks (model prog w) hp (isInstance (.ref x) (.type "BaseException")) true := own.andThen (looks_subIn Y isE)
  have ne : (Value.builtin "BaseException.__getattribute__" == Value.builtin "object.__getattribute__") = false := by decide +kernel
  unfold getAttr? getAttrBy? getAttrBy
  refine wpAny_bind (wpAny_mkText (wpAny_bind (wpAny_attempt (wpAny_holding (wpAny_bind (own.at (wpAny_bind (lga.at ?_))))))))
  show wpAny _ _ (if (onTheHeap (Value.ref D) && (Value.builtin "BaseException.__getattribute__" == Value.builtin "object.__getattribute__")) = true then _ else _) _ _ _
  rw [ne, Bool.and_false, if_neg Bool.false_ne_true]
  unfold getAttrByItsOwn hookBefore
  refine wpAny_bind ?_
  rw [if_pos (show onTheHeap (Value.ref D) = true by rfl)]
  refine lgg.at (wpAny_bind (wpAny_attempt (wpAny_holding ?_)))
  unfold callGetattribute boundAndCalled
  rw [if_neg (by decide), PySem.F.excAttr_ValueError.ga.bind (.ref x)]
  refine wpAny_bind (wpAny_pure ?_)
  show wpAny _ _ (call (.builtin "BaseException.__getattribute__") [.ref x, .str "__class__" t]) _ _ _
  refine wpAny_call (codeAny_call_builtin PySem.F.excAttr_ValueError.ga.plain PySem.F.entry_bexc_ga ?_)
  refine @check_slot (model prog w) _ _ ⟨hp, g, d, t + 1, os⟩ "BaseException.__getattribute__" "BaseException" "__getattribute__" (.ref x) [.str "__class__" t] [] _ (by decide +kernel) (by decide +kernel) exc (PySem.F.args_bexc_ga (.ref x) (.str "__class__" t)) ?_
  unfold Builtin.«object.__getattribute__»
  refine wpAny_bind (wpAny_of_eq (a := ((Value.ref x : Value), [Value.str "__class__" t])) (by first | rfl | (simp only [slotArgs]; rfl)) (wpAny_bind (wpAny_pure (wpAny_bind (own.at (wpAny_bind (lfc.at ?_)))))))
  show wpAny _ _ (holding [Value.builtin "object.__class__"] (call (.builtin "getset_descriptor.__get__") [.builtin "object.__class__", .ref x, .ref D]) >>= ret) _ _ _
  refine wpAny_bind (wpAny_holding (wpAny_call (class_get (s := ⟨hp, g, d, t + 1, os⟩) (ox := ox) (od := od) Y J mo (wpAny_pure ?_))))
  show wpAny _ _ (handedOut (.ref D)) _ _ _
  rw [handedOut_of (v := .ref D) rfl]
  first
    | exact wpAny_pure (wpAny_pure q)
    | exact wpAny_pure q
    | exact wpAny_pure (wpAny_bind (wpAny_pure (wpAny_pure q)))
end
end PySem.W
namespace Gd
open PySem PySem.Spec PyProof.Rows L2
theorem err_kit {K : PySem.W.Frag} {mg : Str → Option Value} {C fI a : Addr} {x : Str} (T : ExT K mg C fI x) : PySem.W.KitX K (.ref a) (.ref C) (fun h => ∃ ox od, PySem.W.InstAt h a ox C od) where
  ty := fun _ _ _ ⟨_, _, J⟩ => J.type
  it := fun M h Y _ => by
    obtain ⟨nm, q, N, bs, bm, sn, sub, ab, col, dd, k0, k1, k2, k3, k5, hC, _⟩ := T.ox.cls
    intro A Q E s k z
    unfold isType loadHead
    exact wpAny_bind (wpAny_loadPart (k _ _ (Y _ _ hC)) (wpAny_pure z))
  ne := fun h tp dd its n sl Y e => by
    obtain ⟨nm, q, N, bs, bm, sn, sub, ab, col, dd, k0, k1, k2, k3, k5, hC, _⟩ := T.ox.cls
    refine Bool.eq_false_iff.mpr fun z => ?_
    have z2 : C = tp := Value.ref.inj (beq_iff_eq.mp z)
    subst z2
    have z3 : Value.type "type" = Value.type "tuple" := congrArg Obj.cls (Option.some.inj ((Y _ _ hC).symm.trans e))
    exact absurd (Value.type.inj z3) (by decide)
  ca := fun Y ⟨_, _, J⟩ k => by
    obtain ⟨cd, hc, _⟩ := PySem.W.any_some T.hd
    exact PySem.W.gd_readCls T.hg T.hk T.ox.exC (by rw [hc]; rfl) T.ha T.hn T.ht T.hm Y J k
/-- isinstance(e, c) -/
def rIsX (K : PySem.W.Frag) (S : Addr → Prop) : List V → Hp → VK → Prop := fun xs H Q => ∃ (a C : Addr) (v c : V) (cv : Value) (b : Bool), xs = [.ref a, c] ∧ S C ∧ ErrAt H C a v ∧ (∀ u, RelV c u → u = cv) ∧ PySem.W.kitOne K (.ref C) cv = some b ∧ Q (.bl b) H
theorem call_isX {X : Cx} {S : Addr → Prop} (T : ∀ c, S c → ∃ fI x, ExT X.K X.mg c fI x) : CallR X (.builtin "isinstance") (rIsX X.K S) := by
  intro pins s σ H xs us Q I r h
  obtain ⟨a, C, v, c, cv, b, rfl, sc, ea, hcv, e, q⟩ := h
  cases r with
  | cons rx rr =>
    cases rr with
    | cons rt rr =>
      cases rr
      cases rx
      have ec := hcv _ rt
      subst ec
      obtain ⟨fI, y, T⟩ := T C sc
      obtain ⟨oe, od, w, J, _⟩ := err_inst I ea
      exact PySem.W.kia_one (err_kit T) I.kIn ⟨_, _, J⟩ e (fun z => nomatch z) fun tk => ⟨.bl b, H, I.kept (t' := tk) fun _ _ z => z, rfl, q⟩
end Gd

set_option Elab.async false
set_option linter.all false
set_option maxRecDepth 100000
set_option maxHeartbeats 4000000
set_option autoImplicit false
namespace PySem
namespace HandSPX
open PySem.W PySem.Calls PyProof.Rows
section
variable {prog : Program} {w : World} {A : Around} {E : Value → Shared → Prop} {R : Result → Shared → Prop} {h : Heap} {g : Array GenState} {d : Drawn} {t : Nat} {os : OsState}
variable {nm q : Str} {C N : Addr} {bs bm bmB : List Value} {hdct : Bool} {sn : List Str} {sub : List Value} {ab : Bool} {col : Option Bool} {dd : Option Addr} {k0 k1 k2 k3 k5 : Option Value} {B newId initId : String} {n : Str} {u : Value}
theorem gd_checkK (V : ExcBaseFacts B newId initId bmB) (hT : ∀ X : String, bm.contains (.type X) = bmB.contains (.type X)) {Q : Unit → Shared → Prop}
    (hC : h.get? C = some (excClassObj nm q C N bs bm hdct sn sub ab col dd k0 k1 k2 k3 k5 newId)) (hq : Q () ⟨h, g, d, t, os⟩) : wpAny (model prog w) A (checkBuiltinCall newId ⟨[.ref C], [(n, u)]⟩) Q E ⟨h, g, d, t, os⟩ := by
  have has : (Value.ref C :: bm).contains (.type B) = true := by rw [List.contains_cons, hT, V.hasB, Bool.or_true]
  have star := V.noStar
  simp only [checkBuiltinCall, V.newKind, V.newSplit, V.newRow]
  repeat (first | refine wpAny_loadPart_at hC ?_ | (refine wpAny_isSubtype_exc hC ?_; rw [has]) | refine wpAny_staticBase_exc hC ?_ | refine wpAny_madeBy_exc hC ?_ | simp only [bne_self_eq_false, Bool.false_eq_true, if_false] | wp_step)
  exact hq
theorem gd_newK (V : ExcBaseFacts B newId initId bmB) (hT : ∀ X : String, bm.contains (.type X) = bmB.contains (.type X))
    (hC : h.get? C = some (excClassObj nm q C N bs bm hdct sn sub ab col dd k0 k1 k2 k3 k5 newId))
    (hq : R (.ok (.ret (.ref (h.objs.size + 1)))) ⟨(h.push (W.kdv_tup [])).push (excO C h.objs.size), g, d, t, os⟩) :
    codeAny (model prog w) A (.builtin newId ⟨[.ref C], [(n, u)]⟩) R ⟨h, g, d, t, os⟩ := by
  have ends := V.ends
  have has : (Value.ref C :: bm).contains (.type B) = true := by rw [List.contains_cons, hT, V.hasB, Bool.or_true]
  have noA : (Value.ref C :: bm).contains (.type "AttributeError") = false := by rw [List.contains_cons, hT, V.noAttr]; rfl
  have noN : (Value.ref C :: bm).contains (.type "NameError") = false := by rw [List.contains_cons, hT, V.noName]; rfl
  have few : ([] : List Value).length ≤ sizeLine := Nat.zero_le _
  refine codeAny_builtinAt V.entry ?_
  unfold Builtin.«BaseException.__new__»
  refine wpAt_bind ?_
  show wpAt _ _ _ (stack >>= _) _ _ _
  refine wpAt_bind (wpAt_stack fun p below => wpAt_of_wpAny ?_)
  wp_walk
  refine wpAt_of_wpAny ?_
  rw [V.owner]
  repeat (first | with_reducible refine wpAny_madeHere_exc V.canon hC ?_ | with_reducible refine wpAny_loadPart_at hC ?_ | (with_reducible refine wpAny_isSubtype_exc hC ?_; first | rw [has] | rw [noA] | rw [noN]) | wp_step)
  show R _ _
  rw [Heap.size_push]
  exact hq
theorem gd_typeCallK (V : ExcBaseFacts B newId initId bmB) (hT : ∀ X : String, bm.contains (.type X) = bmB.contains (.type X)) {fI : Addr} {Q : Fin → Shared → Prop}
    (hC : h.get? C = some (excClassObj nm q C N bs bm hdct sn sub ab col dd k0 k1 k2 k3 k5 newId))
    (hi : W.Looks (model prog w) h (typeLookup (.ref C) "__init__") (some (.ref fI))) (hb : ∀ self, W.Looks (model prog w) h (bindSpecial (.ref fI) self) (.ref fI, [self]))
    (hq : codeAny (model prog w) A (.call (.ref fI) ⟨[.ref (h.objs.size + 1)], [(n, u)]⟩)
      (fun r s' => match r with | .ok (.ret v) => v = .none ∧ Q (.done (.ret (.ref (h.objs.size + 1)))) s' | .ok _ => False | .error e => E e s')
      ⟨(h.push (W.kdv_tup [])).push (excO C h.objs.size), g, d, t, os⟩) :
    wpAny (model prog w) A (Builtin.«type.__call__» ⟨[.ref C], [(n, u)]⟩) Q E ⟨h, g, d, t, os⟩ := by
  repeat (first | with_reducible refine wpAny_loadPart_at hC ?_ | with_reducible refine wpAny_madeBy_exc hC ?_ | wp_step)
  refine codeAny_call_builtin_code (Code.quiet_builtin _ V.quiet) (gd_checkK V hT hC ?_)
  refine gd_newK V hT hC ?_
  show wpAny _ _ _ _ _ _
  have grow : ∀ b o, h.get? b = some o → ((h.push (W.kdv_tup [])).push (excO C h.objs.size)).get? b = some o := fun b o e => Heap.get?_push_of_some _ (Heap.get?_push_of_some _ e)
  have hC1 := grow _ _ hC
  have there : ((h.push (W.kdv_tup [])).push (excO C h.objs.size)).get? (h.objs.size + 1) = some (excO C h.objs.size) := by heap_get
  have self : (Value.ref C :: bm).contains (.ref C) = true := by simp
  have i1 := hi.keeps grow
  have b1 := (hb (.ref (h.objs.size + 1))).keeps grow
  unfold isInstance
  repeat (first | with_reducible refine wpAny_loadPart_at there ?_ | (with_reducible refine wpAny_isSubtype_exc hC1 ?_; rw [self]) | wp_step)
  show wpAny _ _ (typeLookup (.ref C) _) _ _ _
  refine i1.at (wpAny_holding (wpAny_bind (b1.at ?_)))
  refine wpAny_bind (wpAny_call (codeAny_mono hq fun r s' z => ?_))
  rcases r with e | (v | _ | _ | _) <;> first | exact z | exact z.elim | skip
  obtain ⟨rfl, z⟩ := z
  first
    | exact wpAny_pure (wpAny_pure z)
    | (wp_walk; exact z)
theorem gd_callK (V : ExcBaseFacts B newId initId bmB) (hT : ∀ X : String, bm.contains (.type X) = bmB.contains (.type X)) {fI : Addr}
    (hC : h.get? C = some (excClassObj nm q C N bs bm hdct sn sub ab col dd k0 k1 k2 k3 k5 newId))
    (hi : W.Looks (model prog w) h (typeLookup (.ref C) "__init__") (some (.ref fI))) (hb : ∀ self, W.Looks (model prog w) h (bindSpecial (.ref fI) self) (.ref fI, [self]))
    (hq : codeAny (model prog w) (A.under (.builtin "type.__call__" ⟨[.ref C], [(n, u)]⟩)) (.call (.ref fI) ⟨[.ref (h.objs.size + 1)], [(n, u)]⟩) (W.InitBack (h.objs.size + 1) R)
      ⟨(h.push (W.kdv_tup [])).push (excO C h.objs.size), g, d, t, os⟩) :
    codeAny (model prog w) A (.call (.ref C) ⟨[], [(n, u)]⟩) R ⟨h, g, d, t, os⟩ := by
  have f1 := tc_lookup
  have f2 := tc_bind (.ref C)
  have isT : (⟨h, g, d, t, os⟩ : Shared).TypeIs (.ref C) "type" := ⟨_, hC, rfl⟩
  refine codeAny_of_tree ?_
  show wpAny _ _ (callAny (.ref C) _) _ _ _
  repeat (any_goals (first | assumption | with_reducible refine wpAny_loadPart_at hC ?_ | wp_step))
  refine ⟨rfl, ?_⟩
  refine codeAny_call_builtin_at (Code.quiet_builtin _ (by decide +kernel)) entry_typeCall (wpAny_check_type_call_sub hC (gd_typeCallK V hT hC hi hb ?_))
  refine codeAny_mono hq fun r s' z => ?_
  rcases r with e | (v | _ | _ | _) <;> exact z
end
end HandSPX
end PySem
namespace Gd
open PySem PySem.Spec PyProof.Rows L2
/-- C(n = e), as a value -/
def tMkK (C : Addr) (sp : Sp) (tk : TA) : TE := fun σ H Q => tk σ H fun vs H1 => vs.length = 1 ∧ ∀ a, H1 a = none → sp (.ref a :: vs) (upd H1 a (exo a C none)) (fun v H2 => v = .non ∧ Q (.ref a) H2) E0
section
variable {X : Cx} {x qual n : Str} {st : Stmt} {ps : List Str} {sp : Sp} {k j : Nat} {kws : List Keyword} {tk : TA} {p pos : Pos} {C fI : Addr}
theorem pe_mkEk (T : ExT X.K X.mg C fI x) (D : DnI X.prog X.w X.K X.mg X.base k fI qual st ps sp) (hr : Room j X.A)
    (kb : ∀ fd, Fun X.K "__init__" qual st fI fd → ∀ (s : Shared) (a u : Value), BindsTo s fd ⟨[a], [(n, u)]⟩ (ps.zip [a, u])) (hg : Gl X x) (hkw : PK X kws tk) (hk : k + 1 ≤ j := by decide)
    (hall : (backToKw pos (keywordEach kws X.env)).all (·.1.isSome) = true := by rfl) (hks : (backToKw pos (keywordEach kws X.env)).filterMap (·.1) = [n] := by rfl)
    (hdb : (x == ("__debug__" : Str)) = false := by decide)
    (hpl : ((backTo pos (starEach [] X.env)).any (·.1) || (backToKw pos (keywordEach kws X.env)).any (·.1.isNone)) = false := by rfl) :
    PE X (.Call (.Name x p) [] kws pos) (tMkK C sp tk) := by
  obtain ⟨fd, F, b, ok⟩ := D.ex
  have hr' := hr.mono hk
  refine ⟨fun pins s σ H Q I h => ?_⟩
  obtain ⟨nm, q, N, bs, bm, sn, sub, ab, col, dd, k0, k1, k2, k3, k5, hC, hbm⟩ := T.ox.cls
  refine wpAny_Call_Name_kw (ld_glob I hg T.mg_ ?_ hdb)
  refine PySem.W.callWith_KW0 (h₀ := X.base) I.ok.mod.kin T.ox.kC hall ?_ hpl
  refine thn (hkw.run pos pins s σ H _ I h) fun us s1 got => ?_
  obtain ⟨vs, H1, I1, r1, hz, q1⟩ := got
  refine ⟨I1.kIn, ?_⟩
  rw [hks]
  match vs, us, r1, hz, q1 with
  | [v], [u], r1, hz, q1 =>
    show wpAny _ _ (call (.ref C) [] [(n, u)]) _ _ _
    obtain ⟨hp, g, dr, tkn, os⟩ := s1
    have big : hp.objs.size ≤ hp.objs.size + 1 := Nat.le_succ _
    have new : H1 (hp.objs.size + 1) = none := I1.hok.fresh big
    have hq := q1 (hp.objs.size + 1) new
    have grow : ∀ b o, hp.get? b = some o → ((hp.push (PySem.W.kdv_tup [])).push (PySem.HandSPX.excO C hp.objs.size)).get? b = some o := fun b o z => Heap.get?_push_of_some _ (Heap.get?_push_of_some _ z)
    have there : ((hp.push (PySem.W.kdv_tup [])).push (PySem.HandSPX.excO C hp.objs.size)).get? (hp.objs.size + 1) = some (PySem.HandSPX.excO C hp.objs.size) := by heap_get
    have I2 : Inv X pins σ (upd H1 (hp.objs.size + 1) (exo (hp.objs.size + 1) C none)) ⟨(hp.push (PySem.W.kdv_tup [])).push (PySem.HandSPX.excO C hp.objs.size), g, dr, tkn, os⟩ := I1.laid (t' := tkn) grow big (exo_ok there)
    have r2 : Vals [V.ref (hp.objs.size + 1), v] [Value.ref (hp.objs.size + 1), u] := .cons rfl r1
    have bnd := kb fd F ⟨(hp.push (PySem.W.kdv_tup [])).push (PySem.HandSPX.excO C hp.objs.size), g, dr, tkn, os⟩ (Value.ref (hp.objs.size + 1)) u
    refine wpAny_call (PySem.HandSPX.gd_callK PySem.F.excBase_ValueError (fun Y => PySem.HandSPX.refsVE_contains Y bm hbm) (I1.kIn _ _ hC) (PySem.W.looks_findIn I1.kIn T.iC) (fun self => PySem.W.bind_fn I1.kIn self T.tI) ?_)
    refine codeAny_mono (ok.run _ X.stack _ _ ⟨[Value.ref (hp.objs.size + 1)], [(n, u)]⟩ [Value.ref (hp.objs.size + 1), u] _ _ E0 (hr'.make C [] [(n, u)]) (I2.env0.make C [] [(n, u)]) bnd r2 hq) fun r s' post => ?_
    cases r with
    | error er => exact (post : False).elim
    | ok fl =>
      cases fl with
      | ret w =>
        obtain ⟨v3, H3, I3, rv, ev, q3⟩ := I2.after post
        subst ev
        exact ⟨rv, .ref (hp.objs.size + 1), H3, I3, rfl, q3⟩
      | next => exact (post : False).elim
      | brk => exact (post : False).elim
      | cont => exact (post : False).elim
end
/-- repr of anything short -/
theorem call_reprV {X : Cx} {k : Nat} (gd : X.A.guards = some []) (hr : Room k X.A) : CallR X (.builtin "repr") (fun xs H Q => ∃ v d n k, xs = [v] ∧ Dp X.K H v d ∧ DOk n k d ∧ n ≤ 200000 ∧ k ≤ 64 ∧ Q (.str d.shown) H) := by
  intro pins s σ H xs us Q I r h
  obtain ⟨v, d, n, j, rfl, dp, ok, hn, hj, q⟩ := h
  have fits := ok.fits hn
  cases dp with
  | non =>
    obtain ⟨u, rfl, ru⟩ := vals1 r
    cases ru
    rw [PyData.shown_none] at q
    exact PySem.P.repr_of_none ⟨.str "None", H, I.tok _, ⟨_, rfl⟩, q⟩
  | bl b =>
    obtain ⟨u, rfl, ru⟩ := vals1 r
    cases ru
    rw [PyData.shown_bool] at q
    exact PySem.P.repr_of_bool ⟨.str (if b then "True" else "False"), H, I.tok _, ⟨_, rfl⟩, by cases b <;> exact q⟩
  | int i =>
    obtain ⟨u, rfl, t, rfl⟩ := vals1 r
    have z : i.natAbs.log2 < 1920 := by simpa [PyData.showable] using ok.shw
    rw [PyData.shown_int] at q
    exact PySem.P.repr_of_int z ⟨.str _, H, I.tok _, ⟨_, rfl⟩, q⟩
  | str x =>
    obtain ⟨u, rfl, t, rfl⟩ := vals1 r
    have e : (PyData.str x).shown = reprText x := by simp [PyData.shown]
    rw [e] at q fits
    exact PySem.P.repr_of_str ⟨.str _, H, I.tok _, ⟨_, rfl⟩, q⟩ fits
  | lst a b => exact call_reprD gd hr pins s σ H _ us Q I r ⟨_, _, n, j, rfl, .lst a b, ok, hn, hj, ⟨_, rfl⟩, q⟩
  | tup a b => exact call_reprD gd hr pins s σ H _ us Q I r ⟨_, _, n, j, rfl, .tup a b, ok, hn, hj, ⟨_, rfl⟩, q⟩
end Gd
namespace Gd
open PySem PySem.Spec PyProof.Rows L2
/-! ### all own exceptions of a text: the base first, the others below it -/
def errB (K : PySem.W.Frag) (C fI : Addr) : Bool :=
  decide (PySem.W.findIn K (.ref C) "__setattr__" = some (some (.builtin "object.__setattr__"))) && (decide (PySem.W.subIn K (.ref C) (.type "BaseException") = some true) && (decide (PySem.W.typeIn K (.ref C) = some (.type "type")) && (PySem.W.keepIn K (.ref C) &&
  (decide (PySem.W.findIn K (.ref C) "__init__" = some (some (.ref fI))) && (decide (PySem.W.findIn K (.ref C) "value" = some none) && (decide (PySem.W.findIn K (.ref C) "__getattribute__" = some (some (.builtin "BaseException.__getattribute__"))) &&
  (decide (PySem.W.findIn K (.ref C) "__getattr__" = some none) && (PySem.W.hasDictIn K C && (decide (PySem.W.findIn K (.ref C) "__class__" = some (some (.builtin "object.__class__"))) && decide (PySem.W.mroIn K C (.type "object") = some true))))))))))
def initB (K : PySem.W.Frag) (fI : Addr) : Bool :=
  decide (PySem.W.typeIn K (.ref fI) = some (.type "function")) && (decide (PySem.W.specialIn K (.builtin "object.__class__") "__get__" = some (some (.builtin "getset_descriptor.__get__"))) && decide (PySem.W.takesIn K (.builtin "object.__class__") = some true))
def kitB (K : PySem.W.Frag) (C : Addr) (i : Nat) : Nat → List Addr → Bool
  | _, [] => decide (PySem.W.kitOne K (.ref C) (.type "ValueError") = some true)
  | j, D :: ds => decide (PySem.W.kitOne K (.ref C) (.ref D) = some (decide (i = j ∨ j = 0))) && kitB K C i (j + 1) ds
theorem kitB_at {K : PySem.W.Frag} {C : Addr} {i : Nat} : ∀ {j : Nat} {ds : List Addr}, kitB K C i j ds = true → (∀ (m : Nat) D, ds[m]? = some D → PySem.W.kitOne K (.ref C) (.ref D) = some (decide (i = j + m ∨ j + m = 0))) ∧ PySem.W.kitOne K (.ref C) (.type "ValueError") = some true
  | j, [], h => ⟨fun m D e => by simp at e, of_decide_eq_true h⟩
  | j, D :: ds, h => by
    obtain ⟨h1, h2⟩ := Bool.and_eq_true_iff.mp h
    obtain ⟨a, b⟩ := kitB_at h2
    refine ⟨fun m D' e => ?_, b⟩
    cases m with
    | zero =>
      have e' : D = D' := by simpa using e
      subst e'
      exact of_decide_eq_true h1
    | succ m =>
      have z := a m D' (by simpa using e)
      rw [show j + 1 + m = j + (m + 1) by omega] at z
      exact z
structure ErrT (K : PySem.W.Frag) (mg : Str → Option Value) (cs : List Addr) (ns : List Str) (fI : Addr) : Prop where
  t : ∀ (i : Nat) C x, cs[i]? = some C → ns[i]? = some x → ExT K mg C fI x
  sub : ∀ (i j : Nat) C D, cs[i]? = some C → cs[j]? = some D → PySem.W.kitOne K (.ref C) (.ref D) = some (decide (i = j ∨ j = 0))
  subV : ∀ (i : Nat) C, cs[i]? = some C → PySem.W.kitOne K (.ref C) (.type "ValueError") = some true
  len : cs.length = ns.length
theorem ErrT.all {K : PySem.W.Frag} {mg : Str → Option Value} {cs : List Addr} {ns : List Str} {fI : Addr} (T : ErrT K mg cs ns fI) : ∀ c, c ∈ cs → ∃ fI x, ExT K mg c fI x := by
  intro c m
  obtain ⟨i, l, e⟩ := List.getElem_of_mem m
  exact ⟨fI, ns[i]'(by rw [← T.len]; exact l), T.t i c _ (by rw [List.getElem?_eq_getElem l, e]) (List.getElem?_eq_getElem (by rw [← T.len]; exact l))⟩
theorem ext_mk {K : PySem.W.Frag} {mg : Str → Option Value} {C fI : Addr} {x : Str} (cls : ∃ nm q N bs bm sn sub ab col dd k0 k1 k2 k3 k5, K.lookup C = some (excClassObj nm q C N bs bm true sn sub ab col dd k0 k1 k2 k3 k5 "ValueError.__new__") ∧ PySem.HandSPX.refsVE bm = true)
    (g : mg x = some (.ref C)) (h : errB K C fI = true) (i : initB K fI = true) : ExT K mg C fI x := by
  obtain ⟨a1, h⟩ := Bool.and_eq_true_iff.mp h
  obtain ⟨a2, h⟩ := Bool.and_eq_true_iff.mp h
  obtain ⟨a3, h⟩ := Bool.and_eq_true_iff.mp h
  obtain ⟨a4, h⟩ := Bool.and_eq_true_iff.mp h
  obtain ⟨a5, h⟩ := Bool.and_eq_true_iff.mp h
  obtain ⟨a6, h⟩ := Bool.and_eq_true_iff.mp h
  obtain ⟨a7, h⟩ := Bool.and_eq_true_iff.mp h
  obtain ⟨a8, h⟩ := Bool.and_eq_true_iff.mp h
  obtain ⟨a9, h⟩ := Bool.and_eq_true_iff.mp h
  obtain ⟨b1, b2⟩ := Bool.and_eq_true_iff.mp h
  obtain ⟨i1, i⟩ := Bool.and_eq_true_iff.mp i
  obtain ⟨i2, i3⟩ := Bool.and_eq_true_iff.mp i
  exact ⟨⟨cls, of_decide_eq_true a1, of_decide_eq_true a2, of_decide_eq_true a3, a4⟩, g, of_decide_eq_true a5, of_decide_eq_true i1, of_decide_eq_true a6, of_decide_eq_true a7, of_decide_eq_true a8, a9, of_decide_eq_true b1, of_decide_eq_true i2, of_decide_eq_true i3, of_decide_eq_true b2⟩
end Gd

set_option Elab.async false
set_option linter.all false
set_option maxRecDepth 100000
set_option maxHeartbeats 4000000
set_option autoImplicit false
namespace Gd
open PySem PySem.Spec PyProof.Rows L2

/-! ### try: body / except C as n: y = n; the exception is kept as a value -/
/-- at a: an exception of the class cls, its dict d -/
def Kept (cls : Value) (d : Option Addr) (a : Addr) : HO := .ext fun h => ∃ (oe : Obj) (vs : Array Value), h.get? a = some oe ∧ oe.cls = cls ∧ oe.dict = d ∧ oe.data = .fields vs
theorem kept_ok {P : Program} {w : World} {H : Hp} {h : Heap} {a : Addr} {cls : Value} {d : Option Addr} {oe : Obj} {vs : Array Value} (e : h.get? a = some oe) (c : oe.cls = cls) (z : oe.dict = d) (f : oe.data = .fields vs) : ObjOk P w H h a (Kept cls d a) :=
  ⟨⟨oe, vs, e, c, z, f⟩, ⟨_, e⟩, fun h1 h2 x k => by
    obtain ⟨o, v, e1, r⟩ := x
    exact ⟨o, v, k _ e1, r⟩⟩
theorem kept_at {P : Program} {w : World} {H : Hp} {h : Heap} {a : Addr} {cls : Value} {d : Option Addr} (ok : HOk P w H h) (e : H a = some (Kept cls d a)) : ∃ (oe : Obj) (vs : Array Value), h.get? a = some oe ∧ oe.cls = cls ∧ oe.dict = d ∧ oe.data = .fields vs := by
  have z : ObjOk P w H h a (.ext fun h => ∃ (oe : Obj) (vs : Array Value), h.get? a = some oe ∧ oe.cls = cls ∧ oe.dict = d ∧ oe.data = .fields vs) := ok a _ e
  exact z.1
theorem kept_ne {cls : Value} {d : Option Addr} {a : Addr} {o : HO} (h : ∀ φ, o ≠ .ext φ) : Kept cls d a ≠ o := fun z => h _ z.symm
section
variable {X : Cx} {pins : List (Addr × Obj)} {σ : L2.St} {H : Hp} {s : Shared} {a : Addr} {oe : Obj} {vs : Array Value} {cls : Value} {d : Option Addr}
/-- a thing that stands there, and was not told of, is told of -/
theorem adopt (I : Inv X pins σ H s) (he : s.heap.get? a = some oe) (hc : oe.cls = cls) (hd : oe.dict = d) (hf : oe.data = .fields vs) (na : H a = none) (nL : a ≠ X.env.locals) (s0 : X.s_0.heap.get? a = none)
    (po : ∀ p ∈ X.pn ++ pins, p.1 ≠ a) : Inv X pins σ (upd H a (Kept cls d a)) s := by
  have old : ∀ {b : Addr} {o : HO}, H b = some o → upd H a (Kept cls d a) b = some o := fun {b o} e => by rw [upd_ne (ne_of_none e na)]; exact e
  have cel : ∀ y c, X.env.cells.lookup y = some c → c ≠ a := fun y c e z => by
    obtain ⟨v, hv⟩ := I.cell y c e
    obtain ⟨o, ho, hx⟩ := hv
    rw [z, he] at ho
    cases ho
    first
      | (rw [hf] at hx; cases hx)
      | (obtain ⟨_, hx⟩ := hx; rw [hf] at hx; cases hx)
  refine ⟨I.ok, I.os, I.bare, ⟨I.base.keep, I.base.slot, fun b o e n hx => ?_, I.base.there, fun b xs e => old (I.base.tups b xs e), fun b o u e => old (I.base.frzs b o u e), fun b ps e => ?_⟩, I.loc, I.cell, ?_, fun y c e => ?_, fun p hp => ?_, fun b o e => ?_, I.len⟩
  · rw [upd_ne (fun z => by rw [z, s0] at e; cases e)]
    exact I.base.free b o e n hx
  · obtain ⟨more, z⟩ := I.base.tbls b ps e
    exact ⟨more, old z⟩
  · rw [upd_ne (Ne.symm nL)]
    exact I.free
  · rw [upd_ne (cel y c e)]
    exact I.freeC y c e
  · obtain ⟨x1, x2, x3⟩ := I.pin p hp
    exact ⟨x1, by rw [upd_ne (po p hp)]; exact x2, x3⟩
  · by_cases z : b = a
    · subst z
      rw [upd_same] at e
      cases e
      exact kept_ok he hc hd hf
    · rw [upd_ne z] at e
      exact (I.hok b o e).stay (fun _ _ _ q => q) (fun c hx => old hx) fun c xs hx => old hx
end
/-- what the clause wishes -/
def wKeep (K : PySem.W.Frag) (c : Value) (i j : Nat) (Wout : WX) (D : Ends) : WX := fun cls d σ H =>
  ∃ b, PySem.W.exmOne K cls c = some b ∧ (b = true → ∀ a, H a = none → D.nx (((σ.set i (some (.ref a))).set j (some (.ref a))).set i none) (upd H a (Kept cls d a))) ∧ (b = false → Wout cls d σ H)
section
variable {X : Cx} {x n y : Str} {c : Value} {i j : Nat} {body : List Stmt} {np p1 p2 p3 pos pos' : Pos} {tb : WX → TS} {Wout : WX}
theorem ps_try_keep (hs : X.stack = X.env :: X.outer) (hf : X.env.frame = some X.env.locals) (hex : X.ex = []) (hN : X.N.Nodup) (hi : X.N[i]? = some n) (hln : X.env.kindOf n = some .local) (hj : X.N[j]? = some y) (hly : X.env.scope.names.lookup y = some .local) (hc : Names X x c) (tk : Takes X Wout)
    (hv : ∀ (a : Addr) (pn : List (Addr × Obj)), PS (X.suite a pn) (.Assign [.Name y p1] (.Name n p2) p3) (tAsg (tVar i) (gName j)))
    (hb : ∀ (W : WX) (pn : List (Addr × Obj)) (xe : Value → Shared → Prop), Takes (X.tr pn xe) W → PassesOwn (model X.prog X.w) X.A X.env xe → PSs (X.tr pn xe) body (tb W)) :
    PS X (.Try body [.ExceptHandler (some (.Name x np)) (some n) [.Assign [.Name y p1] (.Name n p2) p3] pos'] [] [] pos) (fun D σ H => tb (wKeep X.K c i j Wout D) D σ H) := by
  refine ⟨fun pins s σ H D I q0 => ?_⟩
  have ok := I.ok
  have fr : X.A.frames = some (X.env :: X.outer) := by rw [ok.frames, hs]
  have lc : Loc X.env.scope n := .inl hln
  have run := (hb (wKeep X.K c i j Wout D) (X.pn ++ pins) (fun e s1 => wpAny (model X.prog X.w) X.A (noteFrame e X.env) (fun _ s2 => wpAny (model X.prog X.w) X.A (setFlight e none) (fun _ s3 =>
    wpAny (model X.prog X.w) X.A (handleBy e X.env [.ExceptHandler (some (.Name x np)) (some n) [.Assign [.Name y p1] (.Name n p2) p3] pos']) (SP X pins D) X.xe s3) X.xe s2) X.xe s1) ?caught PassesOwn.looking).run [] s σ H D (I.toTry _) q0
  · refine wpAny_Try_except (wpAny_mono run (fun fl s1 z => ?_) fun _ _ z => z)
    cases fl with
    | next =>
      obtain ⟨σ1, H1, J, q⟩ := z
      exact wpAny_execs_nil ⟨σ1, H1, J.ofTry ok, q⟩
    | brk =>
      obtain ⟨σ1, H1, J, q⟩ := z
      exact ⟨σ1, H1, J.ofTry ok, q⟩
    | cont =>
      obtain ⟨σ1, H1, J, q⟩ := z
      exact ⟨σ1, H1, J.ofTry ok, q⟩
    | ret u =>
      obtain ⟨v, σ1, H1, J, r, q⟩ := z
      exact ⟨v, σ1, H1, J.ofTry ok, r, q⟩
  · intro u s' air
    obtain ⟨a, G, sI, pins', σ', H', cls, d, rfl, J', nb, up, sky, na, os, ag, b, exm, yes, no⟩ := air
    have J : Inv X pins σ' H' sI := J'.ofTry ok
    have sky2 : Sky G (X.env :: X.outer) a (Zc cls d) X.env.locals s'.heap := by rw [← hs]; exact sky
    show wpAny (model X.prog X.w) X.A (noteFrame (.ref a) X.env) _ _ _
    refine Sky.land Zc.steady fr hf sky2 fun h3 fl3 up3 => ?_
    have I3 : Inv X pins σ' H' { s' with heap := h3 } := J.landed nb fl3.1 (up.trans up3) os ag
    obtain ⟨o3, v3, e3, z3, d3⟩ := fl3.there
    have nfr : a ∉ frs (X.env :: X.outer) := fun m => by
      obtain ⟨_, o, eo, nf⟩ := fl3.2.2.1.mem m
      rw [e3] at eo
      cases eo
      exact nf _ d3
    have gone : sI.heap.get? a = none := by
      cases g : sI.heap.get? a with
      | none => rfl
      | some o =>
        have := nb a o g (by rw [hs]; exact nfr)
        rw [fl3.2.1] at this
        cases this
    have nL : a ≠ X.env.locals := fun z => nfr (List.mem_filterMap.mpr ⟨X.env, List.mem_cons_self, by rw [hf, z]⟩)
    have s0 : X.s_0.heap.get? a = none := by
      cases g : X.s_0.heap.get? a with
      | none => rfl
      | some o =>
        obtain ⟨o2, g2⟩ := J.base.there a o g (by rw [hex]; exact List.not_mem_nil)
        rw [gone] at g2
        cases g2
    have po : ∀ p ∈ X.pn ++ pins, p.1 ≠ a := fun p hp z => by
      have := (J.pin p hp).1
      rw [z, gone] at this
      cases this
    have calmless : ∀ {σ : L2.St} {H : Hp} {s : Shared}, Inv X pins σ H s → Inv (X.suite a (X.pn ++ pins)) [] σ H s := fun {σ H s} Y =>
      ⟨Y.ok.suite _ _, Y.os, Y.bare, Y.base, Y.loc, Y.cell, Y.free, Y.freeC, fun p hp => Y.pin p (by rw [List.append_nil] at hp; exact hp), Y.hok, Y.len⟩
    have back : ∀ {σ : L2.St} {H : Hp} {s : Shared}, Inv (X.suite a (X.pn ++ pins)) [] σ H s → Inv X pins σ H s := fun {σ H s} Y =>
      ⟨ok, Y.os, Y.bare, Y.base, Y.loc, Y.cell, Y.free, Y.freeC, fun p hp => Y.pin p (List.mem_append_left _ hp), Y.hok, Y.len⟩
    refine wpAny_handleBy_cons (codeAny_handlers_test ?_) (by intro q; cases q)
    have LT : PySem.W.Looks (model X.prog X.w) h3 (typeOf (.ref a)) cls := fun A' Q' E' s4 k q => wpAny_typeOf_ref (k _ _ e3) (by rw [z3.1]; exact q)
    have LM := PySem.W.exm_one (M := model X.prog X.w) I3.kIn LT exm
    have test : ∀ {Q : Value → Shared → Prop} {E : Value → Shared → Prop}, Q c { s' with heap := h3 } → wpAny (model X.prog X.w) (X.A.mark (some (.ref a))) (eval (.Name x np) X.env) Q E { s' with heap := h3 } := fun {Q E} q => by
      obtain ⟨gl, dbg, g | ⟨g, v, nn⟩⟩ := hc
      · exact ld_glob (X := X.suite a (X.pn ++ pins)) (calmless I3) gl g q dbg
      · exact ld_blt (X := X.suite a (X.pn ++ pins)) (calmless I3) gl g v q nn dbg
    refine test (LM.here ?_)
    cases b with
    | true =>
      refine codeAny_handlers_suite_as (HandSPX.lands_againZ fl3 fun h4 fl4 up4 => ?_)
      have I4 : Inv X pins σ' H' { s' with heap := h4 } := J.landed nb fl4.1 ((up.trans up3).trans up4) os ag
      obtain ⟨o4, v4, e4, z4, d4⟩ := fl4.there
      have I5 := adopt I4 e4 z4.1 z4.2 d4 na nL s0 po
      refine store_ok (X := X.suite a (X.pn ++ pins)) (v := .ref a) (calmless I5) hN hi lc rfl (fun s5 Y5 => ?_) (.inr hln)
      have li : i < σ'.length := by
        rw [J.len]
        exact (List.getElem?_eq_some_iff.mp hi).1
      have fin : ∀ {σ6 : L2.St} {H6 : Hp} {s6 : Shared} {Q : Shared → Prop}, Inv (X.suite a (X.pn ++ pins)) [] σ6 H6 s6 → (∀ s7, Inv X pins (σ6.set i none) H6 s7 → Q s7) →
          wpAny (model X.prog X.w) X.A (do bindName X.env n .none; unbindBehindTheSuite X.env n pos') (fun _ s7 => Q s7) X.xe s6 := fun {σ6 H6 s6 Q} Y q => gone_ok (back Y) hN hi hln q
      refine wpAny_mono ((pss_one (hv a (X.pn ++ pins))).run [] s5 _ _ { nx := fun σ1 H1 => D.nx (σ1.set i none) H1, rt := D.rt, bk := fun σ1 H1 => D.bk (σ1.set i none) H1, ct := fun σ1 H1 => D.ct (σ1.set i none) H1 } Y5 ⟨.ref a, List.getElem?_set_self li, yes rfl a na⟩) (fun fl s6 z => ?_) fun _ _ z => False.elim z
      cases fl with
      | next =>
        obtain ⟨σ6, H6, Y6, q6⟩ := z
        exact fin Y6 fun s7 J7 => ⟨_, _, J7, q6⟩
      | brk =>
        obtain ⟨σ6, H6, Y6, q6⟩ := z
        exact fin Y6 fun s7 J7 => ⟨_, _, J7, q6⟩
      | cont =>
        obtain ⟨σ6, H6, Y6, q6⟩ := z
        exact fin Y6 fun s7 J7 => ⟨_, _, J7, q6⟩
      | ret u =>
        obtain ⟨v6, σ6, H6, Y6, r6, q6⟩ := z
        exact fin Y6 fun s7 J7 => ⟨_, _, _, J7, r6, q6⟩
    | false =>
      show wpAny _ X.A (handleBy (.ref a) X.env []) _ _ _
      refine wpAny_handleBy_nil ?_
      obtain ⟨k1, k2, k3, oe, vs, T, oT, ts, he, hz, hd, h1, hr⟩ := id fl3
      unfold PySem.passOn
      refine wpAny_bind (wpAny_field he hd h1 ?_)
      rw [if_neg (show ¬ ((Value.ref T == Value.none) = true) from by simp)]
      have out : wpAny (model X.prog X.w) X.A (setFlight (.ref a) X.env.frame) (fun _ s4 => wpAny (model X.prog X.w) X.A (throw (.ref a) : Sem Flow) (SP X pins D) X.xe s4) X.xe { s' with heap := h3 } := by
        rw [hf]
        refine HandSPX.setFlight_upZ fl3 fun h4 hh4 up4 => wpAny_throw (tk _ _ ?_)
        exact ⟨a, G, sI, pins, σ', H', cls, d, rfl, J, nb, (up.trans up3).trans up4, .inr (.inr (by rw [hs]; exact hh4)), na, os, ag, no rfl⟩
      first
        | exact wpAny_bind (wpAny_pure (wpAny_bind out))
        | exact wpAny_bind out
end
end Gd

set_option Elab.async false
set_option linter.all false
set_option maxRecDepth 100000
set_option maxHeartbeats 4000000
set_option autoImplicit false
namespace Gd
open PySem PySem.Spec PyProof.Rows L2

/-! ### defs that may raise -/
structure DnX (P : Program) (w : World) (K : PySem.W.Frag) (mg : Str → Option Value) (base : Heap)
    (k : Nat) (x : Str) (st : Stmt) (ps : List Str) (sp : Sp) : Prop where
  ex : ∃ f fd, Fun K x x st f fd ∧ Binds K fd ps [] ∧ mg x = some (.ref f) ∧ FnOk P w K mg base (L2.CX P w) k f fd ps sp
theorem DnX.mk' {P : Program} {w : World} {K : PySem.W.Frag} {mg : Str → Option Value} {base : Heap} {x : Str} {st : Stmt} {ps : List Str} {k : Nat} {sp : Sp} (h : At K mg x st ps)
    (ok : ∀ f fd, Fun K x x st f fd → FnOk P w K mg base (L2.CX P w) k f fd ps sp) : DnX P w K mg base k x st ps sp := by
  obtain ⟨f, fd, F, b, g⟩ := h
  exact ⟨f, fd, F, b, g, ok f fd F⟩
/-- what a raise leaves -/
theorem mk_raise {K : PySem.W.Frag} {C : Addr} {H1 : Hp} {v : V} {Q : Value → Option Addr → Hp → Prop} {E : XK} (T : OexC K C) (n : PySem.W.findIn K (.ref C) "value" = some none)
    (q : ∀ d H', Same H1 H' → H1 d = none → H' d = some (.xd [("value", v)]) → Q (.ref C) (some d) H') :
    ∀ a, H1 a = none → spIni K (.ref a :: ([v] ++ [])) (upd H1 a (exo a C none))
      (fun u H2 => u = .non ∧ ∃ (d : Addr) (fs : List (Str × V)), H2 a = some (exo a C (some d)) ∧ H2 d = some (exd d fs) ∧ H1 d = none ∧ Q (.ref C) (some d) (upd (del H2 a) d (.xd fs))) E := by
  intro a na
  refine ⟨a, C, v, rfl, T, n, upd_same, fun dx nd ne => ⟨rfl, ?_⟩⟩
  have nd1 : H1 dx = none := by rw [upd_ne ne] at nd; exact nd
  refine ⟨dx, [("value", v)], upd_same, by rw [upd_ne ne, upd_same], nd1, q dx _ (fun b o e => ?_) nd1 upd_same⟩
  have ba : b ≠ a := ne_of_none e na
  have bd : b ≠ dx := ne_of_none e nd1
  rw [upd_ne bd, del_ne ba, upd_ne ba, upd_ne bd, upd_ne ba]
  exact e
section
variable {X : Cx} {W : WX} {x qual : Str} {st : Stmt} {ps : List Str} {sp : Sp} {k j : Nat} {e : Expr} {es : List Expr} {ta t : TA} {p pos pos2 : Pos} {C fI : Addr}
theorem pe_cX (tk : Takes X W) (D : DnX X.prog X.w X.K X.mg X.base k x st ps sp) (hr : Room j X.A) (hg : Gl X x) (ha : PA X (e :: es) t) (hk : k ≤ j := by decide)
    (hdb : (x == ("__debug__" : Str)) = false := by decide) (he : starEach (e :: es) X.env = (false, eval e X.env) :: starEach es X.env := by rfl)
    (hpl : (backTo pos (starEach es X.env)).any (·.1) = false := by rfl) :
    PE X (.Call (.Name x p) (e :: es) [] pos) (tCallS sp (WE W) t) := by
  obtain ⟨f, fd, F, b, g, ok⟩ := D.ex
  exact pe_callS ok (hr.mono hk) hg g F.kp b (fun σ => passAt tk σ) ha hdb he hpl
theorem ps_raiseE (hc : X.calm = true) (T : ExT X.K X.mg C fI x) (D : DnI X.prog X.w X.K X.mg X.base k fI qual st ps sp) (hr : Room j X.A) (tk : Takes X W) (hg : Gl X x) (ha : PA X (e :: es) ta) (hk : k + 1 ≤ j := by decide)
    (hdb : (x == ("__debug__" : Str)) = false := by decide) (he : starEach (e :: es) X.env = (false, eval e X.env) :: starEach es X.env := by rfl)
    (hpl : (backTo pos (starEach es X.env)).any (·.1) = false := by rfl) :
    PS X (.Raise (some (.Call (.Name x p) (e :: es) [] pos)) none pos2) (fun _ σ H => tMkO C sp [] ta σ H fun cls d H' => W cls d σ H') := by
  obtain ⟨fd, F, b, ok⟩ := D.ex
  exact ps_raise hc tk (pmk_oex T.ox T.iC T.tI ok (hr.mono hk) b .nil pass0 hg T.mg_ ha hdb he hpl)
end

/-! ### a kept exception -/
def ErrK (H : Hp) (C a : Addr) (v : V) : Prop := ∃ d, H a = some (Kept (.ref C) (some d) a) ∧ H d = some (.xd [("value", v)])
theorem ErrK.same {H H' : Hp} {C a : Addr} {v : V} (k : Same H H') (h : ErrK H C a v) : ErrK H' C a v := by
  obtain ⟨d, h1, h2⟩ := h
  exact ⟨d, k _ _ h1, k _ _ h2⟩
theorem errK_inst {X : Cx} {pins : List (Addr × Obj)} {σ : L2.St} {H : Hp} {s : Shared} {C a : Addr} {v : V} (I : Inv X pins σ H s) (h : ErrK H C a v) :
    ∃ (oe od : Obj) (u : Value), PySem.W.InstAt s.heap a oe C (some od) ∧ RelV v u ∧ PySem.W.lookIn "value" od = some (some u) := by
  obtain ⟨d, e1, e2⟩ := h
  obtain ⟨oe, vs, he, hc, hd, hf⟩ := kept_at I.hok e1
  have z : ObjOk X.prog X.w H s.heap d (.xd [("value", v)]) := I.hok d _ e2
  obtain ⟨mA, ns, rel⟩ := z
  obtain ⟨od, ho, hl⟩ := lookIn_ns ns
  have l : List.lookup ("value" : Str) [(("value" : Str), v)] = some v := by simp [List.lookup]
  obtain ⟨u, hu, ru⟩ := RelO.some_of (v := v) (o := mA "value") (by rw [← l]; exact rel "value")
  exact ⟨oe, od, u, ⟨he, hc, by unfold PySem.W.notCls; rw [hf] <;> rfl, by rw [hd]; exact ho⟩, ru, by rw [hl, hu]⟩
def tValK (ta : TE) (S : Addr → Prop) : TE := fun σ H Q => ta σ H fun x H1 => ∃ a c v, x = .ref a ∧ S c ∧ ErrK H1 c a v ∧ Q v H1
theorem pe_valK {X : Cx} {e : Expr} {te : TE} {pos : Pos} {S : Addr → Prop} (T : ∀ c, S c → ∃ fI x, ExT X.K X.mg c fI x) (he : PE X e te) (hb : attributeBase e "value" X.env (eval e X.env) = eval e X.env := by rfl) :
    PE X (.Attribute e "value" pos) (tValK te S) := by
  refine ⟨fun pins s σ H Q I h => ?_⟩
  refine attr_of hb (thn (he.run pins s σ H _ I h) fun u s1 got => ?_)
  obtain ⟨x, H1, I1, rx, a, c, v, ex, sc, ea, q⟩ := got
  subst ex
  obtain rfl : u = Value.ref a := rx
  obtain ⟨fI, y, T⟩ := T c sc
  obtain ⟨oe, od, w, J, ru, hl⟩ := errK_inst I1 ea
  exact HandSPX.exc_get I1.kIn J T.hg T.hk T.ox.exC (PySem.W.findObj_own T.hd T.nV rfl hl) (handed_of ru) ⟨v, H1, I1.tok _, ru, q⟩
def rIsXK (K : PySem.W.Frag) (S : Addr → Prop) : List V → Hp → VK → Prop := fun xs H Q => ∃ (a C : Addr) (v c : V) (cv : Value) (b : Bool), xs = [.ref a, c] ∧ S C ∧ ErrK H C a v ∧ (∀ u, RelV c u → u = cv) ∧ PySem.W.kitOne K (.ref C) cv = some b ∧ Q (.bl b) H
theorem call_isXK {X : Cx} {S : Addr → Prop} (T : ∀ c, S c → ∃ fI x, ExT X.K X.mg c fI x) : CallR X (.builtin "isinstance") (rIsXK X.K S) := by
  intro pins s σ H xs us Q I r h
  obtain ⟨a, C, v, c, cv, b, rfl, sc, ea, hcv, e, q⟩ := h
  obtain ⟨u1, u2, rfl, r1, r2⟩ := vals2 r
  cases (show u1 = Value.ref a from r1)
  have ec := hcv _ r2
  subst ec
  obtain ⟨fI, y, T⟩ := T C sc
  obtain ⟨oe, od, w, J, _⟩ := errK_inst I ea
  exact PySem.W.kia_one (err_kit T) I.kIn ⟨_, _, J⟩ e (fun z => nomatch z) fun tk => ⟨.bl b, H, I.tok tk, rfl, q⟩
/-- isinstance(e, (C, ..)) -/
def rIsXT (K : PySem.W.Frag) (S : Addr → Prop) : List V → Hp → VK → Prop := fun xs H Q => ∃ (a C tp : Addr) (v : V) (cs : List V) (us : List Value) (b : Bool), xs = [.ref a, .ref tp] ∧ S C ∧ ErrK H C a v ∧ H tp = some (.tup cs) ∧
  (∀ ws, Vals cs ws → ws = us) ∧ PySem.W.kitAny K (.ref C) us = some b ∧ Q (.bl b) H
theorem call_isXT {X : Cx} {S : Addr → Prop} (T : ∀ c, S c → ∃ fI x, ExT X.K X.mg c fI x) : CallR X (.builtin "isinstance") (rIsXT X.K S) := by
  intro pins s σ H xs us Q I r h
  obtain ⟨a, C, tp, v, cs, ws, b, rfl, sc, ea, ht, hcs, e, q⟩ := h
  obtain ⟨u1, u2, rfl, r1, r2⟩ := vals2 r
  cases (show u1 = Value.ref a from r1)
  cases (show u2 = Value.ref tp from r2)
  obtain ⟨fI, y, T⟩ := T C sc
  obtain ⟨oe, od, w, J, _⟩ := errK_inst I ea
  obtain ⟨_, its, rv, o, h1, h2, n, h3⟩ := (show ObjOk X.prog X.w H s.heap tp (.tup cs) from I.hok tp _ ht)
  have e3 := hcs _ rv
  subst e3
  obtain ⟨oc, od2, dt, sl⟩ := o
  simp only at h2 h3
  subst h2 h3
  exact PySem.W.kia_tup (err_kit T) I.kIn ⟨_, _, J⟩ h1 e (fun z => nomatch z) fun tk => ⟨.bl b, H, I.tok tk, rfl, q⟩
theorem vals_refs : ∀ {cs : List Addr} {ws : List Value}, Vals (cs.map V.ref) ws → ws = cs.map Value.ref
  | [], _, .nil => rfl
  | c :: cs, _, .cons a b => by
    cases (show _ = Value.ref c from a)
    rw [vals_refs b]
    rfl
end Gd

set_option Elab.async false
set_option linter.all false
set_option maxRecDepth 100000
set_option maxHeartbeats 4000000
set_option autoImplicit false
namespace Gd
open PySem PySem.Spec PyProof.Rows L2

/-! ### the end of a list's walk where an exception is handled -/
theorem next_list_endH {prog : Program} {w : World} {A : Around} {E : Value → Shared → Prop} {s : Shared} {it l x1 : Addr} {i : Nat} {items : Array Value} {Q : Option Value → Shared → Prop}
    (hot : HotX.HotAt A x1 s.heap) (ne : x1 ≠ it) (hit : s.heap.IsListIter it l i) (hl : s.heap.IsList l items) (hx : items[i]? = none)
    (hQ : ∀ h', Heap.ExtBut it s.heap h' → Q none { heap := h', gens := s.gens, drawn := s.drawn, toks := s.toks, os := s.os }) :
    wpAny (model prog w) A (pyNext (.ref it)) Q E s := by
  obtain ⟨o, ho, hc, hd⟩ := id hit
  obtain ⟨ol, hol, hcl, nl, hdl⟩ := id hl
  obtain ⟨hh, o1, vs1, h1, d1, c1⟩ := hot
  unfold pyNext
  refine wpAny_bind (wpAny_attempt (wpAny_callSpecial?_slot (Heap.IsListIter.typeIs hit) slot_listiter_next (wpAny_call_entry slot_listiter_next (Heap.IsListIter.typeIs hit) entry_listiter_next ?_)))
  refine wpAny_bind (wpAny_of_eq rfl (wpAny_bind (wpAny_field ho hd rfl ?_)))
  dsimp only
  rw [if_neg (by simp)]
  refine wpAny_bind (wpAny_field ho hd rfl ?_)
  refine wpAny_bind (wpAny_seqItems hol hdl ?_)
  dsimp only
  rw [show ((i : Int).toNat) = i from rfl, hx]
  dsimp only
  refine wpAny_bind (wpAny_rule (wpAny_bind (wpAny_setField ho hd (by simp) ?_)))
  have k1 : (s.heap.update it (Obj.mapFields fun x => x.setIfInBounds 0 .none)).get? x1 = some o1 := by
    rw [Heap.get?_update_other _ _ ne.symm]
    exact h1
  refine wpAny_bind (wpAny_bind (wpAny_newObj_type (wpAny_bind (wpAny_of_eq (Eq.refl (firstArgMember (.type "StopIteration") [])) (wpAny_newObj_type ?_)))))
  have get2 := Heap.get?_push_size (((s.heap.update it (Obj.mapFields fun x => x.setIfInBounds 0 .none)).push { cls := .type "tuple", data := .seq #[] }))
    (o := { cls := .type "StopIteration", data := .fields (#[.ref (s.heap.update it (Obj.mapFields fun x => x.setIfInBounds 0 .none)).objs.size, .none, .none, .none, .bool false, .none] ++ ownMembersOf (.type "StopIteration") []) }) rfl
  have k2 := Heap.get?_push_of_some { cls := .type "tuple", data := .seq #[] } k1
  refine HotX.raiseNew_hot ⟨hh, o1, vs1, Heap.get?_push_of_some _ k2, d1, c1⟩ (Nat.ne_of_lt (Heap.lt_size k2)) get2 rfl (by simp; omega) ?_
  refine wpAny_bind (wpAny_isInstance (T := "StopIteration") ⟨_, Heap.get?_update_self _ get2 rfl, rfl⟩ isSubtype_stop ?_)
  refine wpAny_pure (hQ _ fun b ob nb eb => ?_)
  have nb2 := Heap.lt_size (Heap.get?_push_of_some { cls := .type "tuple", data := .seq #[] } ((Heap.get?_update_other s.heap (Obj.mapFields fun x => x.setIfInBounds 0 .none) nb.symm).trans eb))
  show Heap.get? _ b = some ob
  rw [Heap.get?_update_other _ _ (Nat.ne_of_lt nb2).symm]
  exact Heap.get?_push_of_some _ (Heap.get?_push_of_some _ ((Heap.get?_update_other _ _ nb.symm).trans eb))
/-! ### the end of a tuple's walk, and a tuple unpacked, there -/
theorem next_tuple_endH {prog : Program} {w : World} {A : Around} {E : Value → Shared → Prop} {s : Shared} {it l x1 : Addr} {i : Nat} {items : Array Value} {Q : Option Value → Shared → Prop}
    (hot : HotX.HotAt A x1 s.heap) (ne : x1 ≠ it) (hit : s.heap.IsTupleIter it l i) (hl : IsTup s.heap l items) (hx : items[i]? = none)
    (hQ : ∀ h', Heap.ExtBut it s.heap h' → Q none { heap := h', gens := s.gens, drawn := s.drawn, toks := s.toks, os := s.os }) :
    wpAny (model prog w) A (pyNext (.ref it)) Q E s := by
  obtain ⟨o, ho, hc, hd⟩ := id hit
  obtain ⟨ol, hol, hcl, nl, hdl⟩ := id hl
  obtain ⟨hh, o1, vs1, h1, d1, c1⟩ := hot
  unfold pyNext
  refine wpAny_bind (wpAny_attempt (wpAny_callSpecial?_slot (Heap.IsTupleIter.typeIs hit) F.slot_tuple_iterator_next (wpAny_call_entry F.slot_tuple_iterator_next (Heap.IsTupleIter.typeIs hit) F.entry_tuple_iterator_next ?_)))
  refine wpAny_bind (wpAny_of_eq rfl (wpAny_bind (wpAny_field ho hd rfl ?_)))
  dsimp only
  rw [if_neg (by simp)]
  refine wpAny_bind (wpAny_field ho hd rfl ?_)
  refine wpAny_bind (wpAny_seqItems hol hdl ?_)
  dsimp only
  rw [show ((i : Int).toNat) = i from rfl, hx]
  dsimp only
  refine wpAny_bind (wpAny_rule (wpAny_bind (wpAny_setField ho hd (by simp) ?_)))
  have k1 : (s.heap.update it (Obj.mapFields fun x => x.setIfInBounds 0 .none)).get? x1 = some o1 := by
    rw [Heap.get?_update_other _ _ ne.symm]
    exact h1
  refine wpAny_bind (wpAny_bind (wpAny_newObj_type (wpAny_bind (wpAny_of_eq (Eq.refl (firstArgMember (.type "StopIteration") [])) (wpAny_newObj_type ?_)))))
  have get2 := Heap.get?_push_size (((s.heap.update it (Obj.mapFields fun x => x.setIfInBounds 0 .none)).push { cls := .type "tuple", data := .seq #[] }))
    (o := { cls := .type "StopIteration", data := .fields (#[.ref (s.heap.update it (Obj.mapFields fun x => x.setIfInBounds 0 .none)).objs.size, .none, .none, .none, .bool false, .none] ++ ownMembersOf (.type "StopIteration") []) }) rfl
  have k2 := Heap.get?_push_of_some { cls := .type "tuple", data := .seq #[] } k1
  refine HotX.raiseNew_hot ⟨hh, o1, vs1, Heap.get?_push_of_some _ k2, d1, c1⟩ (Nat.ne_of_lt (Heap.lt_size k2)) get2 rfl (by simp; omega) ?_
  refine wpAny_bind (wpAny_isInstance (T := "StopIteration") ⟨_, Heap.get?_update_self _ get2 rfl, rfl⟩ isSubtype_stop ?_)
  refine wpAny_pure (hQ _ fun b ob nb eb => ?_)
  have nb2 := Heap.lt_size (Heap.get?_push_of_some { cls := .type "tuple", data := .seq #[] } ((Heap.get?_update_other s.heap (Obj.mapFields fun x => x.setIfInBounds 0 .none) nb.symm).trans eb))
  show Heap.get? _ b = some ob
  rw [Heap.get?_update_other _ _ (Nat.ne_of_lt nb2).symm]
  exact Heap.get?_push_of_some _ (Heap.get?_push_of_some _ ((Heap.get?_update_other _ _ nb.symm).trans eb))

theorem unpackItemsH {prog : Program} {w : World} {A : Around} {E : Value → Shared → Prop} {s : Shared} {t x1 : Addr} {items : Array Value} {Q : List Value → Shared → Prop}
    (hot : HotX.HotAt A x1 s.heap) (ht : IsTup s.heap t items)
    (hQ : ∀ h', Heap.ExtBut s.heap.objs.size s.heap h' → Q items.toList { heap := h', gens := s.gens, drawn := s.drawn, toks := s.toks, os := s.os }) :
    wpAny (model prog w) A (unpackItems (.ref t) items.size none) Q E s := by
  obtain ⟨hh, o1, vs1, h1, d1, c1⟩ := hot
  have lx : x1 < s.heap.objs.size := Heap.lt_size h1
  have hlt : t ≠ s.heap.objs.size := by
    obtain ⟨o, ho, _⟩ := ht
    exact Nat.ne_of_lt (Heap.lt_size ho)
  unfold unpackItems notIterableAtAll
  refine wpAny_bind (wpAny_bind (wpAny_specialOf (IsTup.typeIs ht) slot_tuple_iter.lookup (wpAny_pure ?_)))
  dsimp only
  rw [if_neg (by simp)]
  refine wpAny_bind (wpAny_holding (iter_tuple ht (wpAny_bind (wpAny_holding (draw_tuple hlt items.size 0 _ _ ⟨_, Heap.get?_push_size s.heap rfl, rfl, rfl⟩ (IsTup.push ht _) (by omega) fun h2 hit2 hs2 => ?_)))))
  have hall : List.take items.size (List.drop 0 items.toList) = items.toList := by
    rw [List.drop_zero]
    exact List.take_of_length_le (by simp)
  rw [hall, if_neg (by simp)]
  have g2 : ∀ b ob, s.heap.get? b = some ob → h2.get? b = some ob := fun b ob e => by
    have nb : b ≠ s.heap.objs.size := Nat.ne_of_lt (Heap.lt_size e)
    rw [hs2.2 b nb]
    exact Heap.get?_push_of_some _ e
  refine wpAny_bind (wpAny_holding (next_tuple_endH (x1 := x1) ⟨hh, o1, vs1, g2 _ _ h1, d1, c1⟩ (Nat.ne_of_lt lx) hit2 (IsTup.extBut (IsTup.push ht _) hs2.extBut hlt) (by simp) fun h3 e3 => ?_))
  exact wpAny_pure (hQ _ fun b ob nb e => e3 b ob nb (g2 b ob e))
theorem pg_tupH {X : Cx} {pos : Pos} {es : List Expr} {k : Nat} {t : TGs} {n : Nat} (hot : ∀ pins s σ H, Inv X pins σ H s → ∃ x1, HotX.HotAt X.A x1 s.heap) (h : PGs X es t)
    (hn : (assignEach es X.env).length = n := by rfl) (hp : List.findIdx? (fun x => x.1) (assignEach es X.env) = none := by rfl) : PG X (.Tuple es k pos) (gTup X.K n t) := by
  refine ⟨fun pins s σ H v u Q I r q => ?_⟩
  obtain ⟨a, xs, rfl, sq, ln, q⟩ := q
  cases (show u = Value.ref a from r)
  obtain ⟨its, rv, tp, sz⟩ := I.tuple sq
  obtain ⟨x1, hx⟩ := hot _ _ _ _ I
  have sx : its.toArray.size = n := by rw [List.size_toArray, ← ln]; exact (Paired.length rv).symm
  rw [assign_Tuple]
  refine wpAny_bind (wpAny_standAt ?_)
  unfold unpack
  rw [hp, hn, ← sx]
  refine wpAny_bind (wpAny_holding (unpackItemsH hx tp fun h' e => ?_))
  refine h.run pins _ σ H xs its Q ?_ rv q
  exact I.kept fun b ob e2 => e b ob (Nat.ne_of_lt (Heap.lt_size e2)) e2
end Gd

set_option Elab.async false
set_option linter.all false
set_option maxRecDepth 100000
set_option maxHeartbeats 4000000
set_option autoImplicit false
namespace Gd
open PySem PySem.Spec PyProof.Rows L2

/-! ### a list comprehension over a list where an exception is handled -/
theorem lc_coreH {X : Cx} {p : Addr × Obj} {pins : List (Addr × Obj)} {s : Shared} {σ : L2.St} {H : Hp} {Q : VK} {elt tg iter : Expr} {ifs : List Expr} {scope : Scope} {own : List (Str × Nat)} {pos pos' : Pos} {ti : TE} {g : TG} {tt : TT} {te : TE}
    {use : Option (Value → Sem Unit)} {Qf : Value → Shared → Prop}
    (h1 : L2H.Hot1 X.A p) (hp : p ∈ X.pn) (hN : X.N.Nodup) (I : Inv X pins σ H s) (hi : PE X iter ti) (ok : BlkOk X.N X.env.scope scope own)
    (hg : ∀ (s : Shared) (H : Hp) (C : Addr) (cl : List (Str × Addr)) (fp : List Addr),
      (∀ pins s' σ H', Inv (X.blk s H scope (compEnvC scope cl C X.env) fp) pins σ H' s' → ∃ x1, HotX.HotAt X.A x1 s'.heap) → PG (X.blk s H scope (compEnvC scope cl C X.env) fp) tg g)
    (ht : ∀ (s : Shared) (H : Hp) (C : Addr) (cl : List (Str × Addr)) (fp : List Addr), PTs (X.blk s H scope (compEnvC scope cl C X.env) fp) ifs tt)
    (he : ∀ (s : Shared) (H : Hp) (C : Addr) (cl : List (Str × Addr)) (fp : List Addr), PE (X.blk s H scope (compEnvC scope cl C X.env) fp) elt te)
    (hs : ∀ x, foldedSetIterable iter X.env x = pure x) (h : tLc (iList X.K ti) g tt te (own.map (·.2)) σ H Q)
    (hRR : ∀ (D C : Addr) (s' : Shared) (m : Str → Option Value) (H' : Hp), Inv X pins σ H' s' → Q (V.ref D) H' → s'.heap.Ns C m → FpOk X pins H' C → compPost (model X.prog X.w) X.A X.xe use Qf (.ref D) C (.ok .next) s') :
    wpAny (model X.prog X.w) X.A (comprehension (elt.ListComp [{ target := tg, iter := iter, ifs := ifs, is_async := 0 }] scope pos) scope X.env pos' (newList []) false (eval iter X.env) use) Qf X.xe s := by
  have hfree : ∀ y ∈ scope.names, y.2 = .free → ∃ c, X.env.cells.lookup y.1 = some c := fun y hy e => (ok.free y hy e).elim (fun k => I.ok.has y.1 (.inl k)) (fun k => I.ok.has y.1 (.inr k))
  refine wpAny_comprehension_free (cl := cloFrom X.env.cells scope.names []) rfl hs (closure_ok hfree) ok.kind (fun y hy e => by rw [ok.uniq y hy, e]) ?_
  refine thn (hi.run pins s σ H _ I h) fun u s1 got => ?_
  obtain ⟨xv, H1, I1, rx, a, rfl, ⟨xs0, sq0⟩, q⟩ := got
  cases (show u = Value.ref a from rx)
  obtain ⟨its0, rv0, pl0, sz0⟩ := I1.list sq0
  obtain ⟨gp, hpn, pL, pfs, pnc⟩ := I1.pin p (List.mem_append_left _ hp)
  refine wpAny_pyIter_list pl0.isList ?_
  have pit : p.1 < s1.heap.objs.size := Heap.lt_size gp
  have nit : H1 s1.heap.objs.size = none := I1.hok.fresh (Nat.le_refl _)
  have I2 := I1.kept (t' := s1.toks) (h' := s1.heap.push { cls := .type "list_iterator", data := .fields #[.ref a, .int 0 0] }) fun b o e => Heap.get?_push_of_some _ e
  have fp1 : ∀ H', H' s1.heap.objs.size = none → FpOk X pins H' s1.heap.objs.size := fun H' e => Inv.fpOk I1 (Nat.le_refl _) e
  have li2 : (s1.heap.push { cls := .type "list_iterator", data := .fields #[.ref a, .int 0 0] }).IsListIter s1.heap.objs.size a 0 := ⟨_, Heap.get?_push_size _ rfl, rfl, rfl⟩
  have sz2 : s1.heap.objs.size < (s1.heap.push { cls := .type "list_iterator", data := .fields #[.ref a, .int 0 0] }).objs.size := by rw [Heap.size_push]; exact Nat.lt_succ_self _
  have gp2 : (s1.heap.push { cls := .type "list_iterator", data := .fields #[.ref a, .int 0 0] }).get? p.1 = some p.2 := Heap.get?_push_of_some _ gp
  generalize hit : s1.heap.objs.size = it at *
  generalize hh2 : s1.heap.push { cls := .type "list_iterator", data := .fields #[.ref a, .int 0 0] } = h2 at *
  refine wpAny_newObj_type (newEnv_comp ?_)
  have hDn : H1 h2.objs.size = none := I2.hok.fresh (Nat.le_refl _)
  obtain ⟨W, ⟨m0, w0⟩, turn⟩ := q h2.objs.size hDn
  have I3 := I2.laid (t' := s1.toks) (h' := h2.push { cls := .type "list", data := .seq #[] }) (a := h2.objs.size) (o := .lst []) (fun b o e => Heap.get?_push_of_some _ e) (Nat.le_refl _)
    ⟨Nat.zero_le _, [], 0, .nil, Heap.get?_push_size _ rfl⟩
  have itD : it ≠ h2.objs.size := Nat.ne_of_lt sz2
  have f3 : ∀ b ∈ [it], FpOk X pins (upd H1 h2.objs.size (.lst [])) b ∧ b < (h2.push { cls := .type "list", data := .seq #[] }).objs.size := fun b hb => by
    obtain rfl : b = it := by simpa using hb
    refine ⟨fp1 _ (by rw [upd_ne itD]; exact nit), ?_⟩
    rw [Heap.size_push]
    exact Nat.lt_succ_of_lt sz2
  have I4 := block_start I3 ok hN f3
  have gp3 : (h2.push { cls := .type "list", data := .seq #[] }).get? p.1 = some p.2 := Heap.get?_push_of_some _ gp2
  have li3 : (h2.push { cls := .type "list", data := .seq #[] }).IsListIter it a 0 := by
    obtain ⟨o, e, r⟩ := li2
    exact ⟨o, Heap.get?_push_of_some _ e, r⟩
  have pD : p.1 ≠ h2.objs.size := Nat.ne_of_lt (Heap.lt_size gp2)
  have pst : p.1 ∉ frs X.stack := by
    rcases I.ok.stk with e | ⟨e, f⟩
    · rw [e]; exact pfs
    · rw [e]
      intro m
      rcases List.mem_filterMap.mp m with ⟨en, me, ee⟩
      rcases List.mem_cons.mp me with rfl | me
      · rw [f] at ee
        exact pL (Option.some.inj ee).symm
      · exact pfs (List.mem_filterMap.mpr ⟨en, me, ee⟩)
  have h3p : upd H1 h2.objs.size (.lst []) p.1 = none := by rw [upd_ne pD]; exact hpn
  have itp : p.1 ≠ it := Nat.ne_of_lt pit
  have nCx : ∀ H', H' (h2.push { cls := .type "list", data := .seq #[] }).objs.size = none → FpOk X pins H' (h2.push { cls := .type "list", data := .seq #[] }).objs.size := fun H' e => Inv.fpOk I3 (Nat.le_refl _) e
  generalize hD : h2.objs.size = D at *
  generalize hh3 : h2.push { cls := .type "list", data := .seq #[] } = h3 at *
  have f3' := fun b hb => (f3 b hb).1
  have st4 : (pushCells (h3.push { cls := .type "dict", data := .dict #[] }) scope.names).IsListIter it a 0 := by
    obtain ⟨o, e, r⟩ := li3
    exact ⟨o, pushCells_keeps _ _ _ _ (Heap.get?_push_of_some _ e), r⟩
  have hotB : ∀ pins' s' σ' H', Inv (X.blk { heap := h3, gens := s1.gens, drawn := s1.drawn, toks := s1.toks, os := s1.os } (upd H1 D (.lst [])) scope (compEnvC scope (cellsFrom (h3.objs.size + 1) scope.names (cloFrom X.env.cells scope.names [])) h3.objs.size X.env) [it]) pins' σ' H' s' → HotX.HotAt X.A p.1 s'.heap := fun pins' s' σ' H' J => by
    obtain ⟨hh, vs, e1, c1⟩ := h1
    refine ⟨hh, p.2, vs, J.base.keep p.1 p.2 gp3 h3p pst ?_, e1, c1⟩
    simpa using itp
  have pg := hg { heap := h3, gens := s1.gens, drawn := s1.drawn, toks := s1.toks, os := s1.os } (upd H1 D (.lst [])) h3.objs.size (cellsFrom (h3.objs.size + 1) scope.names (cloFrom X.env.cells scope.names [])) [it] (fun _ _ _ _ J => ⟨_, hotB _ _ _ _ J⟩)
  have pt := ht { heap := h3, gens := s1.gens, drawn := s1.drawn, toks := s1.toks, os := s1.os } (upd H1 D (.lst [])) h3.objs.size (cellsFrom (h3.objs.size + 1) scope.names (cloFrom X.env.cells scope.names [])) [it]
  have pe := he { heap := h3, gens := s1.gens, drawn := s1.drawn, toks := s1.toks, os := s1.os } (upd H1 D (.lst [])) h3.objs.size (cellsFrom (h3.objs.size + 1) scope.names (cloFrom X.env.cells scope.names [])) [it]
  generalize hcl : cellsFrom (h3.objs.size + 1) scope.names (cloFrom X.env.cells scope.names []) = cl at *
  have loop := compLoop_any (prog := X.prog) (w := X.w) (A := X.A) (elt := elt) (target := tg) (iter := iter) (ifs := ifs) (scope := scope) (pos := pos) (it := .ref it) (acc := .ref D) (env := compEnvC scope cl h3.objs.size X.env)
    (R := compPost (model X.prog X.w) X.A X.xe use Qf (.ref D) h3.objs.size)
    (fun n s' => ∃ i H', Inv (X.blk { heap := h3, gens := s1.gens, drawn := s1.drawn, toks := s1.toks, os := s1.os } (upd H1 D (.lst [])) scope (compEnvC scope cl h3.objs.size X.env) [it]) [] (wipe σ (own.map (·.2))) H' s' ∧ s'.heap.IsListIter it a i ∧ H' it = none ∧ W i n H') ?step m0
    ⟨0, _, I4, st4, by rw [upd_ne itD]; exact nit, w0⟩
  · refine codeAny_compStart_list loop (wpAny_pyIter_listiter st4 loop)
  · rintro n s5 ⟨i, H5, I5, st5, n5, w5⟩
    have exI : ∀ {b}, b ∈ [it] → b = it := fun {b} hb => by simpa using hb
    have itL : it ≠ (compEnvC scope cl h3.objs.size X.env).locals := (I5.ok.exf it (by simp)).1
    have itC : ∀ (x : Str) (c : Addr), (compEnvC scope cl h3.objs.size X.env).cells.lookup x = some c → c ≠ it := (I5.ok.exf it (by simp)).2
    rcases turn i n H5 w5 with ⟨stop, qq⟩ | ⟨go, Nx, hNx, step⟩
    · obtain ⟨xs, sq, le⟩ := stop
      obtain ⟨its, rv, pl, sz⟩ := I5.list sq
      refine next_list_endH (hotB _ _ _ _ I5) itp st5 pl.isList (by simp; rw [← Paired.length rv]; exact le) fun h' eb => ?_
      have I6 := I5.turned (t' := s5.toks) (h' := h') (it := it) eb n5 itL (.inl (by simp)) itC (fun q hq => by simp at hq)
      have I7 := Inv.call' I3 I6.os I6.base I6.hok I6.bare (fun b hb => by
        have F := f3' b hb
        exact ⟨F.2.2.2.1, F.2.1, F.2.2.2.2.1, F.2.2.2.2.2⟩)
      obtain ⟨m, hn, _⟩ := I6.loc
      have nC : H5 h3.objs.size = none := I6.free
      exact hRR D h3.objs.size _ m H5 I7 qq hn (nCx H5 nC)
    · obtain ⟨xs, x, sq, ex⟩ := go
      obtain ⟨its, rv, pl, sz⟩ := I5.list sq
      obtain ⟨u, eu, ru⟩ := rv.get ex
      refine wpAny_pyNext_list_item st5 pl.isList (x := u) (by simpa using eu) fun h' it' sb => ?_
      have I6 := I5.turned (t' := s5.toks) (h' := h') (it := it) (fun b o nb e => (sb.2 b nb).trans e) n5 itL (.inl (by simp)) itC (fun q hq => by simp at hq)
      obtain ⟨o6, g6, c6, d6⟩ := id it'
      dsimp only
      refine go_of (n := "list_iterator") (vs := #[.ref a, .int ((i + 1 : Nat) : Int) 0]) g6 c6 d6 (by decide) ?_
      have d0 := step x H5 ⟨rfl, fun xs' sq' => by rw [I5.list_inj sq' sq]; exact ex⟩
      have I7 := I6.pinned (fp := [it]) (fun b hb => by
        obtain rfl := exI hb
        exact ⟨n5, itL, I5.ok.exfs b (by simp), .inl (by simp), itC, fun q hq => by simp at hq⟩) (fun b hb => by
        obtain rfl := exI hb
        exact ⟨o6, g6, fun v z => by rw [d6] at z; cases z⟩)
      refine thnF (pg.run _ _ _ _ x u _ I7 ru d0) fun _ s8 got8 => ?_
      obtain ⟨σ2, H8, I8, wz, q8⟩ := got8
      have fin : ∀ s' H', Inv (X.blk { heap := h3, gens := s1.gens, drawn := s1.drawn, toks := s1.toks, os := s1.os } (upd H1 D (.lst [])) scope (compEnvC scope cl h3.objs.size X.env) [it]) ([] ++ pinsAt [it] h') σ2 H' s' → Nx H' →
          ∃ m, m < n ∧ ∃ i H', Inv (X.blk { heap := h3, gens := s1.gens, drawn := s1.drawn, toks := s1.toks, os := s1.os } (upd H1 D (.lst [])) scope (compEnvC scope cl h3.objs.size X.env) [it]) [] (wipe σ (own.map (·.2))) H' s' ∧ s'.heap.IsListIter it a i ∧ H' it = none ∧ W i m H' := fun s' H' J nx => by
        obtain ⟨m', lt, w'⟩ := hNx _ nx
        obtain ⟨g7, n7, _⟩ := J.pin (it, o6) (List.mem_append_right _ (List.mem_append_right _ (mem_pinsAt (by simp) g6)))
        refine ⟨m', lt, i + 1, H', (Inv.unpinned J).weak ?_ (fun k v e => ?_), ⟨o6, g7, c6, d6⟩, n7, w'⟩
        · rw [← wz, wipe_length]
        · rw [← wz] at e
          exact (wipe_some e).1
      refine thnF (pt.run _ _ _ _ _ I8 q8) fun b s9 got9 => ?_
      obtain ⟨H9, I9, q9⟩ := got9
      cases b with
      | false => exact fin _ _ I9 q9
      | true =>
        refine thnF (pe.run _ _ _ _ _ I9 q9) fun y s10 got10 => ?_
        obtain ⟨yv, H10, I10, ry, acc, eD, szA, nx⟩ := got10
        exact app_ok (X := X.blk { heap := h3, gens := s1.gens, drawn := s1.drawn, toks := s1.toks, os := s1.os } (upd H1 D (.lst [])) scope (compEnvC scope cl h3.objs.size X.env) [it]) I10 eD szA ry fun s11 I11 => fin _ _ I11 nx
theorem pe_lcH {X : Cx} {p : Addr × Obj} {elt tg iter : Expr} {ifs : List Expr} {scope : Scope} {own : List (Str × Nat)} {pos : Pos} {ti : TE} {g : TG} {tt : TT} {te : TE}
    (h1 : L2H.Hot1 X.A p) (hp : p ∈ X.pn) (hN : X.N.Nodup) (hi : PE X iter ti) (ok : BlkOk X.N X.env.scope scope own)
    (hg : ∀ (s : Shared) (H : Hp) (C : Addr) (cl : List (Str × Addr)) (fp : List Addr),
      (∀ pins s' σ H', Inv (X.blk s H scope (compEnvC scope cl C X.env) fp) pins σ H' s' → ∃ x1, HotX.HotAt X.A x1 s'.heap) → PG (X.blk s H scope (compEnvC scope cl C X.env) fp) tg g)
    (ht : ∀ (s : Shared) (H : Hp) (C : Addr) (cl : List (Str × Addr)) (fp : List Addr), PTs (X.blk s H scope (compEnvC scope cl C X.env) fp) ifs tt)
    (he : ∀ (s : Shared) (H : Hp) (C : Addr) (cl : List (Str × Addr)) (fp : List Addr), PE (X.blk s H scope (compEnvC scope cl C X.env) fp) elt te)
    (hs : ∀ x, foldedSetIterable iter X.env x = pure x := by intro x; rfl) :
    PE X (.ListComp elt [{ target := tg, iter := iter, ifs := ifs, is_async := 0 }] scope pos) (tLc (iList X.K ti) g tt te (own.map (·.2))) := by
  refine ⟨fun pins s σ H Q I h => ?_⟩
  rw [eval_ListComp]
  refine lc_coreH h1 hp hN I hi ok hg ht he hs h fun D C s' m H' I' q hn f => ⟨m, hn, fun h'' sb => ?_⟩
  exact ⟨.ref D, H', I'.turned (fun b o nb e => (sb.2 b nb).trans e) f.1 f.2.1 f.2.2.2.1 f.2.2.2.2.1 f.2.2.2.2.2, rfl, q⟩
theorem ps_setLcH {X : Cx} {p : Addr × Obj} {i : Nat} {y : Str} {py : Pos} {elt tg iter : Expr} {ifs : List Expr} {scope : Scope} {own : List (Str × Nat)} {pos spos : Pos} {ti : TE} {g : TG} {tt : TT} {te : TE}
    (h1 : L2H.Hot1 X.A p) (hp : p ∈ X.pn) (hN : X.N.Nodup) (hy : X.N[i]? = some y) (hyl : X.env.scope.names.lookup y = some .local)
    (hsw : swapsWith (elt.ListComp [{ target := tg, iter := iter, ifs := ifs, is_async := 0 }] scope pos) (some (.Name y py)) spos.line X.env = pure true) (hi : PE X iter ti) (ok : BlkOk X.N X.env.scope scope own)
    (hg : ∀ (s : Shared) (H : Hp) (C : Addr) (cl : List (Str × Addr)) (fp : List Addr),
      (∀ pins s' σ H', Inv (X.blk s H scope (compEnvC scope cl C X.env) fp) pins σ H' s' → ∃ x1, HotX.HotAt X.A x1 s'.heap) → PG (X.blk s H scope (compEnvC scope cl C X.env) fp) tg g)
    (ht : ∀ (s : Shared) (H : Hp) (C : Addr) (cl : List (Str × Addr)) (fp : List Addr), PTs (X.blk s H scope (compEnvC scope cl C X.env) fp) ifs tt)
    (he : ∀ (s : Shared) (H : Hp) (C : Addr) (cl : List (Str × Addr)) (fp : List Addr), PE (X.blk s H scope (compEnvC scope cl C X.env) fp) elt te)
    (hs : ∀ x, foldedSetIterable iter X.env x = pure x := by intro x; rfl) :
    PS X (.Assign [.Name y py] (elt.ListComp [{ target := tg, iter := iter, ifs := ifs, is_async := 0 }] scope pos) spos) (tAsg (tLc (iList X.K ti) g tt te (own.map (·.2))) (gName i)) := by
  refine ⟨fun pins s σ H D I h => ?_⟩
  rw [exec_Assign_Name_used y py _ spos hsw]
  refine wpAny_bind (wpAny_standAt (wpAny_bind (wpAny_bind (thn (lc_coreH h1 hp hN I hi ok hg ht he hs h fun L C s' m H' I' q hn f => ?_) fun x s' hq => wpAny_pure (wpAny_pure hq)))))
  refine wpAny_assign_Name (store_ok2 (v := .ref L) I' hN hy (.inl hyl) rfl (fun s2 I2 x => ?_) (.inr hyl))
  obtain ⟨a, sb, ha⟩ := x
  obtain ⟨f0, f1, f2, f3, f4, f5⟩ := f
  have haC : C ≠ a := ha.elim (fun z => by rw [z]; exact f1) fun z e => f4 y a z e.symm
  refine ⟨m, Heap.Ns.sameBut hn sb haC, fun h3 sb3 => ⟨_, _, I2.turned (fun b o hb e => (sb3.2 b hb).trans e) f0 f1 f3 f4 f5, q⟩⟩
end Gd

set_option Elab.async false
set_option linter.all false
set_option maxRecDepth 100000
set_option maxHeartbeats 4000000
set_option autoImplicit false
namespace Gd
open PySem PySem.Spec PyProof.Rows L2

/-! ### raising what has no chain -/
theorem takes0N {X : Cx} : L2N.Takes X (fun _ _ _ _ => False) := fun u s' h => by
  obtain ⟨_, _, _, _, _, _, _, _, _, _, _, _, _, _, _, _, no⟩ := h
  exact no.elim
section
variable {X : Cx} {x qual : Str} {st : Stmt} {ps : List Str} {sp : Sp} {k j : Nat} {e : Expr} {es : List Expr} {ta t : TA} {p pos pos2 : Pos} {C fI : Addr} {W : WX}
theorem pmk_oexN (T : ExT X.K X.mg C fI x) (D : DnI X.prog X.w X.K X.mg X.base k fI qual st ps sp) (hr : Room j X.A) (hg : Gl X x) (ha : PA X (e :: es) ta) (hk : k + 1 ≤ j := by decide)
    (hdb : (x == ("__debug__" : Str)) = false := by decide) (he : starEach (e :: es) X.env = (false, eval e X.env) :: starEach es X.env := by rfl)
    (hpl : (backTo pos (starEach es X.env)).any (·.1) = false := by rfl) :
    L2N.PMk X (.Call (.Name x p) (e :: es) [] pos) (tMkO C sp [] ta) := by
  obtain ⟨fd, F, b, ok⟩ := D.ex
  have hr' := hr.mono hk
  intro pins s σ H Q I h
  obtain ⟨nm, q, N, bs, bm, sn, sub, ab, col, dd, k0, k1, k2, k3, k5, hC, hbm⟩ := T.ox.cls
  refine wpAny_Call_Name_kw (ld_glob I hg T.mg_ ?_ hdb)
  refine PySem.W.callWith_K (h₀ := X.base) I.ok.mod.kin T.ox.kC (thn (ha.run pos pins s σ H _ I h) fun us s1 got => ?_) he hpl
  obtain ⟨vs, H1, I1, r1, hz, q1⟩ := got
  refine ⟨I1.kIn, ?_⟩
  show wpAny _ _ (call (.ref C) us) _ _ _
  obtain ⟨hp, g, dr, tk, os⟩ := s1
  have big : hp.objs.size ≤ hp.objs.size + 1 := Nat.le_succ _
  have new : H1 (hp.objs.size + 1) = none := I1.hok.fresh big
  have hq := q1 (hp.objs.size + 1) new
  rw [List.append_nil] at hq
  have grow : ∀ b o, hp.get? b = some o → ((hp.push (PySem.W.kdv_tup us)).push (PySem.HandSPX.excO C hp.objs.size)).get? b = some o := fun b o z => Heap.get?_push_of_some _ (Heap.get?_push_of_some _ z)
  have there : ((hp.push (PySem.W.kdv_tup us)).push (PySem.HandSPX.excO C hp.objs.size)).get? (hp.objs.size + 1) = some (PySem.HandSPX.excO C hp.objs.size) := by heap_get
  have I2 : Inv X pins σ (upd H1 (hp.objs.size + 1) (exo (hp.objs.size + 1) C none)) ⟨(hp.push (PySem.W.kdv_tup us)).push (PySem.HandSPX.excO C hp.objs.size), g, dr, tk, os⟩ := I1.laid (t' := tk) grow big (exo_ok there)
  have r2 : Vals (V.ref (hp.objs.size + 1) :: vs) (Value.ref (hp.objs.size + 1) :: us) := .cons rfl r1
  have cnt : (Value.ref (hp.objs.size + 1) :: us).length = ps.length := by
    rw [← r2.length]
    exact ok.len _ _ _ _ hq
  have bnd : BindsTo ⟨(hp.push (PySem.W.kdv_tup us)).push (PySem.HandSPX.excO C hp.objs.size), g, dr, tk, os⟩ fd ⟨Value.ref (hp.objs.size + 1) :: us, []⟩ (ps.zip (Value.ref (hp.objs.size + 1) :: us)) := by
    have z := b _ (Value.ref (hp.objs.size + 1) :: us) I2.kIn (by simpa using cnt)
    simpa using z
  have few : us.length ≤ sizeLine := by
    rw [← Paired.length r1, sizeLine_eq]
    omega
  refine wpAny_call (PySem.HandSPX.call_own PySem.F.excBase_ValueError (fun Y => PySem.HandSPX.refsVE_contains Y bm hbm) (I1.kIn _ _ hC) (PySem.W.looks_findIn I1.kIn T.iC) (fun self => PySem.W.bind_fn I1.kIn self T.tI) few ?_)
  refine codeAny_mono (ok.run _ X.stack _ _ ⟨Value.ref (hp.objs.size + 1) :: us, []⟩ (Value.ref (hp.objs.size + 1) :: us) _ _ E0 (hr'.make C us []) (I2.env0.make C us []) bnd r2 hq) fun r s' post => ?_
  cases r with
  | error er => exact (post : False).elim
  | ok fl =>
    cases fl with
    | ret u =>
      obtain ⟨v, H2, os2, bare2, un2, hok2, rv, ev, d, fs, ea, ed, hd1, q2⟩ := post
      subst ev
      obtain ⟨h2, g2, d2, t2, os'⟩ := s'
      refine ⟨rv, ?_⟩
      obtain ⟨t0, G, IG, gk, ga, gx, na⟩ := mk_end0 (d2 := d2) (t2 := t2) I1 big grow un2 hok2 os2 bare2 ea ed hd1
      exact ⟨_, _, _, _, _, _, _, rfl, IG, gk, ga, gx, ⟨rfl, rfl, fun vs z => by cases z; rfl⟩, rfl, rfl, na, rfl, bare2, raises_own T.ox.exC T.ox.tyC, q2⟩
    | next => exact (post : False).elim
    | brk => exact (post : False).elim
    | cont => exact (post : False).elim
theorem ps_raiseN (hc : X.calm = true) (T : ExT X.K X.mg C fI x) (D : DnI X.prog X.w X.K X.mg X.base k fI qual st ps sp) (hr : Room j X.A) (tk : L2N.Takes X W) (hg : Gl X x) (ha : PA X (e :: es) ta) (hk : k + 1 ≤ j := by decide)
    (hdb : (x == ("__debug__" : Str)) = false := by decide) (he : starEach (e :: es) X.env = (false, eval e X.env) :: starEach es X.env := by rfl)
    (hpl : (backTo pos (starEach es X.env)).any (·.1) = false := by rfl) :
    PS X (.Raise (some (.Call (.Name x p) (e :: es) [] pos)) none pos2) (fun _ σ H => tMkO C sp [] ta σ H fun cls d H' => W cls d σ H') :=
  L2N.ps_raise hc tk (pmk_oexN T D hr hg ha hk hdb he hpl)
/-- defs that may raise so -/
structure DnN (P : Program) (w : World) (K : PySem.W.Frag) (mg : Str → Option Value) (base : Heap)
    (k : Nat) (x : Str) (st : Stmt) (ps : List Str) (sp : Sp) : Prop where
  ex : ∃ f fd, Fun K x x st f fd ∧ Binds K fd ps [] ∧ mg x = some (.ref f) ∧ FnOk P w K mg base (L2N.CX P w) k f fd ps sp
theorem DnN.mk' {P : Program} {w : World} {K : PySem.W.Frag} {mg : Str → Option Value} {base : Heap} {x : Str} {st : Stmt} {ps : List Str} {k : Nat} {sp : Sp} (h : At K mg x st ps)
    (ok : ∀ f fd, Fun K x x st f fd → FnOk P w K mg base (L2N.CX P w) k f fd ps sp) : DnN P w K mg base k x st ps sp := by
  obtain ⟨f, fd, F, b, g⟩ := h
  exact ⟨f, fd, F, b, g, ok f fd F⟩
theorem okN {P : Program} {w : World} {K : PySem.W.Frag} {mg : Str → Option Value} {base : Heap} {x qual : Str} {st : Stmt} {f : Addr} {fd : FuncData} {N ps : List Str} {k : Nat} {sp : Sp}
    (F : Fun K x qual st f fd) (S : FnScope N ps (defScope st)) (len : ∀ vs H Q E, sp vs H Q E → vs.length = ps.length)
    (hb : ∀ (cdv : Value) (A : Around) (outer : List Env) (s : Shared) (H : Hp) (vs : List V) (Q : VK) (E : XK), Room k (A.deeper (envOfC qual (defScope st) s.heap.objs.size f cdv)) → sp vs H Q E →
      ∃ t, PSs (cxOf (L2N.CX P w) P w K mg base N qual (defScope st) f cdv A outer s H E) (defBody st) t ∧ t { nx := fun _ H' => Q .non H', rt := Q } (start N vs) H) :
    FnOk P w K mg base (L2N.CX P w) (k + 1) f fd ps sp := by
  obtain ⟨oc, od, kV, doc, pm, an, cdv, ct, osl, rfl, lk, cdok⟩ := F.ex
  exact fn_of lk cdok S len fun A outer s H vs Q E rm h => hb cdv A outer s H vs Q E rm h
theorem pe_cN (tk : L2N.Takes X W) (D : DnN X.prog X.w X.K X.mg X.base k x st ps sp) (hr : Room j X.A) (hg : Gl X x) (ha : PA X (e :: es) t) (hk : k ≤ j := by decide)
    (hdb : (x == ("__debug__" : Str)) = false := by decide) (he : starEach (e :: es) X.env = (false, eval e X.env) :: starEach es X.env := by rfl)
    (hpl : (backTo pos (starEach es X.env)).any (·.1) = false := by rfl) :
    PE X (.Call (.Name x p) (e :: es) [] pos) (tCallS sp (WE W) t) := by
  obtain ⟨f, fd, F, b, g, ok⟩ := D.ex
  exact pe_callS ok (hr.mono hk) hg g F.kp b (fun σ => L2N.passAt tk σ) ha hdb he hpl
end

/-! ### a def called in an except suite: what it knows of the exception -/
abbrev SpE := Addr → Value → Option Addr → Sp
structure FnE (P : Program) (w : World) (K : PySem.W.Frag) (mg : Str → Option Value) (base : Heap) (k : Nat) (f : Addr) (fd : FuncData) (ps : List Str) (sp : SpE) : Prop where
  len : ∀ a cls d vs H Q E, sp a cls d vs H Q E → vs.length = ps.length
  run : ∀ (A : Around) (outer : List Env) (s : Shared) (H : Hp) (args : Args) (us : List Value) (vs : List V) (Q : VK) (E : XK) (p : Addr × Obj),
    L2H.RoomH k A → L2H.Hot1 A p → L2H.PinOk outer H s p → Env0 P w K mg base A outer s H → BindsTo s fd args (ps.zip us) → Vals vs us →
    sp p.1 p.2.cls p.2.dict vs H Q E → codeAny (model P w) A (.call (.ref f) args) (CR CX0 outer P w H s Q E) s
structure DnE (P : Program) (w : World) (K : PySem.W.Frag) (mg : Str → Option Value) (base : Heap)
    (k : Nat) (x : Str) (st : Stmt) (ps : List Str) (sp : SpE) : Prop where
  ex : ∃ f fd, Fun K x x st f fd ∧ Binds K fd ps [] ∧ mg x = some (.ref f) ∧ FnE P w K mg base k f fd ps sp
theorem DnE.mk' {P : Program} {w : World} {K : PySem.W.Frag} {mg : Str → Option Value} {base : Heap} {x : Str} {st : Stmt} {ps : List Str} {k : Nat} {sp : SpE} (h : At K mg x st ps)
    (ok : ∀ f fd, Fun K x x st f fd → FnE P w K mg base k f fd ps sp) : DnE P w K mg base k x st ps sp := by
  obtain ⟨f, fd, F, b, g⟩ := h
  exact ⟨f, fd, F, b, g, ok f fd F⟩
theorem okE {P : Program} {w : World} {K : PySem.W.Frag} {mg : Str → Option Value} {base : Heap} {x qual : Str} {st : Stmt} {f : Addr} {fd : FuncData} {N ps : List Str} {k : Nat} {sp : SpE}
    (F : Fun K x qual st f fd) (S : FnScope N ps (defScope st))
    (len : ∀ a cls d vs H Q E, sp a cls d vs H Q E → vs.length = ps.length)
    (hb : ∀ (cdv : Value) (A : Around) (out : List Env) (s : Shared) (H : Hp) (vs : List V) (Q : VK) (E : XK) (p : Addr × Obj),
      L2H.Hot1 A p → L2H.RoomH k (A.deeper (envOfC qual (defScope st) s.heap.objs.size f cdv)) → sp p.1 p.2.cls p.2.dict vs H Q E →
      ∃ t, PSs (L2H.cxH CX0 P w K mg base N qual (defScope st) f cdv A out s H E p).nox (defBody st) t ∧ t { nx := fun _ H' => Q .non H', rt := Q } (start N vs) H) :
    FnE P w K mg base (k + 1) f fd ps sp := by
  obtain ⟨oc, od, kV, doc, pm, an, cdv, ct, osl, rfl, lk, cdok⟩ := F.ex
  constructor
  · exact len
  intro A out s H args us vs Q E p rm hot pin env bnd rel pre
  have pl := len _ _ _ vs H Q E pre
  have keep : ∀ b o, base.get? b = some o → s.heap.get? b = some o := fun b o e => (env.bs b o e).1
  have kin := env.mod.kin.keeps keep
  have nol := env.mod.nolimit.keeps keep
  refine codeAny_call_function rm.depth (kin _ _ lk) rfl S.co S.gen rfl (PySem.W.codeRec_of kin cdok) (bnd _ _ _ _ ?_)
  refine wpAny_newFunctionEnv_cells S.kind ?_ fun en he s1 xx => ?_
  · rintro ⟨nm, val⟩ mem
    cases S.par nm (List.of_mem_zip mem).1 with
    | inl q => exact .inl q
    | inr q => exact .inr ⟨q, PySem.W.cellsFrom_some _ _ _ (.inl q)⟩
  subst he
  refine ⟨nol.keeps xx.toInCall.keep, codeAny_func ?_⟩
  obtain ⟨t, ht, hq⟩ := hb cdv A out s H vs Q E p hot (rm.deeper _) pre
  have J0 := L2H.inv_startH (CX := CX0) (E := E) (qual := qual) (f := f) (cd := cdv) S pin env pl rel xx
  refine wpAny_mono (ht.nox.run [] s1 (start N vs) H _ J0 hq) ?_ (fun _ _ z => z)
  intro fl s' post
  cases fl with
  | next =>
    obtain ⟨_, H', J, q⟩ := post
    exact ⟨.non, H', J.os, J.bare, J.base, J.hok, rfl, q⟩
  | ret u =>
    obtain ⟨v, _, H', J, rv, q⟩ := post
    exact ⟨v, H', J.os, J.bare, J.base, J.hok, rv, q⟩
  | brk =>
    obtain ⟨_, _, _, no⟩ := post
    cases no
  | cont =>
    obtain ⟨_, _, _, no⟩ := post
    cases no
theorem pe_cE {X : Cx} {x : Str} {st : Stmt} {ps : List Str} {sp : SpE} {k j : Nat} {e : Expr} {es : List Expr} {t : TA} {p pos : Pos} {a : Addr} {oe : Obj} {cls : Value} {d : Option Addr}
    (hx : X.A.handled = some (.ref a)) (hm : (a, oe) ∈ X.pn) (zn : L2N.Zn cls d oe) (fl : ∃ vs, oe.data = .fields vs)
    (D : DnE X.prog X.w X.K X.mg X.base k x st ps sp) (hr : L2H.RoomH j X.A) (hg : Gl X x) (ha : PA X (e :: es) t) (hk : k ≤ j := by decide)
    (hdb : (x == ("__debug__" : Str)) = false := by decide) (he : starEach (e :: es) X.env = (false, eval e X.env) :: starEach es X.env := by rfl)
    (hpl : (backTo pos (starEach es X.env)).any (·.1) = false := by rfl) :
    PE X (.Call (.Name x p) (e :: es) [] pos) (tCl (sp a cls d) t) := by
  obtain ⟨f, fd, F, b, g, ok⟩ := D.ex
  obtain ⟨rfl, rfl, zc⟩ := zn
  obtain ⟨fvs, fe⟩ := fl
  refine ⟨fun pins s σ H Q I h => ?_⟩
  refine wpAny_Call_Name_kw (ld_glob I hg g ?_ hdb)
  refine PySem.W.callWith_K (h₀ := X.base) I.ok.mod.kin F.kp (thn (ha.run pos pins s σ H _ I h) fun us s1 got => ?_) he hpl
  obtain ⟨vs, H1, I1, r1, q2⟩ := got
  refine ⟨I1.kIn, ?_⟩
  have cnt : us.length = ps.length := by
    rw [← r1.length]
    exact ok.len _ _ _ _ _ _ _ q2
  have bnd : BindsTo s1 fd ⟨us, []⟩ (ps.zip us) := by
    have z := b s1 us I1.kIn (by simpa using cnt)
    simpa using z
  have P1 := I1.pin (a, oe) (List.mem_append_left _ hm)
  have pin : L2H.PinOk X.stack H1 s1 (a, oe) := ⟨P1.1, P1.2.1, fun m => (List.mem_cons.mp (Inv.stkSub I1 a m)).elim P1.2.2.1 P1.2.2.2.1, P1.2.2.2.2⟩
  refine wpAny_call (codeAny_mono (ok.run X.A X.stack s1 H1 ⟨us, []⟩ us vs _ E0 (a, oe) (hr.mono hk) ⟨hx, fvs, fe, zc fvs fe⟩ pin I1.env0 bnd r1 q2) ?_)
  intro r s' post
  cases r with
  | error e => exact (post : False).elim
  | ok fl =>
    cases fl with
    | ret u => exact I1.after post
    | next => exact (post : False).elim
    | brk => exact (post : False).elim
    | cont => exact (post : False).elim

theorem unitsD {k : Nat} {A : Around} (h : Room k A) : A.units + 65 < cLine := by
  have := h.un
  omega
theorem roomS {k : Nat} {A : Around} {v : Option Value} (h : Room k A) : L2H.RoomH k (A.mark v) := ⟨(L2H.roomH_of h).dp, (L2H.roomH_of h).un⟩
/-! ### what is asked of it there -/
/-- what is known of the exception p: its class, its dict -/
def ErrP (H : Hp) (p : Addr × Obj) (C : Addr) (v : V) : Prop := ∃ d, p.2.cls = .ref C ∧ p.2.dict = some d ∧ H d = some (.xd [("value", v)])
theorem ErrP.same {H H' : Hp} {p : Addr × Obj} {C : Addr} {v : V} (k : Same H H') (h : ErrP H p C v) : ErrP H' p C v := by
  obtain ⟨d, h1, h2, h3⟩ := h
  exact ⟨d, h1, h2, k _ _ h3⟩
theorem errP_inst {X : Cx} {pins : List (Addr × Obj)} {σ : L2.St} {H : Hp} {s : Shared} {p : Addr × Obj} {C : Addr} {v : V} (I : Inv X pins σ H s) (hm : p ∈ X.pn) (h1 : L2H.Hot1 X.A p) (h : ErrP H p C v) :
    ∃ (od : Obj) (u : Value), PySem.W.InstAt s.heap p.1 p.2 C (some od) ∧ RelV v u ∧ PySem.W.lookIn "value" od = some (some u) := by
  obtain ⟨d, hc, hd, e2⟩ := h
  obtain ⟨_, vs, hf, _⟩ := h1
  have he := (I.pin p (List.mem_append_left _ hm)).1
  have z : ObjOk X.prog X.w H s.heap d (.xd [("value", v)]) := I.hok d _ e2
  obtain ⟨mA, ns, rel⟩ := z
  obtain ⟨od, ho, hl⟩ := lookIn_ns ns
  have l : List.lookup ("value" : Str) [(("value" : Str), v)] = some v := by simp [List.lookup]
  obtain ⟨u, hu, ru⟩ := RelO.some_of (v := v) (o := mA "value") (by rw [← l]; exact rel "value")
  exact ⟨od, u, ⟨he, hc, by unfold PySem.W.notCls; rw [hf] <;> rfl, by rw [hd]; exact ho⟩, ru, by rw [hl, hu]⟩
def tValP (ta : TE) (p : Addr × Obj) (S : Addr → Prop) : TE := fun σ H Q => ta σ H fun x H1 => ∃ c v, x = .ref p.1 ∧ S c ∧ ErrP H1 p c v ∧ Q v H1
theorem pe_valP {X : Cx} {p : Addr × Obj} {e : Expr} {te : TE} {pos : Pos} {S : Addr → Prop} (hm : p ∈ X.pn) (h1 : L2H.Hot1 X.A p) (T : ∀ c, S c → ∃ fI x, ExT X.K X.mg c fI x) (he : PE X e te) (hb : attributeBase e "value" X.env (eval e X.env) = eval e X.env := by rfl) :
    PE X (.Attribute e "value" pos) (tValP te p S) := by
  refine ⟨fun pins s σ H Q I h => ?_⟩
  refine attr_of hb (thn (he.run pins s σ H _ I h) fun u s1 got => ?_)
  obtain ⟨x, H1, I1, rx, c, v, ex, sc, ea, q⟩ := got
  subst ex
  obtain rfl : u = Value.ref p.1 := rx
  obtain ⟨fI, y, T⟩ := T c sc
  obtain ⟨od, w, J, ru, hl⟩ := errP_inst I1 hm h1 ea
  exact HandSPX.exc_get I1.kIn J T.hg T.hk T.ox.exC (PySem.W.findObj_own T.hd T.nV rfl hl) (handed_of ru) ⟨v, H1, I1.tok _, ru, q⟩
def rIsXP (K : PySem.W.Frag) (p : Addr × Obj) (S : Addr → Prop) : List V → Hp → VK → Prop := fun xs H Q => ∃ (C : Addr) (v c : V) (cv : Value) (b : Bool), xs = [.ref p.1, c] ∧ S C ∧ ErrP H p C v ∧ (∀ u, RelV c u → u = cv) ∧ PySem.W.kitOne K (.ref C) cv = some b ∧ Q (.bl b) H
theorem call_isXP {X : Cx} {p : Addr × Obj} {S : Addr → Prop} (hm : p ∈ X.pn) (h1 : L2H.Hot1 X.A p) (T : ∀ c, S c → ∃ fI x, ExT X.K X.mg c fI x) : CallR X (.builtin "isinstance") (rIsXP X.K p S) := by
  intro pins s σ H xs us Q I r h
  obtain ⟨C, v, c, cv, b, rfl, sc, ea, hcv, e, q⟩ := h
  obtain ⟨u1, u2, rfl, r1, r2⟩ := vals2 r
  cases (show u1 = Value.ref p.1 from r1)
  have ec := hcv _ r2
  subst ec
  obtain ⟨fI, y, T⟩ := T C sc
  obtain ⟨od, w, J, _⟩ := errP_inst I hm h1 ea
  exact PySem.W.kia_one (err_kit T) I.kIn ⟨_, _, J⟩ e (fun z => nomatch z) fun tk => ⟨.bl b, H, I.tok tk, rfl, q⟩
end Gd

set_option Elab.async false
set_option linter.all false
set_option maxRecDepth 100000
set_option maxHeartbeats 4000000
set_option autoImplicit false
namespace Gd
open PySem PySem.Spec PyProof.Rows L2

/-! ### an object of an own class made by an __init__ that may raise -/
structure MtN (P : Program) (w : World) (K : PySem.W.Frag) (mg : Str → Option Value) (base : Heap)
    (k : Nat) (C : Addr) (m qual : Str) (st : Stmt) (ps : List Str) (sp : Sp) : Prop where
  ex : ∃ f fd, PySem.W.findIn K (.ref C) m = some (some (.ref f)) ∧ PySem.W.isFn K (.ref f) = true ∧ Fun K m qual st f fd ∧ Binds K fd ps [] ∧ FnOk P w K mg base (L2N.CX P w) k f fd ps sp
theorem MtN.mk' {P : Program} {w : World} {K : PySem.W.Frag} {mg : Str → Option Value} {base : Heap} {C : Addr} {m qual : Str} {st : Stmt} {ps : List Str} {k : Nat} {sp : Sp} (h : AtM K C m qual st ps)
    (ok : ∀ f fd, Fun K m qual st f fd → FnOk P w K mg base (L2N.CX P w) k f fd ps sp) : MtN P w K mg base k C m qual st ps sp := by
  obtain ⟨f, fd, a, i, F, b⟩ := h
  exact ⟨f, fd, a, i, F, b, ok f fd F⟩
theorem run_makeS {X : Cx} {CX : CXT} {k : Nat} {f C : Addr} {fd : FuncData} {ps : List Str} {sp : Sp} {E : XK} {pins : List (Addr × Obj)} {σ : L2.St} {H : Hp} {s : Shared} {Q : VK} {us : List Value} {vs : List V}
    (M : Mk X.K C f) (F : FnOk X.prog X.w X.K X.mg X.base CX k f fd ps sp) (hr : Room (k + 1) X.A) (hb : Binds X.K fd ps []) (hx : PassesAt CX X σ E) (I : Inv X pins σ H s) (r : Vals vs us)
    (h : ∀ x dx, H x = none → H dx = none → dx ≠ x → sp (.ref x :: (vs ++ [])) (upd (upd H dx (.own x)) x (.ins C dx [])) (fun v H2 => v = .non ∧ Q (.ref x) H2) E) :
    wpAny (model X.prog X.w) X.A (call (.ref C) us) (EP X pins σ Q) X.xe s := by
  have hq := h (s.heap.objs.size + 1) s.heap.objs.size (I.hok.fresh (Nat.le_succ _)) (I.hok.fresh (Nat.le_refl _)) (Nat.ne_of_lt (Nat.lt_succ_self _))
  have I2 := Inv.made (C := C) I
  have r2 : Vals (V.ref (s.heap.objs.size + 1) :: (vs ++ [])) (Value.ref (s.heap.objs.size + 1) :: (us ++ [])) := .cons rfl (Vals.append r .nil)
  have hl : (Value.ref (s.heap.objs.size + 1) :: (us ++ [])).length = ps.length := by
    rw [← r2.length]
    exact F.len _ _ _ _ hq
  refine wpAny_call (make_map I.kIn M.makes M.init (beq_iff_eq.mp M.fn) (codeAny_mono (F.run (X.A.under (.builtin "type.__call__" ⟨.ref C :: us, []⟩)) X.stack _ _ ⟨.ref (s.heap.objs.size + 1) :: us, []⟩ _ _ _ E
    (hr.make C us []) (I2.env0.make C us []) (hb _ (.ref (s.heap.objs.size + 1) :: us) I2.kIn hl) r2 hq) fun r' s' hq' => ?_))
  cases r' with
  | error e => exact hx pins _ _ e s' I2 hq'
  | ok fl =>
    cases fl with
    | ret u =>
      obtain ⟨v, H', I3, rv, ev, q3⟩ := I2.after hq'
      subst ev
      exact ⟨rv, .ref (s.heap.objs.size + 1), H', I3, rfl, q3⟩
    | next => exact (hq' : False).elim
    | brk => exact (hq' : False).elim
    | cont => exact (hq' : False).elim
def tMakeS (C : Addr) (sp : Sp) (E : L2.St → XK) (t : TA) : TE := fun σ H Q => t σ H fun vs H1 => ∀ x dx, H1 x = none → H1 dx = none → dx ≠ x → sp (.ref x :: (vs ++ [])) (upd (upd H1 dx (.own x)) x (.ins C dx [])) (fun v H2 => v = .non ∧ Q (.ref x) H2) (E σ)
section
variable {X : Cx} {x m qual : Str} {st : Stmt} {ps : List Str} {sp : Sp} {k j : Nat} {e : Expr} {es : List Expr} {t : TA} {p pos : Pos} {C : Addr} {W : WX}
/-- C(e, ..) in a try, or where its errors go on -/
theorem pe_newN (tk : L2N.Takes X W) (T : Ck X.K X.mg C x) (D : MtN X.prog X.w X.K X.mg X.base k C "__init__" qual st ps sp) (hr : Room j X.A) (hg : Gl X x) (ha : PA X (e :: es) t) (hk : k + 1 ≤ j := by decide)
    (hdb : (x == ("__debug__" : Str)) = false := by decide) (he : starEach (e :: es) X.env = (false, eval e X.env) :: starEach es X.env := by rfl)
    (hpl : (backTo pos (starEach es X.env)).any (·.1) = false := by rfl) :
    PE X (.Call (.Name x p) (e :: es) [] pos) (tMakeS C sp (WE W) t) := by
  obtain ⟨f, fd, a, i, F, b, ok⟩ := D.ex
  have M : Mk X.K C f := ⟨T.mks, a, i, T.kp⟩
  refine ⟨fun pins s σ H Q I h => ?_⟩
  refine wpAny_Call_Name_kw (ld_glob I hg T.mg_ ?_ hdb)
  refine PySem.W.callWith_K (h₀ := X.base) I.ok.mod.kin M.kp (thn (ha.run pos pins s σ H _ I h) fun us s1 got => ?_) he hpl
  obtain ⟨vs, H1, I1, r, q⟩ := got
  exact ⟨I1.kIn, run_makeS M ok (hr.mono hk) b (L2N.passAt tk σ) I1 r q⟩
/-- o.m(e, ..) where its errors go on -/
def tMethS (C : Addr) (m : Str) (sp : Sp) (E : L2.St → XK) (ta : TE) (t : TA) : TE := fun σ H Q => ta σ H fun x H1 => ∃ a dx fs, x = .ref a ∧ H1 a = some (.ins C dx fs) ∧ List.lookup m fs = none ∧ t σ H1 fun vs H2 => sp (x :: vs) H2 Q (E σ)
theorem pe_mN {o : Expr} {apos : Pos} {ta : TE} {pl : Sem Bool} (tk : L2N.Takes X W) (T : Ck X.K X.mg C x) (D : MtN X.prog X.w X.K X.mg X.base k C m qual st ps sp) (hr : Room j X.A) (he : PE X o ta) (ha : PA X (e :: es) t) (hk : k ≤ j := by decide)
    (hst : starEach (e :: es) X.env = (false, eval e X.env) :: starEach es X.env := by rfl) (hpl : (backTo pos (starEach es X.env)).any (·.1) = false := by rfl)
    (ht : eval (.Call (.Attribute o m apos) (e :: es) [] pos) X.env = (do
      let ov ← eval o X.env
      standAt apos.atName
      let (f, first) ← holding [ov] (getMethod ov m pl)
      callWith pos f first (backTo pos (starEach (e :: es) X.env)) (backToKw pos (keywordEach [] X.env))) := by rfl) :
    PE X (.Call (.Attribute o m apos) (e :: es) [] pos) (tMethS C m sp (WE W) ta t) := by
  obtain ⟨f, fd, at_, i, F, b, ok⟩ := D.ex
  have hm : Meth X.K C m f := ⟨at_, i, F.kp⟩
  refine ⟨fun pins s σ H Q I h => ?_⟩
  refine PySem.W.methodCall_KW (thn (he.run pins s σ H _ I h) fun u s1 got => ?_) ht
  obtain ⟨x1, H1, I1, rx, a, dx, fs, ex, ea, l, q⟩ := got
  subst ex
  cases (show u = Value.ref a from rx)
  refine getmeth_ok I1 ea T.cl hm l (PySem.W.callWith_K I1.ok.mod.kin hm.kp (thn (ha.run pos pins s1 σ H1 _ I1 q) fun us s2 got2 => ?_) hst hpl)
  obtain ⟨vs, H2, I2, r, q2⟩ := got2
  exact ⟨I2.kIn, run_fnS (vs := V.ref a :: vs) ok (hr.mono hk) b (L2N.passAt tk σ) I2 (.cons rfl r) q2⟩
end
end Gd

set_option Elab.async false
set_option linter.all false
set_option maxRecDepth 100000
set_option autoImplicit false
namespace Gd
open PySem PySem.Spec PyProof.Rows L2

/-! ### slices and sums whose place and heap are not told -/
theorem sIx_hi (n i : Nat) : HT.sIx n n (some (i : Int)) = min i n := by
  unfold HT.sIx
  simp only
  rw [if_neg (by omega)]
  rfl
theorem sIx_lo (n i : Nat) : HT.sIx n 0 (some (i : Int)) = min i n := by
  unfold HT.sIx
  simp only
  rw [if_neg (by omega)]
  rfl
theorem cutV_take (xs : List V) (i : Nat) : cutV xs none (some (i : Int)) = xs.take i := by
  unfold cutV
  rw [sIx_hi, show HT.sIx xs.length 0 none = 0 from rfl, List.drop_zero, Nat.sub_zero]
  by_cases h : i ≤ xs.length
  · rw [Nat.min_eq_left h]
  · rw [Nat.min_eq_right (by omega), List.take_length, List.take_of_length_le (by omega)]
theorem cutV_drop (xs : List V) (i : Nat) : cutV xs (some (i : Int)) none = xs.drop i := by
  unfold cutV
  rw [sIx_lo, show HT.sIx xs.length xs.length none = xs.length from rfl]
  by_cases h : i ≤ xs.length
  · rw [Nat.min_eq_left h]
    exact List.take_of_length_le (by rw [List.length_drop]; omega)
  · rw [Nat.min_eq_right (by omega), List.drop_length, List.drop_of_length_le (by omega)]
    simp
theorem cutV_whole {xs : List V} {lo hi : Option Int} (w : HT.sIx xs.length 0 lo = 0 ∧ HT.sIx xs.length xs.length hi = xs.length) : cutV xs lo hi = xs := by
  unfold cutV
  rw [w.1, w.2, List.drop_zero, Nat.sub_zero, List.take_length]
theorem slA {K : PySem.W.Frag} {H : Hp} {a : Addr} {xs : List V} {lo hi : Option Int} {Q : VK} (h : SqT K H a xs) (q : ∀ p H', Same H H' → SqT K H' p (cutV xs lo hi) → Q (.ref p) H') : rSlA K (.ref a) lo hi H Q :=
  ⟨a, xs, rfl, h, fun w => q a H (Same.refl _) (by rw [cutV_whole w]; exact h), fun _ p np => q p _ (Same.new np) (.inl (.inl upd_same))⟩
/-- a slice without an end -/
theorem slAn {K : PySem.W.Frag} {σ : L2.St} {H : Hp} {a : Addr} {xs : List V} {lo : Option Int} {Q : VK} (h : SqT K H a xs) (q : ∀ p H', Same H H' → SqT K H' p (cutV xs lo none) → Q (.ref p) H') : tNoPart σ H fun u H3 => rSlA K (.ref a) lo u H3 Q := slA h q
theorem slLn {K : PySem.W.Frag} {σ : L2.St} {H : Hp} {a : Addr} {xs : List V} {lo : Option Int} {Q : VK} (h : SqL K H a xs) (q : ∀ p H', Same H H' → H p = none → H' p = some (.lst (cutV xs lo none)) → Q (.ref p) H') : tNoPart σ H fun u H3 => rSlL K (.ref a) lo u H3 Q := ⟨a, xs, rfl, h, fun p np => q p _ (Same.new np) np upd_same⟩
theorem catA {K : PySem.W.Frag} {H : Hp} {a b : Addr} {xs ys : List V} {Q : VK} (ha : SqT K H a xs) (hb : SqT K H b ys) (l : xs.length + ys.length ≤ 1000) (q : ∀ p H', Same H H' → SqT K H' p (xs ++ ys) → Q (.ref p) H') : rCatA K (.ref a) (.ref b) H Q :=
  ⟨a, b, xs, ys, rfl, rfl, ha, hb, Nat.le_trans l (by decide), fun e => q b H (Same.refl _) (by rw [e]; exact hb), fun _ e => q a H (Same.refl _) (by rw [e, List.append_nil]; exact ha), fun _ _ p np => q p _ (Same.new np) (.inl (.inl upd_same))⟩
theorem slL {K : PySem.W.Frag} {H : Hp} {a : Addr} {xs : List V} {lo hi : Option Int} {Q : VK} (h : SqL K H a xs) (q : ∀ p H', Same H H' → H p = none → H' p = some (.lst (cutV xs lo hi)) → Q (.ref p) H') : rSlL K (.ref a) lo hi H Q :=
  ⟨a, xs, rfl, h, fun p np => q p _ (Same.new np) np upd_same⟩
theorem catL {H : Hp} {a b : Addr} {xs ys : List V} {Q : VK} (ha : H a = some (.lst xs)) (hb : H b = some (.lst ys)) (l : xs.length + ys.length ≤ 100000) (q : ∀ p H', Same H H' → H p = none → H' p = some (.lst (xs ++ ys)) → Q (.ref p) H') : rCat (.ref a) (.ref b) H Q :=
  ⟨a, b, xs, ys, rfl, rfl, ha, hb, Nat.le_trans l (by decide), fun p np => q p _ (Same.new np) np upd_same⟩
end Gd

set_option Elab.async false
set_option linter.all false
set_option maxRecDepth 100000
set_option autoImplicit false
set_option maxHeartbeats 4000000
namespace Gd
open PySem PySem.Spec PyProof.Rows L2
section
variable {X : Cx}
/-- name = {k: v for ..} on one line, the name a local -/
theorem ps_setDc {i : Nat} {y : Str} {py : Pos} {kx vx tg iter : Expr} {ifs : List Expr} {scope : Scope} {own : List (Str × Nat)} {pos spos : Pos} {wi : TI} {g : TG} {tt : TT} {tk tv : TE} (hc : X.calm = true) (hN : X.N.Nodup) (hy : X.N[i]? = some y) (hyl : X.env.scope.names.lookup y = some .local)
    (hsw : swapsWith (.DictComp kx vx [⟨tg, iter, ifs, 0⟩] scope pos) (some (.Name y py)) spos.line X.env = pure true) (hi : PI X tg iter wi) (ok : BlkOk X.N X.env.scope scope own)
    (hg : ∀ (s : Shared) (H : Hp) (C : Addr) (cl : List (Str × Addr)) (fp : List Addr), PG (X.blk s H scope (compEnvC scope cl C X.env) fp) tg g) (ht : ∀ (s : Shared) (H : Hp) (C : Addr) (cl : List (Str × Addr)) (fp : List Addr), PTs (X.blk s H scope (compEnvC scope cl C X.env) fp) ifs tt)
    (hk : ∀ (s : Shared) (H : Hp) (C : Addr) (cl : List (Str × Addr)) (fp : List Addr), PE (X.blk s H scope (compEnvC scope cl C X.env) fp) kx tk)
    (he : ∀ (s : Shared) (H : Hp) (C : Addr) (cl : List (Str × Addr)) (fp : List Addr), PE (X.blk s H scope (compEnvC scope cl C X.env) fp) vx tv) (hs : ∀ x, foldedSetIterable iter X.env x = pure x := by intro _; rfl) :
    PS X (.Assign [.Name y py] (.DictComp kx vx [⟨tg, iter, ifs, 0⟩] scope pos) spos) (tAsg (tDc wi g tt tk tv (own.map (·.2))) (gName i)) := by
  refine ⟨fun pins s σ H D I h => ?_⟩
  rw [exec_Assign_Name_used _ _ _ _ hsw]
  refine wpAny_bind (wpAny_standAt (wpAny_bind ?_))
  show wpAny _ X.A (do let _ ← comprehension (.DictComp kx vx [⟨tg, iter, ifs, 0⟩] scope pos) scope X.env (firstIterPos [⟨tg, iter, ifs, 0⟩] pos) newDict false (eval iter X.env) (some (assign (.Name y py) X.env))) _ _ s
  have h : tDc wi g tt tk tv (own.map (·.2)) σ H (fun x H1 => gName i x σ H1 D.nx) := h
  refine wpAny_bind (thn (dc_core (Qf := fun _ s' => SP X pins D .next s') hc hN I hi ok hg ht hk he hs h fun L C s' m H' I' q hn f => ?_) fun _ s' hq => wpAny_pure (wpAny_pure hq))
  show wpAny _ _ (assign (.Name y py) X.env (.ref L)) _ _ _
  refine wpAny_assign_Name (store_ok2 (v := V.ref L) I' hN hy (.inl hyl) rfl (fun s2 I2 ⟨a, sb, ha⟩ => ?_) (.inr hyl))
  obtain ⟨f0, f1, f2, f3, f4, f5⟩ := f
  have haC : C ≠ a := by
    rcases ha with z | z
    · rw [z]; exact f1
    · exact fun e => f4 y a z e.symm
  refine ⟨m, hn.sameBut sb haC, fun h3 sb3 => ?_⟩
  exact ⟨_, H', I2.turned (t' := s2.toks) (fun b o hb e => (sb3.2 b hb).trans e) f0 f1 f3 f4 f5, q⟩
theorem sw_trueD {kx vx : Expr} {gs : List Comprehension} {scope : Scope} {pos py : Pos} {y : Str} {l : Nat} {env : Env} (hk : env.scope.kind = .function) (hy : env.scope.names.lookup y = some .local) (hl : (py.line == pos.line) = true)
    (ha : (scope.names.any fun (n, k) => n == y && (k == .local || k == .cell)) = false) : swapsWith (.DictComp kx vx gs scope pos) (some (.Name y py)) l env = pure true := by
  have ky : env.kindOf y = some .local := hy
  have hb : env.blockKind = .function := by unfold Env.blockKind; rw [hk]; rfl
  unfold swapsWith
  simp only [hb, ky, ha, Expr.pos, hl]
  rfl
end
/-- over a list that stays -/
theorem dc_list {K : PySem.W.Frag} {a : Addr} {xs : List V} {g : TG} {tt : TT} {tk tv : TE} {vs : List Nat} {σ : L2.St} {H1 : Hp} {D : Addr} {Qd : Hp → Prop} (Pv : Nat → Hp → Prop) (h0 : Pv 0 (upd H1 D (.dK []))) (hl : ∀ i H, i ≤ xs.length → Pv i H → SqL K H a xs)
    (hs : ∀ i x H, xs[i]? = some x → Pv i H → g x (wipe σ vs) H fun σ2 H2 => wipe σ2 vs = wipe σ vs ∧ tt σ2 H2 fun b H3 =>
      if b = true then tk σ2 H3 fun y H4 => tv σ2 H4 fun z H5 => ∃ kvs k, y = kV k ∧ H5 D = some (.dK kvs) ∧ kvs.length < sizeLine ∧ Pv (i + 1) (upd H5 D (.dK (putK kvs k z))) else Pv (i + 1) H3) (hd : ∀ H, Pv xs.length H → Qd H) :
    ∃ W : Nat → Nat → Hp → Prop, (∃ m, W 0 m (upd H1 D (.dK []))) ∧ ∀ i m H, W i m H →
      ((Itl K a).stop i H ∧ Qd H) ∨ ((Itl K a).go i H ∧ ∃ Nx : Hp → Prop, (∀ H', Nx H' → ∃ m', m' < m ∧ W (i + 1) m' H') ∧ ∀ x H', (Itl K a).yld i H x H' → g x (wipe σ vs) H' fun σ2 H2 => wipe σ2 vs = wipe σ vs ∧ tt σ2 H2 fun b H3 =>
        if b = true then tk σ2 H3 fun y H4 => tv σ2 H4 fun z H5 => ∃ kvs k, y = kV k ∧ H5 D = some (.dK kvs) ∧ kvs.length < sizeLine ∧ Nx (upd H5 D (.dK (putK kvs k z))) else Nx H3) := by
  refine ⟨fun i m H => m = xs.length - i ∧ i ≤ xs.length ∧ Pv i H, ⟨xs.length, by simp, Nat.zero_le _, h0⟩, ?_⟩
  rintro i m H ⟨rfl, hi, p⟩
  have q := hl i H hi p
  by_cases hlt : i < xs.length
  · refine .inr ⟨⟨xs, xs[i], q, by simp [hlt]⟩, Pv (i + 1), fun H' p' => ⟨xs.length - (i + 1), by omega, rfl, hlt, p'⟩, fun x H' y => ?_⟩
    obtain ⟨e, y⟩ := y
    subst e
    exact hs i x _ (y xs q) p
  · have e : i = xs.length := by omega
    subst e
    exact .inl ⟨⟨xs, q, Nat.le_refl _⟩, hd H p⟩

/-! ### data where one object that is no tuple changes -/
mutual
theorem dp_kx {K : PySem.W.Frag} {H H' : Hp} (k : ∀ b xs, SqT K H b xs → SqT K H' b xs) : ∀ {v : V} {d : PyData}, Dp K H v d → NoL d → Dp K H' v d
  | _, _, .non, _ => .non
  | _, _, .bl b, _ => .bl b
  | _, _, .int i, _ => .int i
  | _, _, .str x, _ => .str x
  | _, _, .tup s x, n => .tup (k _ _ s) (dpa_kx k x (match n with | .tup h => h))
  | _, _, .lst s x, n => nomatch n
theorem dpa_kx {K : PySem.W.Frag} {H H' : Hp} (k : ∀ b xs, SqT K H b xs → SqT K H' b xs) : ∀ {v : List V} {d : List PyData}, DpAll K H v d → (∀ x ∈ d, NoL x) → DpAll K H' v d
  | _, _, .nil, _ => .nil
  | _, _, .cons x y, n => .cons (dp_kx k x (n _ (by simp))) (dpa_kx k y fun z m => n z (by simp [m]))
end
theorem sqT_kd {K : PySem.W.Frag} {H H' : Hp} {a b : Addr} {kv : List (Key × V)} {xs : List V} (k : Kp a H H') (e : H a = some (.dK kv)) (h : SqT K H b xs) : SqT K H' b xs := by
  rcases h with (h | ⟨o, h⟩) | h
  · exact .inl (.inl (k _ _ (ne_of h e (fun z => by cases z)) h))
  · exact .inl (.inr ⟨o, k _ _ (ne_of h e (fun z => by cases z)) h⟩)
  · exact .inr h
theorem dp_kd {K : PySem.W.Frag} {H H' : Hp} {a : Addr} {kv : List (Key × V)} (k : Kp a H H') (e : H a = some (.dK kv)) {v : V} {d : PyData} (h : Dp K H v d) (n : NoL d) : Dp K H' v d := dp_kx (fun _ _ s => sqT_kd k e s) h n
theorem dpa_kd {K : PySem.W.Frag} {H H' : Hp} {a : Addr} {kv : List (Key × V)} (k : Kp a H H') (e : H a = some (.dK kv)) {v : List V} {d : List PyData} (h : DpAll K H v d) (n : ∀ x ∈ d, NoL x) : DpAll K H' v d := dpa_kx (fun _ _ s => sqT_kd k e s) h n
theorem nodup_take {α : Type} {ns : List α} {i : Nat} {x : α} (nd : ns.Nodup) (e : ns[i]? = some x) : x ∉ ns.take i := fun m => by
  obtain ⟨lt, ex⟩ := List.getElem?_eq_some_iff.mp e
  have z : ns.drop i = ns[i] :: ns.drop (i + 1) := List.drop_eq_getElem_cons lt
  have nd2 : (ns.take i ++ ns.drop i).Nodup := by rw [List.take_append_drop]; exact nd
  exact (List.nodup_append.mp nd2).2.2 x m x (by rw [z, ex]; exact List.mem_cons_self) rfl
/-! ### dicts with text keys, by a function -/
def fK (ks : List Str) (f : Str → V) : List (Key × V) := ks.map fun x => (Sum.inr x, f x)
theorem fK_len {ks : List Str} {f : Str → V} : (fK ks f).length = ks.length := List.length_map _
theorem fK_get {f : Str → V} {x : Str} : ∀ {ks : List Str}, x ∈ ks → valV (fK ks f) (.inr x) = some (f x)
  | k :: ks, m => by
    show valV ((Sum.inr k, f k) :: fK ks f) (.inr x) = _
    by_cases e : k = x
    · subst e
      exact valV_pos rfl
    · rw [valV_neg (fun z => e (by injection z))]
      exact fK_get ((List.mem_cons.mp m).resolve_left (fun z => e z.symm))
theorem fK_no {f : Str → V} {x : Str} : ∀ {ks : List Str}, x ∉ ks → valV (fK ks f) (.inr x) = none
  | [], _ => rfl
  | k :: ks, m => by
    show valV ((Sum.inr k, f k) :: fK ks f) (.inr x) = _
    rw [valV_neg (fun z => by cases z; exact m (by simp))]
    exact fK_no (fun z => m (by simp [z]))
/-- one value changed -/
def put1 {α : Type} (f : Str → α) (x : Str) (v : α) : Str → α := fun y => if y = x then v else f y
theorem put1_same {α : Type} {f : Str → α} {x : Str} {v : α} : put1 f x v x = v := by unfold put1; rw [if_pos rfl]
theorem put1_ne {α : Type} {f : Str → α} {x y : Str} {v : α} (n : y ≠ x) : put1 f x v y = f y := by unfold put1; rw [if_neg n]
theorem fK_congr {ks : List Str} {f g : Str → V} (h : ∀ x ∈ ks, f x = g x) : fK ks f = fK ks g := by
  unfold fK
  exact List.map_congr_left fun x m => by rw [h x m]
theorem fK_put {x : Str} {v : V} {ks : List Str} {f : Str → V} (m : x ∈ ks) : putK (fK ks f) (.inr x) v = fK ks (put1 f x v) := by
  unfold putK
  rw [valV_any, fK_get m, Option.isSome_some, if_pos rfl]
  unfold fK
  rw [List.map_map]
  refine List.map_congr_left fun y my => ?_
  show (if (Sum.inr y : Key) = Sum.inr x then ((Sum.inr y : Key), v) else (Sum.inr y, f y)) = (Sum.inr y, put1 f x v y)
  unfold put1
  by_cases e : y = x
  · rw [if_pos e, if_pos (by rw [e])]
  · rw [if_neg e, if_neg (fun z => e (by injection z))]
theorem fK_new {f : Str → V} {x : Str} {v : V} {ks : List Str} (m : x ∉ ks) : putK (fK ks f) (.inr x) v = fK ks f ++ [(Sum.inr x, v)] := putK_new _ (fK_no m)
theorem fK_snoc {ks : List Str} {f : Str → V} {x : Str} : fK (ks ++ [x]) f = fK ks f ++ [(Sum.inr x, f x)] := by
  unfold fK
  rw [List.map_append]
  rfl
theorem mergeK_fK {f : Str → V} : ∀ {k2 ks : List Str}, (ks ++ k2).Nodup → mergeK (fK ks f) (fK k2 f) = fK (ks ++ k2) f
  | [], ks, _ => by
    rw [List.append_nil]
    rfl
  | k :: k2, ks, nd => by
    have nin : k ∉ ks := fun m => (List.nodup_append.mp nd).2.2 k m k (by simp) rfl
    show mergeK (putK (fK ks f) (.inr k) (f k)) (fK k2 f) = _
    rw [fK_new nin, ← fK_snoc]
    have nd' : ((ks ++ [k]) ++ k2).Nodup := by rw [List.append_assoc]; exact nd
    rw [mergeK_fK nd', List.append_assoc]
    rfl
/-- the dict at a has the value f x at each name x -/
def DF (H : Hp) (a : Addr) (ks : List Str) (f : Str → V) : Prop := H a = some (.dK (fK ks f))
theorem DF.same {H H' : Hp} {a : Addr} {ks : List Str} {f : Str → V} (k : Same H H') (h : DF H a ks f) : DF H' a ks f := k _ _ h
theorem DF.kl {H H' : Hp} {a b : Addr} {ks : List Str} {f : Str → V} (k : Kl b H H') (h : DF H a ks f) : DF H' a ks f := by
  obtain ⟨⟨ys, e⟩, kp⟩ := k
  exact kp _ _ (ne_of h e (fun z => by cases z)) h
theorem DF.get {H : Hp} {a : Addr} {ks : List Str} {f : Str → V} {x : Str} (h : DF H a ks f) (m : x ∈ ks) : DGet H a (.str x) (some (f x)) := by
  have z := DGet.k (k := Sum.inr x) h
  rw [fK_get m] at z
  exact z
theorem DF.put {H : Hp} {a : Addr} {ks : List Str} {f : Str → V} {x : Str} {v : V} (h : DF H a ks f) (m : x ∈ ks) (l : ks.length ≤ 1000) : DPut H a (.str x) v (upd H a (.dK (fK ks (put1 f x v)))) := by
  have z := DPut.k (k := Sum.inr x) (v := v) h (by rw [fK_len]; exact Nat.lt_of_le_of_lt l (by decide))
  rw [fK_put m] at z
  exact z
end Gd

namespace Pk36
open PySem PySem.Spec PyProof.Rows L2 Gd
def topS (i : Nat) : Stmt := PySem.Challenge.pw_tightranges_k36_errors_of_runs.main.body.getD i (.Pass ⟨0, 0, 0, 0⟩)
abbrev s_is_upside_down : Stmt := topS 13
theorem sc_is_upside_down : FnScope ["one", "low", "high"] ["one"] (defScope s_is_upside_down) := ⟨rfl, rfl, rfl, by decide +kernel, rfl, by decide +kernel, by decide +kernel⟩
abbrev s_check_range : Stmt := topS 14
theorem sc_check_range : FnScope ["one"] ["one"] (defScope s_check_range) := ⟨rfl, rfl, rfl, by decide +kernel, rfl, by decide +kernel, by decide +kernel⟩
abbrev s__least : Stmt := topS 18
theorem sc__least : FnScope ["one", "other"] ["one", "other"] (defScope s__least) := ⟨rfl, rfl, rfl, by decide +kernel, rfl, by decide +kernel, by decide +kernel⟩
abbrev s__greatest : Stmt := topS 19
theorem sc__greatest : FnScope ["one", "other"] ["one", "other"] (defScope s__greatest) := ⟨rfl, rfl, rfl, by decide +kernel, rfl, by decide +kernel, by decide +kernel⟩
abbrev s_common : Stmt := topS 17
theorem sc_common : FnScope ["one", "other", "both"] ["one", "other"] (defScope s_common) := ⟨rfl, rfl, rfl, by decide +kernel, rfl, by decide +kernel, by decide +kernel⟩
abbrev s_lies_within : Stmt := topS 15
theorem sc_lies_within : FnScope ["one", "other"] ["one", "other"] (defScope s_lies_within) := ⟨rfl, rfl, rfl, by decide +kernel, rfl, by decide +kernel, by decide +kernel⟩
abbrev s__law_draw : Stmt := topS 34
theorem sc__law_draw : FnScope ["rng", "limit", "digit", "blend"] ["rng", "limit"] (defScope s__law_draw) := ⟨rfl, rfl, rfl, by decide +kernel, rfl, by decide +kernel, by decide +kernel⟩
abbrev s__law_rng : Stmt := topS 33
theorem sc__law_rng : FnScope ["script", "digits", "seed", "number", "far"] ["script"] (defScope s__law_rng) := ⟨rfl, rfl, rfl, by decide +kernel, rfl, by decide +kernel, by decide +kernel⟩
abbrev s__names_of : Stmt := topS 26
theorem sc__names_of : FnScope ["rule", "named", "condition"] ["rule"] (defScope s__names_of) := ⟨rfl, rfl, rfl, by decide +kernel, rfl, by decide +kernel, by decide +kernel⟩
abbrev s__ranges_of : Stmt := topS 27
theorem sc__ranges_of : FnScope ["rule", "condition"] ["rule"] (defScope s__ranges_of) := ⟨rfl, rfl, rfl, by decide +kernel, rfl, by decide +kernel, by decide +kernel⟩
abbrev s_is_faulty : Stmt := topS 25
theorem sc_is_faulty : FnScope ["rule", "names", "name", "one"] ["rule", "names"] (defScope s_is_faulty) := ⟨rfl, rfl, rfl, by decide +kernel, rfl, by decide +kernel, by decide +kernel⟩
abbrev s_is_name : Stmt := topS 29
theorem sc_is_name : FnScope ["text", "sign"] ["text"] (defScope s_is_name) := ⟨rfl, rfl, rfl, by decide +kernel, rfl, by decide +kernel, by decide +kernel⟩
abbrev s__check_system : Stmt := topS 30
theorem sc__check_system : FnScope ["names", "rules", "earlier", "name", "number", "rule"] ["names", "rules"] (defScope s__check_system) := ⟨rfl, rfl, rfl, by decide +kernel, rfl, by decide +kernel, by decide +kernel⟩
abbrev s_System___init__ : Stmt := inClass (topS 31) 0
theorem sc_System___init__ : FnScope ["self", "names", "rules"] ["self", "names", "rules"] (defScope s_System___init__) := ⟨rfl, rfl, rfl, by decide +kernel, rfl, by decide +kernel, by decide +kernel⟩
abbrev s_System___len__ : Stmt := inClass (topS 31) 1
theorem sc_System___len__ : FnScope ["self"] ["self"] (defScope s_System___len__) := ⟨rfl, rfl, rfl, by decide +kernel, rfl, by decide +kernel, by decide +kernel⟩
abbrev s_System_names : Stmt := inClass (topS 31) 3
theorem sc_System_names : FnScope ["self"] ["self"] (defScope s_System_names) := ⟨rfl, rfl, rfl, by decide +kernel, rfl, by decide +kernel, by decide +kernel⟩
abbrev s_System_rules : Stmt := inClass (topS 31) 4
theorem sc_System_rules : FnScope ["self"] ["self"] (defScope s_System_rules) := ⟨rfl, rfl, rfl, by decide +kernel, rfl, by decide +kernel, by decide +kernel⟩
abbrev s_System___eq__ : Stmt := inClass (topS 31) 2
theorem sc_System___eq__ : FnScope ["self", "other"] ["self", "other"] (defScope s_System___eq__) := ⟨rfl, rfl, rfl, by decide +kernel, rfl, by decide +kernel, by decide +kernel⟩
abbrev s__law_words : Stmt := topS 35
theorem sc__law_words : FnScope ["rng", "many", "left", "some", "turn", "word"] ["rng", "many"] (defScope s__law_words) := ⟨rfl, rfl, rfl, by decide +kernel, rfl, by decide +kernel, by decide +kernel⟩
abbrev s__law_end : Stmt := topS 36
theorem sc__law_end : FnScope ["rng", "far"] ["rng", "far"] (defScope s__law_end) := ⟨rfl, rfl, rfl, by decide +kernel, rfl, by decide +kernel, by decide +kernel⟩
abbrev s__law_within : Stmt := topS 37
theorem sc__law_within : FnScope ["rng", "far", "low", "high"] ["rng", "far"] (defScope s__law_within) := ⟨rfl, rfl, rfl, by decide +kernel, rfl, by decide +kernel, by decide +kernel⟩
abbrev s__law_rule : Stmt := topS 38
theorem sc__law_rule : FnScope ["rng", "words", "far", "conditions", "turn", "first", "last", "size", "plus"] ["rng", "words", "far"] (defScope s__law_rule) := ⟨rfl, rfl, rfl, by decide +kernel, rfl, by decide +kernel, by decide +kernel⟩
abbrev s__law_rows : Stmt := topS 39
theorem sc__law_rows : FnScope ["rng", "words", "most", "far", "rows", "low", "turn"] ["rng", "words", "most"] (defScope s__law_rows) := ⟨rfl, rfl, rfl, by decide +kernel, rfl, by decide +kernel, by decide +kernel⟩
abbrev s_has_value : Stmt := topS 16
theorem sc_has_value : FnScope ["one", "value"] ["one", "value"] (defScope s_has_value) := ⟨rfl, rfl, rfl, by decide +kernel, rfl, by decide +kernel, by decide +kernel⟩
abbrev s__is_possible : Stmt := topS 23
theorem sc__is_possible : FnScope ["rule", "values", "value", "name", "one"] ["rule", "values", "value"] (defScope s__is_possible) := ⟨rfl, rfl, rfl, by decide +kernel, rfl, by decide +kernel, by decide +kernel⟩
abbrev s_values_behind : Stmt := topS 22
theorem sc_values_behind : FnScope ["system", "moves", "rules", "values", "number", "rule_number", "value", "rule", "name"] ["system", "moves"] (defScope s_values_behind) := ⟨rfl, rfl, rfl, by decide +kernel, rfl, by decide +kernel, by decide +kernel⟩
abbrev s__law_inside : Stmt := topS 41
theorem sc__law_inside : FnScope ["given", "spot"] ["given", "spot"] (defScope s__law_inside) := ⟨rfl, rfl, rfl, by decide +kernel, rfl, by decide +kernel, by decide +kernel⟩
abbrev s__law_next : Stmt := topS 42
theorem sc__law_next : FnScope ["rows", "held", "move", "number", "spot", "row", "part", "given"] ["rows", "held", "move"] (defScope s__law_next) := ⟨rfl, rfl, rfl, by decide +kernel, rfl, by decide +kernel, by decide +kernel⟩
abbrev s__law_spot : Stmt := topS 43
theorem sc__law_spot : FnScope ["rng", "given", "ends", "some", "end"] ["rng", "given"] (defScope s__law_spot) := ⟨rfl, rfl, rfl, by decide +kernel, rfl, by decide +kernel, by decide +kernel⟩
abbrev s__law_moves : Stmt := topS 44
theorem sc__law_moves : FnScope ["rng", "words", "rows", "many", "held", "some", "turn", "number", "spot", "later", "word"] ["rng", "words", "rows", "many"] (defScope s__law_moves) := ⟨rfl, rfl, rfl, by decide +kernel, rfl, by decide +kernel, by decide +kernel⟩
abbrev s_RangeError___init__ : Stmt := inClass (topS 2) 0
theorem sc_RangeError___init__ : FnScope ["self", "value"] ["self", "value"] (defScope s_RangeError___init__) := ⟨rfl, rfl, rfl, by decide +kernel, rfl, by decide +kernel, by decide +kernel⟩
abbrev s_is_run : Stmt := topS 21
theorem sc_is_run : FnScope ["system", "moves"] ["system", "moves"] (defScope s_is_run) := ⟨rfl, rfl, rfl, by decide +kernel, rfl, by decide +kernel, by decide +kernel⟩
abbrev s__law_bent : Stmt := topS 45
theorem sc__law_bent : FnScope ["rng", "rows", "some", "spot", "number", "value_here", "odd", "way"] ["rng", "rows", "some"] (defScope s__law_bent) := ⟨rfl, rfl, rfl, by decide +kernel, rfl, by decide +kernel, by decide +kernel⟩
abbrev s__law_caught : Stmt := topS 40
theorem sc__law_caught : FnScope ["e", "some", "words", "word", "so"] ["e"] (defScope s__law_caught) := ⟨rfl, rfl, rfl, by decide +kernel, rfl, by decide +kernel, by decide +kernel⟩
abbrev s__law_raised : Stmt := topS 46
theorem sc__law_raised : FnScope ["made", "some", "e"] ["made", "some"] (defScope s__law_raised) := ⟨rfl, rfl, rfl, by decide +kernel, rfl, by decide +kernel, by decide +kernel⟩
abbrev s__law_due : Stmt := topS 47
theorem sc__law_due : FnScope ["words", "rows", "some", "held", "spot", "move", "later", "word"] ["words", "rows", "some"] (defScope s__law_due) := ⟨rfl, rfl, rfl, by decide +kernel, rfl, by decide +kernel, by decide +kernel⟩
abbrev s_law : Stmt := topS 48
theorem sc_law : FnScope ["script", "rng", "lap", "words", "rows", "made", "some", "held", "turn", "given", "kept", "due", "bare"] ["script"] (defScope s_law) := ⟨rfl, rfl, rfl, by decide +kernel, rfl, by decide +kernel, by decide +kernel⟩
/-- low above high -/
def up : Rg → Bool
  | some (some l, some h) => decide (l > h)
  | _ => false
theorem up_ok {r : Rg} (h : RgFit r) : up r = false := by
  match r, h with
  | none, _ => rfl
  | some (none, _), _ => rfl
  | some (some _, none), _ => rfl
  | some (some l, some h), q =>
    have q' : l ≤ h := q
    exact decide_eq_false (by omega)
def gr : Option Int → Option Int → Option Int
  | none, b => b
  | some a, none => some a
  | some a, some b => some (if b > a then b else a)
def le2 : Option Int → Option Int → Option Int
  | none, b => b
  | some a, none => some a
  | some a, some b => some (if b < a then b else a)
def comR : Rg → Rg → Rg
  | some (l1, h1), some (l2, h2) => if up (some (gr l1 l2, le2 h1 h2)) = true then none else some (gr l1 l2, le2 h1 h2)
  | _, _ => none
def oD : Option Int → PyData
  | none => .none
  | some i => .int i
def rgD : Rg → PyData
  | none => .none
  | some (l, h) => .tuple [oD l, oD h]
theorem dp_ov {K : PySem.W.Frag} {H : Hp} (o : Option Int) : Dp K H (ov o) (oD o) := by
  cases o with
  | none => exact .non
  | some i => exact .int i
theorem dp_rg {K : PySem.W.Frag} {H : Hp} {v : V} {r : Rg} (h : RgV K H v r) : Dp K H v (rgD r) := by
  match r, h with
  | none, h =>
    have h' : v = .non := h
    subst h'
    exact .non
  | some (l, u), h =>
    obtain ⟨p, rfl, s⟩ := h
    exact .tup s (.cons (dp_ov l) (.cons (dp_ov u) .nil))


def sp_is_upside_down (K : PySem.W.Frag) : Sp := fun vs H Q _ => ∃ v r, vs = [v] ∧ RgV K H v r ∧ Q (.bl (up r)) H

def sp_check_range (K : PySem.W.Frag) : Sp := fun vs H Q _ => ∃ v r, vs = [v] ∧ RgV K H v r ∧ RgFit r ∧ Q .non H

def sp__least (_ : PySem.W.Frag) : Sp := fun vs H Q _ => ∃ a b, vs = [ov a, ov b] ∧ Q (ov (le2 a b)) H

def sp__greatest (_ : PySem.W.Frag) : Sp := fun vs H Q _ => ∃ a b, vs = [ov a, ov b] ∧ Q (ov (gr a b)) H

def sp_common (K : PySem.W.Frag) : Sp := fun vs H Q _ => ∃ v1 v2 r1 r2, vs = [v1, v2] ∧ RgV K H v1 r1 ∧ RgV K H v2 r2 ∧ RgFit r1 ∧ RgFit r2 ∧
  ∀ v H', Same H H' → RgV K H' v (comR r1 r2) → Q v H'


theorem eqv_oD (a b : Option Int) : PyData.eqv (oD a) (oD b) = decide (a = b) := by
  cases a with
  | none => cases b <;> simp [oD, PyData.eqv]
  | some x =>
    cases b with
    | none => simp [oD, PyData.eqv]
    | some y => by_cases h : x = y <;> simp [oD, PyData.eqv, h]
theorem eqv_rgD (a b : Rg) : PyData.eqv (rgD a) (rgD b) = decide (a = b) := by
  match a, b with
  | none, none => simp [rgD, PyData.eqv]
  | none, some (l, h) => simp [rgD, PyData.eqv]
  | some (l, h), none => simp [rgD, PyData.eqv]
  | some (l, h), some (l2, h2) =>
    simp only [rgD, PyData.eqv, PyData.eqvAll, eqv_oD]
    by_cases c1 : l = l2 <;> by_cases c2 : h = h2 <;> simp [c1, c2]
theorem shaped_oD (a : Option Int) : SeqAt.shaped (oD a) = true := by cases a <;> rfl
theorem shaped_rgD (a : Rg) : SeqAt.shaped (rgD a) = true := by
  match a with
  | none => rfl
  | some (some l, some h) => rfl
  | some (none, some h) => rfl
  | some (some l, none) => rfl
  | some (none, none) => rfl
def sp_lies_within (K : PySem.W.Frag) : Sp := fun vs H Q _ => ∃ v1 v2 r1 r2, vs = [v1, v2] ∧ RgV K H v1 r1 ∧ RgV K H v2 r2 ∧ RgFit r1 ∧ RgFit r2 ∧
  ∀ H', Same H H' → Q (.bl (decide (comR r1 r2 = r1))) H'

def lon : Option Int → Option Int → Option Int
  | some a, some b => some (if b < a then b else a)
  | _, _ => none
def gon : Option Int → Option Int → Option Int
  | some a, some b => some (if b > a then b else a)
  | _, _ => none
def joinR : Rg → Rg → Rg
  | none, r => r
  | r, none => r
  | some (l1, h1), some (l2, h2) => some (lon l1 l2, gon h1 h2)



def tk (f a : Int) (o : Option Int) : Option Int := o.map fun x => f * x + a
def stepR (f a : Int) : Rg → Rg
  | none => none
  | some (l, h) => if f > 0 then some (tk f a l, tk f a h) else some (tk f a h, tk f a l)
def SzO (o : Option Int) : Prop := ∀ i, o = some i → i.natAbs < 2 ^ 1000
def SzR : Rg → Prop
  | none => True
  | some (l, h) => SzO l ∧ SzO h


theorem powW_ok {x : Int} {a : Nat} (h : x.natAbs < 2 ^ a) (h0 : 0 < a) (h2 : a ≤ 1000000) : CPowW x 3 := by
  have l := PySem.Flt.log2_lt_of h0 h
  have b : Builtin.Int.intBits x ≤ x.natAbs.log2 + 1 := by
    unfold Builtin.Int.intBits
    split <;> omega
  refine ⟨by decide, ?_⟩
  have e : (2 : Int) ^ 27 = 134217728 := by decide
  rw [e]
  omega
theorem ten60 : CPowW 10 60 := ⟨by decide, by decide⟩
theorem ten18 : CPowW 10 18 := ⟨by decide, by decide⟩
theorem ten31 : CPowW 10 31 := ⟨by decide, by decide⟩


def sp__law_draw (_ : PySem.W.Frag) : Sp := fun vs H Q _ => ∃ a lim n, vs = [.ref a, .int lim] ∧ RS n H a ∧ n ≤ 1000000 ∧ 0 < lim ∧ lim.natAbs < 2 ^ 200 ∧
  ∀ r H', 0 ≤ r → r < lim → Kp a H H' → RS (n + 1) H' a → Q (.int r) H'

theorem cut_ints {ns : List Int} {lo hi : Option Int} {i : Nat} {x : V} (h : (cutV (ns.map V.int) lo hi)[i]? = some x) : ∃ z : Int, x = .int z := by
  have m : x ∈ cutV (ns.map V.int) lo hi := List.mem_of_getElem? h
  unfold cutV at m
  have m2 := List.mem_of_mem_drop (List.mem_of_mem_take m)
  obtain ⟨z, _, e⟩ := List.mem_map.mp m2
  exact ⟨z, e.symm⟩
theorem big_step {dg f : Int} {i : Nat} (h0 : 0 ≤ dg) (h : dg.natAbs < 2 ^ (200 * i + 1)) :
    0 ≤ dg * (10 : Int) ^ (60 : Int).toNat + f % (10 : Int) ^ (60 : Int).toNat ∧
    (dg * (10 : Int) ^ (60 : Int).toNat + f % (10 : Int) ^ (60 : Int).toNat).natAbs < 2 ^ (200 * (i + 1) + 1) := by
  have T : (10 : Int) ^ (60 : Int).toNat = 1000000000000000000000000000000000000000000000000000000000000 := by decide
  rw [T]
  have m0 : 0 ≤ f % 1000000000000000000000000000000000000000000000000000000000000 := Int.emod_nonneg _ (by decide)
  have m1 : f % 1000000000000000000000000000000000000000000000000000000000000 < 1000000000000000000000000000000000000000000000000000000000000 := Int.emod_lt_of_pos _ (by decide)
  generalize f % 1000000000000000000000000000000000000000000000000000000000000 = g at m0 m1
  have e : 2 ^ (200 * (i + 1) + 1) = 2 ^ (200 * i + 1) * 2 ^ 200 := by rw [← Nat.pow_add]; congr 1
  have T2 : (2 : Nat) ^ 200 = 1606938044258990275541962092341162602522202993782792835301376 := by decide
  rw [e, T2]
  generalize 2 ^ (200 * i + 1) = B at h
  omega
theorem keep_step {dg : Int} {i : Nat} (h : dg.natAbs < 2 ^ (200 * i + 1)) : dg.natAbs < 2 ^ (200 * (i + 1) + 1) :=
  Nat.lt_of_lt_of_le h (Nat.pow_le_pow_right (by decide) (by omega))
theorem end_step {dg : Int} {i : Nat} (hi : i ≤ 63) (h : dg.natAbs < 2 ^ (200 * i + 1)) : dg.natAbs < 2 ^ 13000 :=
  Nat.lt_of_lt_of_le h (Nat.pow_le_pow_right (by decide) (by omega))
def sp__law_rng (K : PySem.W.Frag) : Sp := fun vs H Q _ => ∃ (a : Addr) (ns : List Int), vs = [.ref a] ∧ SqL K H a (ns.map V.int) ∧ ns.length ≤ 63 ∧
  ∀ p H', Same H H' → H p = none → RS 0 H' p → Q (.ref p) H'

/-- a drawn bound -/
def BdOk (m : Int) : Option Int → Prop
  | none => True
  | some i => -m ≤ i ∧ i ≤ m

def RgIn (m : Int) : Rg → Prop
  | none => True
  | some (l, h) => BdOk m l ∧ BdOk m h

def loR : Option Int → Int
  | none => -40
  | some x => x
def hiR : Option Int → Int
  | none => 41
  | some x => x + 1
def rgI (a b : Int) : List Int := (List.range (b - a).toNat).map fun i => a + (i : Nat)
theorem rgV_rgI (a b : Int) : rgV a b = (rgI a b).map V.int := by
  unfold rgV rgI
  rw [List.map_map]
  rfl
def listR : Rg → List Int
  | none => []
  | some (l, h) => rgI (loR l) (hiR h)

def farO (k : Int) (o : Option Int) : Option Int := o.map (· + k)
def farR (k : Int) (r : Rg) : Rg := r.map fun q => (farO k q.1, farO k q.2)

abbrev Cd := Str × Rg
def cdD (c : Cd) : PyData := .tuple [.str c.1, rgD c.2]
/-- a rule -/
inductive Rl where
  | set (x : Str) (r : Rg) (cs : List Cd)
  | stp (x y : Str) (f a : Int) (r : Rg) (cs : List Cd)
def Rl.d : Rl → PyData
  | .set x r cs => .tuple [.str "set", .str x, rgD r, .tuple (cs.map cdD)]
  | .stp x y f a r cs => .tuple [.str "step", .str x, .str y, .int f, .int a, rgD r, .tuple (cs.map cdD)]
def Rl.cs : Rl → List Cd
  | .set _ _ cs => cs
  | .stp _ _ _ _ _ cs => cs
def Rl.names : Rl → List Str
  | .set x _ cs => x :: cs.map (·.1)
  | .stp x y _ _ _ cs => x :: y :: cs.map (·.1)
def Rl.rgs : Rl → List Rg
  | .set _ r cs => r :: cs.map (·.2)
  | .stp _ _ _ _ r cs => r :: cs.map (·.2)
def badR (r : Rg) : Bool := r.isNone || up r
def Rl.zero : Rl → Bool
  | .set _ _ _ => false
  | .stp _ _ f _ _ _ => decide (f = 0)
def Rl.faulty (r : Rl) (ns : List Str) : Bool := r.zero || ((r.names.any fun x => !decide (x ∈ ns)) || r.rgs.any badR)
theorem dp_str_inv {K : PySem.W.Frag} {H : Hp} {v : V} {x : Str} (h : Dp K H v (.str x)) : v = .str x := by cases h; rfl
theorem dp_int_inv {K : PySem.W.Frag} {H : Hp} {v : V} {x : Int} (h : Dp K H v (.int x)) : v = .int x := by cases h; rfl
theorem dp_non_inv {K : PySem.W.Frag} {H : Hp} {v : V} (h : Dp K H v .none) : v = .non := by cases h; rfl
theorem dp_tup_inv {K : PySem.W.Frag} {H : Hp} {v : V} {ds : List PyData} (h : Dp K H v (.tuple ds)) : ∃ p xs, v = .ref p ∧ SqT K H p xs ∧ DpAll K H xs ds := by
  cases h with
  | tup s a => exact ⟨_, _, rfl, s, a⟩
theorem dpa_cons_inv {K : PySem.W.Frag} {H : Hp} {vs : List V} {d : PyData} {ds : List PyData} (h : DpAll K H vs (d :: ds)) : ∃ v ws, vs = v :: ws ∧ Dp K H v d ∧ DpAll K H ws ds := by
  cases h with
  | cons a b => exact ⟨_, _, rfl, a, b⟩
theorem dpa_nil_inv {K : PySem.W.Frag} {H : Hp} {vs : List V} (h : DpAll K H vs []) : vs = [] := by cases h; rfl
theorem dp_oD_inv {K : PySem.W.Frag} {H : Hp} {v : V} {o : Option Int} (h : Dp K H v (oD o)) : v = ov o := by
  cases o with
  | none => exact dp_non_inv h
  | some i => exact dp_int_inv h
theorem dp_rg_inv {K : PySem.W.Frag} {H : Hp} {v : V} {r : Rg} (h : Dp K H v (rgD r)) : RgV K H v r := by
  match r, h with
  | none, h => exact dp_non_inv h
  | some (l, u), h =>
    obtain ⟨p, xs, rfl, s, a⟩ := dp_tup_inv h
    obtain ⟨v1, w1, rfl, h1, a⟩ := dpa_cons_inv a
    obtain ⟨v2, w2, rfl, h2, a⟩ := dpa_cons_inv a
    obtain rfl := dpa_nil_inv a
    obtain rfl := dp_oD_inv h1
    obtain rfl := dp_oD_inv h2
    exact ⟨p, rfl, s⟩
theorem cd_inv {K : PySem.W.Frag} {H : Hp} {v : V} {c : Cd} (h : Dp K H v (cdD c)) : ∃ p vr, v = .ref p ∧ SqT K H p [.str c.1, vr] ∧ RgV K H vr c.2 := by
  obtain ⟨p, xs, rfl, s, a⟩ := dp_tup_inv h
  obtain ⟨v1, w1, rfl, h1, a⟩ := dpa_cons_inv a
  obtain ⟨v2, w2, rfl, h2, a⟩ := dpa_cons_inv a
  obtain rfl := dpa_nil_inv a
  obtain rfl := dp_str_inv h1
  exact ⟨p, v2, rfl, s, dp_rg_inv h2⟩
theorem set_inv {K : PySem.W.Frag} {H : Hp} {v : V} {x : Str} {r : Rg} {cs : List Cd} (h : Dp K H v (Rl.set x r cs).d) :
    ∃ p vr q ys, v = .ref p ∧ SqT K H p [.str "set", .str x, vr, .ref q] ∧ RgV K H vr r ∧ SqT K H q ys ∧ DpAll K H ys (cs.map cdD) := by
  obtain ⟨p, xs, rfl, s, a⟩ := dp_tup_inv h
  obtain ⟨v1, w1, rfl, h1, a⟩ := dpa_cons_inv a
  obtain ⟨v2, w2, rfl, h2, a⟩ := dpa_cons_inv a
  obtain ⟨v3, w3, rfl, h3, a⟩ := dpa_cons_inv a
  obtain ⟨v4, w4, rfl, h4, a⟩ := dpa_cons_inv a
  obtain rfl := dpa_nil_inv a
  obtain rfl := dp_str_inv h1
  obtain rfl := dp_str_inv h2
  obtain ⟨q, ys, rfl, s2, a2⟩ := dp_tup_inv h4
  exact ⟨p, v3, q, ys, rfl, s, dp_rg_inv h3, s2, a2⟩
theorem stp_inv {K : PySem.W.Frag} {H : Hp} {v : V} {x y : Str} {f a : Int} {r : Rg} {cs : List Cd} (h : Dp K H v (Rl.stp x y f a r cs).d) :
    ∃ p vr q ys, v = .ref p ∧ SqT K H p [.str "step", .str x, .str y, .int f, .int a, vr, .ref q] ∧ RgV K H vr r ∧ SqT K H q ys ∧ DpAll K H ys (cs.map cdD) := by
  obtain ⟨p, xs, rfl, s, z⟩ := dp_tup_inv h
  obtain ⟨v1, w1, rfl, h1, z⟩ := dpa_cons_inv z
  obtain ⟨v2, w2, rfl, h2, z⟩ := dpa_cons_inv z
  obtain ⟨v3, w3, rfl, h3, z⟩ := dpa_cons_inv z
  obtain ⟨v4, w4, rfl, h4, z⟩ := dpa_cons_inv z
  obtain ⟨v5, w5, rfl, h5, z⟩ := dpa_cons_inv z
  obtain ⟨v6, w6, rfl, h6, z⟩ := dpa_cons_inv z
  obtain ⟨v7, w7, rfl, h7, z⟩ := dpa_cons_inv z
  obtain rfl := dpa_nil_inv z
  obtain rfl := dp_str_inv h1
  obtain rfl := dp_str_inv h2
  obtain rfl := dp_str_inv h3
  obtain rfl := dp_int_inv h4
  obtain rfl := dp_int_inv h5
  obtain ⟨q, ys, rfl, s2, a2⟩ := dp_tup_inv h7
  exact ⟨p, v6, q, ys, rfl, s, dp_rg_inv h6, s2, a2⟩
theorem dpa_map_get {K : PySem.W.Frag} {H : Hp} {α : Type} {f : α → PyData} {ys : List V} {cs : List α} {i : Nat} {v : V} (h : DpAll K H ys (cs.map f)) (e : ys[i]? = some v) : ∃ c, cs[i]? = some c ∧ Dp K H v (f c) := by
  obtain ⟨d, e2, hd⟩ := dpa_get h e
  rw [List.getElem?_map] at e2
  cases e3 : cs[i]? with
  | none => rw [e3] at e2; cases e2
  | some c =>
    rw [e3] at e2
    have := Option.some.inj e2
    subst this
    exact ⟨c, rfl, hd⟩
theorem list_eq_of {α : Type} {xs ys : List α} (l : xs.length = ys.length) (h : ∀ (i : Nat) (x : α), xs[i]? = some x → ys[i]? = some x) : xs = ys := by
  apply List.ext_getElem?
  intro i
  by_cases c : i < xs.length
  · have e := List.getElem?_eq_getElem c
    rw [e]
    exact (h i _ e).symm
  · rw [List.getElem?_eq_none (by omega), List.getElem?_eq_none (by omega)]


theorem sEqT {x : Str} : V.bl (decide (V.str x = V.str x)) = V.bl true := congrArg V.bl (decide_eq_true rfl)
/-- a list of strings, by place -/
theorem strs_of {cs : List Cd} {ys : List V} (l : ys.length = cs.length) (h : ∀ (i : Nat) y, ys[i]? = some y → ∃ c : Cd, cs[i]? = some c ∧ y = .str c.1) : ys = (cs.map (·.1)).map V.str := by
  refine list_eq_of (by rw [List.length_map, List.length_map, l]) fun i x e => ?_
  obtain ⟨c, ec, rfl⟩ := h i x e
  rw [List.getElem?_map, List.getElem?_map, ec]
  rfl
def sp__names_of (K : PySem.W.Frag) : Sp := fun vs H Q _ => ∃ v r, vs = [v] ∧ Dp K H v (Rl.d r) ∧ r.cs.length ≤ 1000 ∧
  ∀ p H', Same H H' → H p = none → H' p = some (.lst (r.names.map V.str)) → Q (.ref p) H'

theorem noL_rg (r : Rg) : NoL (rgD r) := by
  match r with
  | none => exact .non
  | some (l, u) =>
    refine .tup fun d m => ?_
    rcases List.mem_cons.mp m with rfl | m
    · cases l
      · exact .non
      · exact .int _
    rcases List.mem_cons.mp m with rfl | m
    · cases u
      · exact .non
      · exact .int _
    · exact absurd m (by simp)
theorem noL_cd (c : Cd) : NoL (cdD c) := by
  refine .tup fun d m => ?_
  rcases List.mem_cons.mp m with rfl | m
  · exact .str _
  rcases List.mem_cons.mp m with rfl | m
  · exact noL_rg _
  · exact absurd m (by simp)
theorem noL_cds (cs : List Cd) : NoL (.tuple (cs.map cdD)) := .tup fun d m => by
  obtain ⟨c, _, rfl⟩ := List.mem_map.mp m
  exact noL_cd c
theorem noL_rl (r : Rl) : NoL r.d := by
  match r with
  | .set x rr cs =>
    refine .tup fun d m => ?_
    simp only [List.mem_cons, List.not_mem_nil, or_false] at m
    rcases m with rfl | rfl | rfl | rfl
    · exact .str _
    · exact .str _
    · exact noL_rg _
    · exact noL_cds _
  | .stp x y f a rr cs =>
    refine .tup fun d m => ?_
    simp only [List.mem_cons, List.not_mem_nil, or_false] at m
    rcases m with rfl | rfl | rfl | rfl | rfl | rfl | rfl
    · exact .str _
    · exact .str _
    · exact .str _
    · exact .int _
    · exact .int _
    · exact noL_rg _
    · exact noL_cds _
theorem rl_last {K : PySem.W.Frag} {H : Hp} {v : V} {r : Rl} (h : Dp K H v r.d) : ∃ p xs vr c ys rr, v = .ref p ∧ SqT K H p xs ∧ atI xs (-2) = some vr ∧ atI xs (-1) = some (.ref c) ∧ RgV K H vr rr ∧
    SqT K H c ys ∧ DpAll K H ys (r.cs.map cdD) ∧ r.rgs = rr :: r.cs.map (·.2) := by
  match r, h with
  | .set x r cs, h =>
    obtain ⟨p, vr, c, ys, rfl, s, hr2, s2, a2⟩ := set_inv h
    exact ⟨p, _, vr, c, ys, r, rfl, s, rfl, rfl, hr2, s2, a2, rfl⟩
  | .stp x y f a r cs, h =>
    obtain ⟨p, vr, c, ys, rfl, s, hr2, s2, a2⟩ := stp_inv h
    exact ⟨p, _, vr, c, ys, r, rfl, s, rfl, rfl, hr2, s2, a2, rfl⟩
theorem dpa_of {K : PySem.W.Frag} {H : Hp} {α : Type} {f : α → PyData} : ∀ {cs : List α} {ys : List V}, ys.length = cs.length → (∀ (i : Nat) y, ys[i]? = some y → ∃ c : α, cs[i]? = some c ∧ Dp K H y (f c)) → DpAll K H ys (cs.map f)
  | [], [], _, _ => .nil
  | c :: cs, y :: ys, l, h => by
    obtain ⟨c', e, d⟩ := h 0 y rfl
    have e' : c = c' := Option.some.inj e
    subst e'
    exact .cons d (dpa_of (by simpa using l) fun i z e => by simpa using h (i + 1) z (by simpa using e))
def sp__ranges_of (K : PySem.W.Frag) : Sp := fun vs H Q _ => ∃ v r, vs = [v] ∧ Dp K H v (Rl.d r) ∧ r.cs.length ≤ 1000 ∧
  ∀ p H' xs, Same H H' → H p = none → H' p = some (.lst xs) → DpAll K H' xs (r.rgs.map rgD) → Q (.ref p) H'

theorem inV_strs (x : Str) : ∀ ns : List Str, inV (.str x) (ns.map V.str) = decide (x ∈ ns)
  | [] => rfl
  | n :: ns => by
    have ih := inV_strs x ns
    unfold inV at ih ⊢
    rw [List.map_cons, List.any_cons, ih]
    show ((n == x) || decide (x ∈ ns)) = decide (x ∈ n :: ns)
    rw [Bool.eq_iff_iff, Bool.or_eq_true, beq_iff_eq, decide_eq_true_iff, decide_eq_true_iff, List.mem_cons]
    constructor
    · rintro (h | h)
      · exact .inl h.symm
      · exact .inr h
    · rintro (h | h)
      · exact .inl h.symm
      · exact .inr h
theorem flat_strs : ∀ ns : List Str, (ns.map V.str).all flatV = true
  | [] => rfl
  | n :: ns => by rw [List.map_cons, List.all_cons, flat_strs ns]; rfl
/-- a list of booleans, by place -/
theorem bls_of {α : Type} {f : α → Bool} {cs : List α} {ys : List V} (l : ys.length = cs.length) (h : ∀ (i : Nat) y, ys[i]? = some y → ∃ c : α, cs[i]? = some c ∧ y = .bl (f c)) : ys = (cs.map f).map V.bl := by
  refine list_eq_of (by rw [List.length_map, List.length_map, l]) fun i x e => ?_
  obtain ⟨c, ec, rfl⟩ := h i x e
  rw [List.getElem?_map, List.getElem?_map, ec]
  rfl
theorem any_id {α : Type} (f : α → Bool) (cs : List α) : (cs.map f).any id = cs.any f := by
  rw [List.any_map]
  rfl
theorem map_get {α β : Type} {f : α → β} {cs : List α} {i : Nat} {y : β} (h : (cs.map f)[i]? = some y) : ∃ c, cs[i]? = some c ∧ y = f c := by
  rw [List.getElem?_map] at h
  cases e : cs[i]? with
  | none => rw [e] at h; cases h
  | some c =>
    rw [e] at h
    exact ⟨c, rfl, (Option.some.inj h).symm⟩
theorem names_le {r : Rl} : r.names.length ≤ 2 + r.cs.length := by
  match r with
  | .set x r cs => show (x :: cs.map (·.1)).length ≤ _; rw [List.length_cons, List.length_map]; show _ ≤ 2 + cs.length; omega
  | .stp x y f a r cs => show (x :: y :: cs.map (·.1)).length ≤ _; rw [List.length_cons, List.length_cons, List.length_map]; show _ ≤ 2 + cs.length; omega
theorem rgs_le {r : Rl} : r.rgs.length ≤ 2 + r.cs.length := by
  match r with
  | .set x r cs => show (r :: cs.map (·.2)).length ≤ _; rw [List.length_cons, List.length_map]; show _ ≤ 2 + cs.length; omega
  | .stp x y f a r cs => show (r :: cs.map (·.2)).length ≤ _; rw [List.length_cons, List.length_map]; show _ ≤ 2 + cs.length; omega
def sp_is_faulty (K : PySem.W.Frag) : Sp := fun vs H Q _ => ∃ v r a ns, vs = [v, .ref a] ∧ Dp K H v (Rl.d r) ∧ r.cs.length ≤ 1000 ∧ SqL K H a (ns.map V.str) ∧
  ∀ H', Same H H' → Q (.bl (r.faulty ns)) H'

def nameOk (x : Str) : Bool := (decide (1 ≤ x.cps.size) && decide (x.cps.size ≤ 8)) && x.cps.toList.all fun c => decide (97 ≤ c) && decide (c ≤ 122)
theorem lt_one (c d : Nat) : (!decide (([c] : List Nat) < [d])) = decide (d ≤ c) := by
  rw [Bool.eq_iff_iff, Bool.not_eq_true', decide_eq_false_iff_not, decide_eq_true_iff, List.cons_lt_cons_iff]
  constructor
  · intro h
    have := fun z => h (.inl z)
    omega
  · rintro h (z | ⟨_, z⟩)
    · omega
    · exact absurd z (List.lt_irrefl [])
/-- [e for c in x] over a string, each e a boolean -/
theorem lc_strB {j : Nat} {te : TE} {σ : L2.St} {H : Hp} {Qd : Hp → Prop} {D : Addr} (x : Str) (f : Nat → Bool)
    (hz : x.cps.size ≤ 1000) (nD : H D = none)
    (hw : ∀ z : V, wipe ((wipe σ [j]).set j (some z)) [j] = wipe σ [j])
    (he : ∀ (c : Nat) (H' : Hp) (R : VK), R (.bl (f c)) H' → te ((wipe σ [j]).set j (some (.str ⟨#[c]⟩))) H' R)
    (q : Qd (upd H D (.lst ((x.cps.toList.map f).map V.bl)))) :
    ∃ Z : Nat → Nat → Hp → Prop, (∃ m, Z 0 m (upd H D (.lst []))) ∧
      ∀ i m G, Z i m G →
        ((Its x).stop i G ∧ Qd G) ∨
        ((Its x).go i G ∧ ∃ N : Hp → Prop, (∀ G', N G' → ∃ m', m' < m ∧ Z (i + 1) m' G') ∧
          ∀ z G', (Its x).yld i G z G' →
            gName j z (wipe σ [j]) G' fun σ2 G2 =>
              wipe σ2 [j] = wipe σ [j] ∧
              tYes σ2 G2 fun b G3 =>
                if b = true then
                  te σ2 G3 fun y G4 =>
                    ∃ acc, G4 D = some (.lst acc) ∧ acc.length < sizeLine ∧
                      N (upd G4 D (.lst (acc ++ [y])))
                else N G3) := by
  refine lc_it (walk_str (z := x)) (fun i G => G = upd H D (.lst (((x.cps.toList.take i).map f).map V.bl))) rfl (fun _ _ _ _ => trivial) ?_ ?_
  · rintro i z G G' hi rfl ⟨rfl, c, ec, rfl⟩
    have ec' : x.cps.toList[i]? = some c := by rw [Array.getElem?_toList]; exact ec
    have tk : ((x.cps.toList.take (i + 1)).map f).map V.bl = ((x.cps.toList.take i).map f).map V.bl ++ [V.bl (f c)] := by
      rw [List.take_add_one, ec', List.map_append, List.map_append]
      rfl
    refine ⟨hw _, he c _ _ ⟨_, upd_same, ?_, ?_⟩⟩
    · rw [List.length_map, List.length_map, List.length_take]
      exact Nat.lt_of_le_of_lt (Nat.le_trans (Nat.min_le_left _ _) (by omega : i ≤ 100000)) (by decide)
    · rw [upd_upd, tk]
  · rintro G rfl
    have e : x.cps.toList.take x.cps.size = x.cps.toList := by
      rw [← Array.length_toList, List.take_length]
    rw [e]
    exact q
def sp_is_name (K : PySem.W.Frag) : Sp := fun vs H Q _ => ∃ x : Str, vs = [.str x] ∧ x.cps.size ≤ 1000 ∧ ∀ H', Same H H' → Q (.bl (nameOk x)) H'

/-- what System check asks -/
structure SysOk (ns : List Str) (rs : List Rl) : Prop where
  nd : ns.Nodup
  ok : ∀ x ∈ ns, nameOk x = true
  nf : ∀ r ∈ rs, r.faulty ns = false
  cs : ∀ r ∈ rs, r.cs.length ≤ 1000
  ln : ns.length < 64
  lr : rs.length ≤ 1000
theorem nameOk_size {x : Str} (h : nameOk x = true) : x.cps.size ≤ 8 := by
  unfold nameOk at h
  rw [Bool.and_eq_true, Bool.and_eq_true] at h
  exact of_decide_eq_true h.1.2
def keyT (l : List Str) : List (Key × V) := l.map fun n => (Sum.inr n, V.bl true)
theorem valV_keyT {x : Str} : ∀ {l : List Str}, x ∉ l → valV (keyT l) (Sum.inr x) = none
  | [], _ => rfl
  | n :: l, h => by
    rw [List.mem_cons] at h
    have e : ¬ (Sum.inr n : Key) = Sum.inr x := fun z => h (.inl (Sum.inr.inj z).symm)
    show valV ((Sum.inr n, V.bl true) :: keyT l) (Sum.inr x) = none
    rw [valV_neg e]
    exact valV_keyT fun z => h (.inr z)
theorem nodup_take {l : List Str} {i : Nat} {x : Str} (nd : l.Nodup) (h : l[i]? = some x) : x ∉ l.take i := by
  intro m
  obtain ⟨j, hj⟩ := List.mem_iff_getElem?.mp m
  have lj : j < (l.take i).length := (List.getElem?_eq_some_iff.mp hj).1
  rw [List.length_take] at lj
  rw [List.getElem?_take_of_lt (by omega)] at hj
  have li : i < l.length := (List.getElem?_eq_some_iff.mp h).1
  have e := (List.getElem?_inj (i := j) (j := i) (by omega) nd).mp (hj.trans h.symm)
  omega
def sp__check_system (K : PySem.W.Frag) : Sp := fun vs H Q _ => ∃ a b ns xs rs, vs = [.ref a, .ref b] ∧ SqL K H a (ns.map V.str) ∧ SqL K H b xs ∧ DpAll K H xs (rs.map Rl.d) ∧ SysOk ns rs ∧
  ∀ H', Same H H' → Q .non H'

/-- what the top has written of the class System -/
structure SysT (K : PySem.W.Frag) (mg : Str → Option Value) (C : Addr) : Prop where
  ck : Ck K mg C "System"
  nN : NoAttr K C "_names"
  nR : NoAttr K C "_rules"
  ha : PySem.W.findIn K (.ref C) "__class__" = some (some (.builtin "object.__class__"))
  hn : PySem.W.specialIn K (.builtin "object.__class__") "__get__" = some (some (.builtin "getset_descriptor.__get__"))
  ht : PySem.W.takesIn K (.builtin "object.__class__") = some true
  hm : PySem.W.mroIn K C (.type "object") = some true
  ki : PySem.W.isClsIn K C = true
  ty : PySem.W.typeIn K (.ref C) = some (.type "type")
theorem subL {K : PySem.W.Frag} {C : Addr} : PySem.W.subIn K (.type "list") (.ref C) = some false := by with_unfolding_all rfl
theorem subS {K : PySem.W.Frag} {C : Addr} : PySem.W.subIn K (.type "str") (.ref C) = some false := by with_unfolding_all rfl
theorem subI {K : PySem.W.Frag} {C : Addr} : PySem.W.subIn K (.type "int") (.ref C) = some false := by with_unfolding_all rfl
theorem nf_of {K : PySem.W.Frag} {C : Addr} {t : Value} (h : PySem.W.subIn K t (.ref C) = some false) : PySem.W.notFirst K C t = true := by
  unfold PySem.W.notFirst
  rw [h]
  exact Bool.or_true _
theorem nfC {K : PySem.W.Frag} {C : Addr} : PySem.W.notFirst K C (.ref C) = true := by
  unfold PySem.W.notFirst
  rw [beq_self_eq_true, Bool.true_or]
theorem kit_of_no {K : PySem.W.Frag} {mg : Str → Option Value} {C : Addr} (T : SysT K mg C) {n : String} (h : PySem.W.subIn K (.type n) (.ref C) = some false) : PySem.W.kitOne K (.type n) (.ref C) = some false := by
  have e : PySem.W.kitOne K (.type n) (.ref C) = if ((PySem.W.clsIn K C).isSome && PySem.W.typeIn K (.ref C) == some (.type "type")) = true then PySem.W.subIn K (.type n) (.ref C) else none := rfl
  have h1 : (PySem.W.clsIn K C).isSome = true := T.ki
  rw [e, h1, T.ty, h]
  rfl
/-- a system: its object at a, its names at p, its rules at q -/
def SysAt (K : PySem.W.Frag) (C : Addr) (H : Hp) (a p q : Addr) (ns : List Str) (rs : List Rl) : Prop :=
  ∃ dx fs xs, H a = some (.ins C dx fs) ∧ fs.lookup ("_names" : Str) = some (V.ref p) ∧ fs.lookup ("_rules" : Str) = some (V.ref q) ∧ H p = some (.lst (ns.map V.str)) ∧ H q = some (.lst xs) ∧ DpAll K H xs (rs.map Rl.d) ∧ ∀ m : Str, m ≠ "_names" → m ≠ "_rules" → fs.lookup m = none
theorem SysAt.same {K : PySem.W.Frag} {C : Addr} {H H' : Hp} {a p q : Addr} {ns : List Str} {rs : List Rl} (k : Same H H') (h : SysAt K C H a p q ns rs) : SysAt K C H' a p q ns rs := by
  obtain ⟨dx, fs, xs, h1, h2, h3, h4, h5, h6, h7⟩ := h
  exact ⟨dx, fs, xs, k _ _ h1, h2, h3, k _ _ h4, k _ _ h5, dpa_same k h6, h7⟩
/-- the object at o is what may change -/
def Ki (o : Addr) (H H' : Hp) : Prop := (∃ C dx fs, H o = some (.ins C dx fs)) ∧ Kp o H H'
theorem SqL.ki {K : PySem.W.Frag} {H H' : Hp} {o b : Addr} {xs : List V} (k : Ki o H H') (h : SqL K H b xs) : SqL K H' b xs := by
  obtain ⟨⟨C, dx, fs, e⟩, kp⟩ := k
  rcases h with (h | ⟨u, h⟩) | h
  · exact .inl (.inl (kp _ _ (ne_of h e (fun z => by cases z)) h))
  · exact .inl (.inr ⟨u, kp _ _ (ne_of h e (fun z => by cases z)) h⟩)
  · exact .inr h
theorem SqT.ki {K : PySem.W.Frag} {H H' : Hp} {o b : Addr} {xs : List V} (k : Ki o H H') (h : SqT K H b xs) : SqT K H' b xs := by
  obtain ⟨⟨C, dx, fs, e⟩, kp⟩ := k
  rcases h with (h | ⟨u, h⟩) | h
  · exact .inl (.inl (kp _ _ (ne_of h e (fun z => by cases z)) h))
  · exact .inl (.inr ⟨u, kp _ _ (ne_of h e (fun z => by cases z)) h⟩)
  · exact .inr h
mutual
theorem dp_ki {K : PySem.W.Frag} {H H' : Hp} {o : Addr} (k : Ki o H H') : ∀ {v : V} {d : PyData}, Dp K H v d → Dp K H' v d
  | _, _, .non => .non
  | _, _, .bl b => .bl b
  | _, _, .int i => .int i
  | _, _, .str x => .str x
  | _, _, .lst s a => .lst (SqL.ki k s) (dpa_ki k a)
  | _, _, .tup s a => .tup (SqT.ki k s) (dpa_ki k a)
theorem dpa_ki {K : PySem.W.Frag} {H H' : Hp} {o : Addr} (k : Ki o H H') : ∀ {v : List V} {d : List PyData}, DpAll K H v d → DpAll K H' v d
  | _, _, .nil => .nil
  | _, _, .cons a b => .cons (dp_ki k a) (dpa_ki k b)
end


def sp_System___init__ (K : PySem.W.Frag) (C : Addr) : Sp := fun vs H Q _ => ∃ o dx a b ns xs rs, vs = [.ref o, .ref a, .ref b] ∧ H o = some (.ins C dx []) ∧ SqL K H a (ns.map V.str) ∧ SqL K H b xs ∧ DpAll K H xs (rs.map Rl.d) ∧ SysOk ns rs ∧
  ∀ H' p q ss, ss.Perm ns → sortedS ss = true → Kp o H H' → H p = none → H q = none → SysAt K C H' o p q ss rs → Q .non H'

def sp_System___len__ (K : PySem.W.Frag) (C : Addr) : Sp := fun vs H Q _ => ∃ a p q ns rs, vs = [.ref a] ∧ SysAt K C H a p q ns rs ∧ Q (.int rs.length) H

def sp_System_names (K : PySem.W.Frag) (C : Addr) : Sp := fun vs H Q _ => ∃ a p q ns rs, vs = [.ref a] ∧ SysAt K C H a p q ns rs ∧ ∀ l, H l = none → Q (.ref l) (upd H l (.lst (ns.map V.str)))

def sp_System_rules (K : PySem.W.Frag) (C : Addr) : Sp := fun vs H Q _ => ∃ a p q ns rs, vs = [.ref a] ∧ SysAt K C H a p q ns rs ∧ ∀ l xs, H l = none → DpAll K H xs (rs.map Rl.d) → Q (.ref l) (upd H l (.lst xs))

theorem strOk_of {x : Str} (h : nameOk x = true) : PyData.strOk x = true := by
  unfold nameOk at h
  rw [Bool.and_eq_true] at h
  unfold PyData.strOk
  rw [← Array.all_toList, List.all_eq_true]
  intro c m
  have := List.all_eq_true.mp h.2 c m
  rw [Bool.and_eq_true] at this
  have := of_decide_eq_true this.2
  exact decide_eq_true (by omega)
theorem lyA_of : ∀ {k : Nat} {ds : List PyData}, (∀ d ∈ ds, Ly k d) → LyAll k ds
  | k, [], _ => LyAll.nil.mono (Nat.zero_le _)
  | k, d :: ds, h => by
    have z := LyAll.cons (h d (by simp)) (lyA_of (k := k) (ds := ds) fun x m => h x (by simp [m]))
    rw [Nat.max_self] at z
    exact z
theorem ly_str {x : Str} (h : PyData.strOk x = true) : Ly 1 (.str x) := ⟨h, by simp [PyData.depth]⟩
theorem ly_oD (o : Option Int) : Ly 1 (oD o) := by
  cases o with
  | none => exact .none
  | some i => exact .int i
theorem ly_rg (r : Rg) : Ly 2 (rgD r) := by
  match r with
  | none => exact Ly.none.mono (by decide)
  | some (l, u) =>
    refine Ly.tuple (k := 1) (lyA_of fun d m => ?_)
    simp only [List.mem_cons, List.not_mem_nil, or_false] at m
    rcases m with rfl | rfl
    · exact ly_oD l
    · exact ly_oD u
theorem ly_cd {c : Cd} (h : PyData.strOk c.1 = true) : Ly 3 (cdD c) := by
  refine Ly.tuple (k := 2) (lyA_of fun d m => ?_)
  simp only [List.mem_cons, List.not_mem_nil, or_false] at m
  rcases m with rfl | rfl
  · exact (ly_str h).mono (by decide)
  · exact ly_rg _
theorem ly_cds {cs : List Cd} (h : ∀ c ∈ cs, PyData.strOk c.1 = true) : Ly 4 (.tuple (cs.map cdD)) := by
  refine Ly.tuple (k := 3) (lyA_of fun d m => ?_)
  obtain ⟨c, mc, rfl⟩ := List.mem_map.mp m
  exact ly_cd (h c mc)
theorem ly_rl {r : Rl} (h : ∀ x ∈ r.names, PyData.strOk x = true) : Ly 5 r.d := by
  match r, h with
  | .set x rr cs, h =>
    have hc : ∀ c ∈ cs, PyData.strOk c.1 = true := fun c m => h c.1 (List.mem_cons_of_mem _ (List.mem_map.mpr ⟨c, m, rfl⟩))
    have hx : PyData.strOk x = true := h x List.mem_cons_self
    refine Ly.tuple (k := 4) (lyA_of fun d m => ?_)
    simp only [List.mem_cons, List.not_mem_nil, or_false] at m
    rcases m with rfl | rfl | rfl | rfl
    · exact (ly_str (by decide +kernel)).mono (by decide)
    · exact (ly_str hx).mono (by decide)
    · exact (ly_rg _).mono (by decide)
    · exact ly_cds hc
  | .stp x y f a rr cs, h =>
    have hc : ∀ c ∈ cs, PyData.strOk c.1 = true := fun c m => h c.1 (List.mem_cons_of_mem _ (List.mem_cons_of_mem _ (List.mem_map.mpr ⟨c, m, rfl⟩)))
    have hx : PyData.strOk x = true := h x List.mem_cons_self
    have hy : PyData.strOk y = true := h y (List.mem_cons_of_mem _ List.mem_cons_self)
    refine Ly.tuple (k := 4) (lyA_of fun d m => ?_)
    simp only [List.mem_cons, List.not_mem_nil, or_false] at m
    rcases m with rfl | rfl | rfl | rfl | rfl | rfl | rfl
    · exact (ly_str (by decide +kernel)).mono (by decide)
    · exact (ly_str hx).mono (by decide)
    · exact (ly_str hy).mono (by decide)
    · exact (Ly.int _).mono (by decide)
    · exact (Ly.int _).mono (by decide)
    · exact (ly_rg _).mono (by decide)
    · exact ly_cds hc
/-- all texts of a system are such that can be laid -/
def Laid (ns : List Str) (rs : List Rl) : Prop := (∀ x ∈ ns, PyData.strOk x = true) ∧ ∀ r ∈ rs, ∀ x ∈ r.names, PyData.strOk x = true
theorem Laid.ns {ns : List Str} {rs : List Rl} (h : Laid ns rs) : Ly 2 (.list (ns.map PyData.str)) := Ly.list (lyA_of fun d m => by
  obtain ⟨x, mx, rfl⟩ := List.mem_map.mp m
  exact ly_str (h.1 x mx))
theorem Laid.rs {ns : List Str} {rs : List Rl} (h : Laid ns rs) : Ly 6 (.list (rs.map Rl.d)) := Ly.list (lyA_of fun d m => by
  obtain ⟨r, mr, rfl⟩ := List.mem_map.mp m
  exact ly_rl (h.2 r mr))
/-- what == tells of two systems -/
def eqS (ns ns' : List Str) (rs rs' : List Rl) : Bool := PyData.eqv (.list (ns.map PyData.str)) (.list (ns'.map PyData.str)) && PyData.eqv (.list (rs.map Rl.d)) (.list (rs'.map Rl.d))
def sp_System___eq__ (K : PySem.W.Frag) (C : Addr) : Sp := fun vs H Q _ => ∃ a p q ns rs y, vs = [.ref a, y] ∧ SysAt K C H a p q ns rs ∧
  ((∃ t, TyX K H y t ∧ PySem.W.kitOne K t (.ref C) = some false ∧ Q (.bl false) H) ∨
   (∃ b p' q' ns' rs', y = .ref b ∧ SysAt K C H b p' q' ns' rs' ∧ Laid ns rs ∧ Laid ns' rs' ∧ Q (.bl (eqS ns ns' rs rs')) H))

def base6 : List Str := ["x", "y", "ab", "jkv", "q", "lowhere"]
def rowS (x : Str) : Str := ("row" : Str) ++ cutS x none (some 5)
def pool : List Str := base6 ++ base6.map rowS
/-- drawn names -/
structure WordsOk (ws : List Str) : Prop where
  nd : ws.Nodup
  pl : ∀ x ∈ ws, x ∈ pool
theorem pool_ok : ∀ x ∈ pool, nameOk x = true := by decide +kernel
theorem base_nd : base6.Nodup := by decide +kernel
theorem row_nd : (base6.map rowS).Nodup := by decide +kernel
theorem base_short : ∀ x ∈ base6, x.length ≤ 7 := by decide +kernel
theorem words_base {ws left : List Str} (h : (ws ++ left).Perm base6) : WordsOk ws := by
  have nd : (ws ++ left).Nodup := h.nodup_iff.mpr base_nd
  exact ⟨(List.nodup_append.mp nd).1, fun x m => List.mem_append_left _ (h.mem_iff.mp (List.mem_append_left _ m))⟩
theorem words_row {ws left : List Str} (h : (ws ++ left).Perm base6) : WordsOk (ws.map rowS) := by
  have h2 : ((ws ++ left).map rowS).Perm (base6.map rowS) := h.map _
  have nd : ((ws ++ left).map rowS).Nodup := h2.nodup_iff.mpr row_nd
  rw [List.map_append] at nd
  refine ⟨(List.nodup_append.mp nd).1, fun x m => List.mem_append_right _ ?_⟩
  obtain ⟨y, my, rfl⟩ := List.mem_map.mp m
  exact List.mem_map.mpr ⟨y, h.mem_iff.mp (List.mem_append_left _ my), rfl⟩
theorem eraseIdx_map {α β : Type} (f : α → β) : ∀ (l : List α) (k : Nat), (l.map f).eraseIdx k = (l.eraseIdx k).map f
  | [], _ => rfl
  | _ :: _, 0 => rfl
  | a :: l, k + 1 => by
    show f a :: (l.map f).eraseIdx k = f a :: (l.eraseIdx k).map f
    rw [eraseIdx_map f l k]
theorem erase_perm {α : Type} {x : α} : ∀ {l : List α} {k : Nat}, l[k]? = some x → (x :: l.eraseIdx k).Perm l
  | [], _, h => by simp at h
  | a :: l, 0, h => by
    have e : a = x := Option.some.inj h
    subst e
    exact .refl _
  | a :: l, k + 1, h => by
    have ih := erase_perm (l := l) (k := k) (by simpa using h)
    show (x :: a :: l.eraseIdx k).Perm (a :: l)
    exact (List.Perm.swap a x _).trans (ih.cons a)
theorem seqIx {n : Nat} {d : Int} (h0 : 0 ≤ d) (h1 : d < (n : Int)) : seqIndex? d n = some d.toNat := by
  refine (ixN_seq (i := d) ?_).1
  unfold ixN
  rw [if_pos h0, if_pos h1]
theorem ty_lst {K : PySem.W.Frag} {H : Hp} {p : Addr} {xs : List V} (e : H p = some (.lst xs)) : tyV K "list" (.ref p) H := .inl ⟨rfl, xs, .inl (.inl e)⟩
theorem Kp.none_of {g D : Addr} {n : Nat} {H H' : Hp} (k : Kp g H H') (r : RS n H' g) (nD : H' D = none) : H D = none := by
  cases e : H D with
  | none => rfl
  | some o =>
    rw [k _ _ (r.fresh nD) e] at nD
    cases nD
theorem cut_short : ∀ x ∈ base6, (cutS x none (some 5)).length ≤ 7 := by decide +kernel
def sp__law_words (K : PySem.W.Frag) : Sp := fun vs H Q _ => ∃ g m n, vs = [.ref g, .int m] ∧ RS n H g ∧ n ≤ 900000 ∧ 0 ≤ m ∧ m ≤ 6 ∧
  ∀ p H' ws, Kp g H H' → RS (n + 7) H' g → H p = none → H' p = some (.lst (ws.map V.str)) → WordsOk ws → (ws.length : Int) = m → Q (.ref p) H'

def sp__law_end (_ : PySem.W.Frag) : Sp := fun vs H Q _ => ∃ g far n, vs = [.ref g, .int far] ∧ RS n H g ∧ n ≤ 900000 ∧ -(10 ^ 31) ≤ far ∧ far ≤ 10 ^ 31 ∧
  ∀ b H', BdOk (10 ^ 31) b → Kp g H H' → RS (n + 3) H' g → Q (ov b) H'

/-- a drawn range that is not empty -/
def RgGd (r : Rg) : Prop := badR r = false ∧ RgIn (10 ^ 31) r
def sp__law_within (K : PySem.W.Frag) : Sp := fun vs H Q _ => ∃ g far n, vs = [.ref g, .int far] ∧ RS n H g ∧ n ≤ 800000 ∧ -(10 ^ 31) ≤ far ∧ far ≤ 10 ^ 31 ∧
  ∀ v r H', RgGd r → Kp g H H' → RS (n + 6) H' g → RgV K H' v r → Q v H'

@[reducible] def nbOk : Rl → Prop
  | .set _ _ _ => True
  | .stp _ _ f a _ _ => f.natAbs ≤ 10 ^ 32 ∧ a.natAbs ≤ 10 ^ 32
/-- a rule drawn for the names ws -/
structure RlGd (ws : List Str) (r : Rl) : Prop where
  nm : ∀ x ∈ r.names, x ∈ ws
  rg : ∀ x ∈ r.rgs, RgGd x
  nz : r.zero = false
  cs : r.cs.length ≤ 2
  nb : nbOk r
theorem RlGd.mono {ws ws' : List Str} {r : Rl} (h : RlGd ws r) (k : ∀ x ∈ ws, x ∈ ws') : RlGd ws' r := ⟨fun x m => k x (h.nm x m), h.rg, h.nz, h.cs, h.nb⟩
theorem str_at {ws : List Str} {d : Int} (h0 : 0 ≤ d) (h1 : d < (ws.length : Int)) : ∃ x ∈ ws, atI (ws.map V.str) d = some (.str x) := by
  obtain ⟨v, e, m⟩ := pick_mem (xs := ws.map V.str) h0 (by rw [List.length_map]; exact h1)
  obtain ⟨x, mx, rfl⟩ := List.mem_map.mp m
  exact ⟨x, mx, e⟩
theorem pick_size {a b d : Int} (a0 : 0 ≤ a) (a1 : a < 9) (b0 : 0 ≤ b) (b1 : b < 9) (h0 : 0 ≤ d) (h1 : d < 8) :
    ∃ z : Int, atI [V.int 1, .int 1, .int 1, .int (-1), .int 2, .int (-2), .int (1 + a), .int (0 - 1 - b)] d = some (.int z) ∧ z ≠ 0 ∧ z.natAbs ≤ 10 ^ 32 := by
  have t : (10 : Nat) ^ 32 = 100000000000000000000000000000000 := by decide
  obtain ⟨v, e, m⟩ := pick_mem (xs := [V.int 1, .int 1, .int 1, .int (-1), .int 2, .int (-2), .int (1 + a), .int (0 - 1 - b)]) h0 h1
  simp only [List.mem_cons, List.not_mem_nil, or_false] at m
  rw [t]
  rcases m with rfl | rfl | rfl | rfl | rfl | rfl | rfl | rfl <;> exact ⟨_, e, by omega, by omega⟩
theorem pick_plus {a b far d : Int} (a0 : 0 ≤ a) (a1 : a < 19) (b0 : 0 ≤ b) (b1 : b < 199) (f0 : -(10 ^ 31) ≤ far) (f1 : far ≤ 10 ^ 31) (h0 : 0 ≤ d) (h1 : d < 7) :
    ∃ z : Int, atI [V.int 0, .int 1, .int (-1), .int (a - 9), .int (b - 99), .int far, .int (0 - far)] d = some (.int z) ∧ z.natAbs ≤ 10 ^ 32 := by
  have t : (10 : Nat) ^ 32 = 100000000000000000000000000000000 := by decide
  have big : (10 : Int) ^ 31 = 10000000000000000000000000000000 := by decide
  rw [big] at f0 f1
  obtain ⟨v, e, m⟩ := pick_mem (xs := [V.int 0, .int 1, .int (-1), .int (a - 9), .int (b - 99), .int far, .int (0 - far)]) h0 h1
  simp only [List.mem_cons, List.not_mem_nil, or_false] at m
  rw [t]
  rcases m with rfl | rfl | rfl | rfl | rfl | rfl | rfl <;> exact ⟨_, e, by omega⟩
theorem dpa_snoc {K : PySem.W.Frag} {H : Hp} {ys : List V} {y : V} {cs : List Cd} {c : Cd} (h : DpAll K H ys (cs.map cdD)) (d : Dp K H y (cdD c)) : DpAll K H (ys ++ [y]) ((cs ++ [c]).map cdD) := by
  rw [List.map_append]
  exact dpa_app h (dpa_one d)
theorem noL_map (cs : List Cd) : ∀ d ∈ cs.map cdD, NoL d := fun d m => by
  obtain ⟨c, _, rfl⟩ := List.mem_map.mp m
  exact noL_cd c
theorem RgV.kl {K : PySem.W.Frag} {H H' : Hp} {a : Addr} {v : V} {r : Rg} (k : Kl a H H') (h : RgV K H v r) : RgV K H' v r := by
  obtain ⟨⟨ys, e⟩, kp⟩ := k
  exact RgV.kpl kp e h
def sp__law_rule (K : PySem.W.Frag) : Sp := fun vs H Q _ => ∃ g w far n ws, vs = [.ref g, .ref w, .int far] ∧ RS n H g ∧ n ≤ 700000 ∧ -(10 ^ 31) ≤ far ∧ far ≤ 10 ^ 31 ∧ w ≠ g ∧ SqL K H w (ws.map V.str) ∧ ws ≠ [] ∧ ws.length ≤ 1000 ∧
  ∀ v r H', RlGd ws r → Kp g H H' → RS (n + 50) H' g → Dp K H' v (Rl.d r) → Q v H'

/-- rules drawn for the names ws -/
def RowsGd (ws : List Str) (rs : List Rl) : Prop := ∀ r ∈ rs, RlGd ws r
theorem noL_rls (rs : List Rl) : ∀ d ∈ rs.map Rl.d, NoL d := fun d m => by
  obtain ⟨r, _, rfl⟩ := List.mem_map.mp m
  exact noL_rl r
theorem ten9 : CPowW 10 9 := ⟨by decide, by decide⟩
theorem pick_far {d : Int} (h0 : 0 ≤ d) (h1 : d < 3) :
    ∃ z : Int, atI [V.int 99, .int ((10 : Int) ^ (9 : Int).toNat), .int ((10 : Int) ^ (31 : Int).toNat)] d = some (.int z) ∧ -(10 ^ 31) ≤ z ∧ z ≤ 10 ^ 31 := by
  obtain ⟨v, e, m⟩ := pick_mem (xs := [V.int 99, .int ((10 : Int) ^ (9 : Int).toNat), .int ((10 : Int) ^ (31 : Int).toNat)]) h0 h1
  simp only [List.mem_cons, List.not_mem_nil, or_false] at m
  rcases m with rfl | rfl | rfl
  · exact ⟨_, e, by decide, by decide⟩
  · exact ⟨_, e, by decide, by decide⟩
  · exact ⟨_, e, by decide, by decide⟩
def sp__law_rows (K : PySem.W.Frag) : Sp := fun vs H Q _ => ∃ g w m n ws, vs = [.ref g, .ref w, .int m] ∧ RS n H g ∧ n ≤ 600000 ∧ 0 ≤ m ∧ m ≤ 20 ∧ w ≠ g ∧ SqL K H w (ws.map V.str) ∧ ws ≠ [] ∧ ws.length ≤ 1000 ∧
  ∀ p H' xs rs, RowsGd ws rs → (rs.length : Int) ≤ m → Kp g H H' → RS (n + 1500) H' g → H p = none → H' p = some (.lst xs) → DpAll K H' xs (rs.map Rl.d) → Q (.ref p) H'

theorem rising_pw : ∀ (l : List Str) (p : Str), risingS p l = true → (p :: l).Pairwise (fun a b => ¬ b.cps.toList < a.cps.toList)
  | [], p, _ => List.pairwise_singleton _ _
  | x :: r, p, h => by
    have h' : (!ltCps x.cps.toList p.cps.toList && risingS x r) = true := h
    rw [Bool.and_eq_true, ltCps_eq, Bool.not_eq_true', decide_eq_false_iff_not] at h'
    have ih := rising_pw r x h'.2
    refine List.pairwise_cons.mpr ⟨fun y my => ?_, ih⟩
    rcases List.mem_cons.mp my with rfl | my
    · exact h'.1
    · have hxy := (List.pairwise_cons.mp ih).1 y my
      have a1 : p.cps.toList ≤ x.cps.toList := h'.1
      have a2 : x.cps.toList ≤ y.cps.toList := hxy
      exact List.le_trans a1 a2
theorem sorted_pw {l : List Str} (h : sortedS l = true) : l.Pairwise (fun a b => ¬ b.cps.toList < a.cps.toList) := by
  cases l with
  | nil => exact .nil
  | cons x r => exact rising_pw r x h
/-- the ascending arrangement is one -/
theorem sorted_unique {a b : List Str} (p : a.Perm b) (ha : sortedS a = true) (hb : sortedS b = true) : a = b := by
  refine List.Perm.eq_of_pairwise (fun x y _ _ h1 h2 => ?_) (sorted_pw ha) (sorted_pw hb) p
  have a1 : x.cps.toList ≤ y.cps.toList := h1
  have a2 : y.cps.toList ≤ x.cps.toList := h2
  have e := List.le_antisymm a1 a2
  cases x with
  | mk xs => cases y with
    | mk ys =>
      have e' : xs.toList = ys.toList := e
      rw [Array.toList_inj.mp e']
/-! ### what repr and == ask -/
theorem dall_of {n k : Nat} : ∀ {ds : List PyData}, (∀ d ∈ ds, DOk n k d) → DAll (ds.length * (n + 1)) k ds
  | [], _ => DAll.nil.mono (Nat.zero_le _) (Nat.zero_le _)
  | d :: ds, h => by
    have z := DAll.cons (h d (by simp)) (dall_of (ds := ds) fun x m => h x (by simp [m]))
    rw [Nat.max_self] at z
    refine z.mono ?_ (Nat.le_refl _)
    rw [List.length_cons, Nat.succ_mul]
    omega
theorem dok_name {x : Str} (h : nameOk x = true) : DOk 20 1 (.str x) := by
  have so := strOk_of h
  refine DOk.str ?_ (by have := nameOk_size h; omega) so
  unfold nameOk at h
  rw [Bool.and_eq_true] at h
  rw [List.all_eq_true]
  intro c m
  have := List.all_eq_true.mp h.2 c m
  rw [Bool.and_eq_true] at this
  have := of_decide_eq_true this.2
  exact decide_eq_true (Nat.lt_of_le_of_lt this (by decide))
theorem dok_oD {m : Int} (hm : m ≤ 10 ^ 40) {o : Option Int} (h : BdOk m o) : DOk 0 1 (oD o) := by
  cases o with
  | none => exact .none
  | some i =>
    refine .int ?_
    obtain ⟨h1, h2⟩ := (show -m ≤ i ∧ i ≤ m from h)
    have t40 : (10 : Int) ^ 40 = 10000000000000000000000000000000000000000 := by decide
    have t60 : (10 : Nat) ^ 60 = 1000000000000000000000000000000000000000000000000000000000000 := by decide
    rw [t40] at hm
    rw [t60]
    omega
theorem dok_rg {m : Int} (hm : m ≤ 10 ^ 40) {r : Rg} (h : RgIn m r) : DOk 2 2 (rgD r) := by
  match r, h with
  | none, _ => exact DOk.none.mono (by decide) (by decide)
  | some (l, u), h => exact (DOk.tuple (.cons (dok_oD hm h.1) (.cons (dok_oD hm h.2) .nil))).mono (by decide) (by decide)
theorem m31 : (10 : Int) ^ 31 ≤ 10 ^ 40 := by decide
theorem dok_cd {ws : List Str} {c : Cd} (hn : nameOk c.1 = true) (hr : RgGd c.2) : DOk 30 3 (cdD c) :=
  (DOk.tuple (.cons (dok_name hn) (.cons (dok_rg m31 hr.2) .nil))).mono (by decide) (by decide)
theorem dok_cds {cs : List Cd} (h : ∀ c ∈ cs, nameOk c.1 = true ∧ RgGd c.2) (l : cs.length ≤ 2) : DOk 62 4 (.tuple (cs.map cdD)) := by
  refine (DOk.tuple (dall_of (n := 30) (k := 3) fun d m => ?_)).mono ?_ (by decide)
  · obtain ⟨c, mc, rfl⟩ := List.mem_map.mp m
    exact dok_cd (ws := []) (h c mc).1 (h c mc).2
  · rw [List.length_map]
    have := Nat.mul_le_mul_right (30 + 1) l
    omega
theorem dok_rl {ws : List Str} (hw : ∀ x ∈ ws, nameOk x = true) {r : Rl} (h : RlGd ws r) : DOk 150 5 r.d := by
  have t32 : (10 : Nat) ^ 32 < 10 ^ 60 := by decide
  match r, h with
  | .set x rr cs, h =>
    have hx := hw x (h.nm x List.mem_cons_self)
    have hc : ∀ c ∈ cs, nameOk c.1 = true ∧ RgGd c.2 := fun c m => ⟨hw _ (h.nm c.1 (List.mem_cons_of_mem _ (List.mem_map.mpr ⟨c, m, rfl⟩))), h.rg c.2 (List.mem_cons_of_mem _ (List.mem_map.mpr ⟨c, m, rfl⟩))⟩
    exact (DOk.tuple (.cons (.str (by decide +kernel) (by decide +kernel) (by decide +kernel)) (.cons (dok_name hx) (.cons (dok_rg m31 (h.rg rr List.mem_cons_self).2) (.cons (dok_cds hc h.cs) .nil))))).mono (by decide) (by decide)
  | .stp x y f a rr cs, h =>
    have hx := hw x (h.nm x List.mem_cons_self)
    have hy := hw y (h.nm y (List.mem_cons_of_mem _ List.mem_cons_self))
    have hc : ∀ c ∈ cs, nameOk c.1 = true ∧ RgGd c.2 := fun c m => ⟨hw _ (h.nm c.1 (List.mem_cons_of_mem _ (List.mem_cons_of_mem _ (List.mem_map.mpr ⟨c, m, rfl⟩)))), h.rg c.2 (List.mem_cons_of_mem _ (List.mem_map.mpr ⟨c, m, rfl⟩))⟩
    have nb : f.natAbs ≤ 10 ^ 32 ∧ a.natAbs ≤ 10 ^ 32 := h.nb
    exact (DOk.tuple (.cons (.str (by decide +kernel) (by decide +kernel) (by decide +kernel)) (.cons (dok_name hx) (.cons (dok_name hy) (.cons (.int (Nat.lt_of_le_of_lt nb.1 t32)) (.cons (.int (Nat.lt_of_le_of_lt nb.2 t32))
      (.cons (dok_rg m31 (h.rg rr List.mem_cons_self).2) (.cons (dok_cds hc h.cs) .nil)))))))).mono (by decide) (by decide)
theorem WordsOk.ok {ws : List Str} (h : WordsOk ws) : ∀ x ∈ ws, nameOk x = true := fun x m => pool_ok x (h.pl x m)
theorem dok_rows {ws : List Str} (hw : ∀ x ∈ ws, nameOk x = true) {rs : List Rl} (h : RowsGd ws rs) (l : rs.length ≤ 20) : DOk 3020 6 (.list (rs.map Rl.d)) := by
  refine (DOk.list (dall_of (n := 150) (k := 5) fun d m => ?_)).mono ?_ (by decide)
  · obtain ⟨c, mc, rfl⟩ := List.mem_map.mp m
    exact dok_rl hw (h c mc)
  · rw [List.length_map]
    have := Nat.mul_le_mul_right (150 + 1) l
    omega
theorem dok_names {ws : List Str} (hw : ∀ x ∈ ws, nameOk x = true) (l : ws.length ≤ 20) : DOk 420 2 (.list (ws.map PyData.str)) := by
  refine (DOk.list (dall_of (n := 20) (k := 1) fun d m => ?_)).mono ?_ (by decide)
  · obtain ⟨c, mc, rfl⟩ := List.mem_map.mp m
    exact dok_name (hw c mc)
  · rw [List.length_map]
    have := Nat.mul_le_mul_right (20 + 1) l
    omega
theorem eqv_nil : ∀ ds : List PyData, PyData.eqv (.list ds) (.list []) = decide (ds = [])
  | [] => by simp [PyData.eqv, PyData.eqvAll]
  | d :: ds => by simp [PyData.eqv, PyData.eqvAll]
theorem eqv_strs : ∀ {a b : List Str}, PyData.eqvAll (a.map PyData.str) (b.map PyData.str) = true → a = b
  | [], [], _ => rfl
  | [], _ :: _, h => by simp [PyData.eqvAll] at h
  | _ :: _, [], h => by simp [PyData.eqvAll] at h
  | x :: a, y :: b, h => by
    simp only [List.map_cons, PyData.eqvAll, PyData.eqv, Bool.and_eq_true, beq_iff_eq] at h
    rw [h.1, eqv_strs h.2]
theorem eqS_names {a b : List Str} {rs rs' : List Rl} (h : a ≠ b) : eqS a b rs rs' = false := by
  cases c : eqS a b rs rs' with
  | false => rfl
  | true =>
    unfold eqS at c
    rw [Bool.and_eq_true] at c
    have z := c.1
    simp only [PyData.eqv] at z
    exact absurd (eqv_strs z) h
theorem eqS_self {ns : List Str} {rs rs' : List Rl} (h : Laid ns rs) : eqS ns ns rs rs' = PyData.eqv (.list (rs.map Rl.d)) (.list (rs'.map Rl.d)) := by
  unfold eqS
  rw [h.ns.eqv, Bool.true_and]
/-! ### systems of drawn words and rules -/
theorem rlGd_faulty {ws : List Str} {r : Rl} (h : RlGd ws r) : r.faulty ws = false := by
  unfold Rl.faulty
  rw [h.nz, Bool.false_or, Bool.or_eq_false_iff]
  constructor
  · rw [List.any_eq_false]
    intro x m
    rw [decide_eq_true (h.nm x m)]
    decide
  · rw [List.any_eq_false]
    intro x m
    rw [(h.rg x m).1]
    decide
theorem sysOk_of {ws : List Str} {rs : List Rl} (hw : WordsOk ws) (hr : RowsGd ws rs) (l : ws.length ≤ 20) (l2 : rs.length ≤ 1000) : SysOk ws rs :=
  ⟨hw.nd, hw.ok, fun r m => rlGd_faulty (hr r m), fun r m => Nat.le_trans (hr r m).cs (by decide), by omega, l2⟩
theorem laid_of {ws ss : List Str} {rs : List Rl} (hw : WordsOk ws) (hr : RowsGd ws rs) (p : ss.Perm ws) : Laid ss rs :=
  ⟨fun x m => strOk_of (hw.ok x (p.mem_iff.mp m)), fun r m x mx => strOk_of (hw.ok x ((hr r m).nm x mx))⟩
theorem RowsGd.app {ws : List Str} {a b : List Rl} (ha : RowsGd ws a) (hb : RowsGd ws b) : RowsGd ws (a ++ b) := fun r m => (List.mem_append.mp m).elim (ha r) (hb r)
theorem RowsGd.sub {ws : List Str} {a b : List Rl} (ha : RowsGd ws a) (h : ∀ r ∈ b, r ∈ a) : RowsGd ws b := fun r m => ha r (h r m)
theorem WordsOk.rev {ws : List Str} (h : WordsOk ws) : WordsOk ws.reverse := ⟨(List.reverse_perm ws).nodup_iff.mpr h.nd, fun x m => h.pl x (List.mem_reverse.mp m)⟩
theorem SysAt.ty {K : PySem.W.Frag} {mg : Str → Option Value} {C : Addr} (T : SysT K mg C) {H : Hp} {a p q : Addr} {ns : List Str} {rs : List Rl} (h : SysAt K C H a p q ns rs) : TyX K H (.ref a) (.ref C) := by
  obtain ⟨dx, fs, xs, h1, _⟩ := h
  exact .base (.ins h1 T.ck.cl T.ha T.hn T.ht T.hm)
theorem SysAt.ins {K : PySem.W.Frag} {C : Addr} {H : Hp} {a p q : Addr} {ns : List Str} {rs : List Rl} (h : SysAt K C H a p q ns rs) : ∃ dx fs, H a = some (.ins C dx fs) := by
  obtain ⟨dx, fs, xs, h1, _⟩ := h
  exact ⟨dx, fs, h1⟩
theorem SysAt.insM {K : PySem.W.Frag} {C : Addr} {H : Hp} {a p q : Addr} {ns : List Str} {rs : List Rl} (h : SysAt K C H a p q ns rs) : ∃ dx fs, H a = some (.ins C dx fs) ∧ ∀ m : Str, m ≠ "_names" → m ≠ "_rules" → fs.lookup m = none := by
  obtain ⟨dx, fs, xs, h1, h2, h3, h4, h5, h6, h7⟩ := h
  exact ⟨dx, fs, h1, h7⟩
/-- a system is made -/
theorem mk_sys {K : PySem.W.Frag} {C : Addr} {H1 : Hp} {a b : Addr} {ns : List Str} {xs : List V} {rs : List Rl} {Q : Addr → Hp → Prop} {E : XK} (ha : SqL K H1 a (ns.map V.str)) (hb : SqL K H1 b xs) (dr : DpAll K H1 xs (rs.map Rl.d)) (ok : SysOk ns rs)
    (q : ∀ x H' p r ss, ss.Perm ns → sortedS ss = true → Same H1 H' → H1 x = none → H1 p = none → H1 r = none → SysAt K C H' x p r ss rs → Q x H') :
    ∀ x dx, H1 x = none → H1 dx = none → dx ≠ x → sp_System___init__ K C (.ref x :: ([.ref a, .ref b] ++ [])) (upd (upd H1 dx (.own x)) x (.ins C dx [])) (fun v H2 => v = .non ∧ Q x H2) E := by
  intro x dx nx nd ne
  have s1 : Same H1 (upd H1 dx (.own x)) := Same.new nd
  have nx1 : upd H1 dx (.own x) x = none := by rw [upd_ne (Ne.symm ne)]; exact nx
  have s2 := s1.trans (Same.new (o := .ins C dx []) nx1)
  have old : ∀ {b : Addr}, upd (upd H1 dx (.own x)) x (.ins C dx []) b = none → H1 b = none := fun {b} e => by
    cases z : H1 b with
    | none => rfl
    | some u => rw [s2 _ _ z] at e; cases e
  refine ⟨x, dx, a, b, ns, xs, rs, rfl, upd_same, s2.seq ha, s2.seq hb, dpa_same s2 dr, ok, fun H' p r ss pm so kp np nr sa => ⟨rfl, ?_⟩⟩
  exact q x H' p r ss pm so (fun c u e => kp _ _ (ne_of_none e nx) (s2 _ _ e)) nx (old np) (old nr) sa
theorem SysAt.kl {K : PySem.W.Frag} {C b : Addr} {H H' : Hp} {a p q : Addr} {ns : List Str} {rs : List Rl} (k : Kl b H H') (hp : p ≠ b) (hq : q ≠ b) (h : SysAt K C H a p q ns rs) : SysAt K C H' a p q ns rs := by
  obtain ⟨dx, fs, xs, h1, h2, h3, h4, h5, h6, h7⟩ := h
  obtain ⟨ys, e⟩ := k.1
  exact ⟨dx, fs, xs, k.2 _ _ (ne_of h1 e (fun z => by cases z)) h1, h2, h3, k.2 _ _ hp h4, k.2 _ _ hq h5, dpa_kl k h6 (noL_rls rs), h7⟩

/-- the values of the names -/
abbrev Vf := Str → Option Int
/-- a run's tuple -/
abbrev Mv := Int × Option Int
def mvD (m : Mv) : PyData := .tuple [.int m.1, oD m.2]
def hasV (r : Rg) : Option Int → Bool
  | none => false
  | some i => decide (comR (some (some i, some i)) r = some (some i, some i))
def possR (f : Vf) (v : Option Int) : Rl → Bool
  | .set _ rr cs => (cs.all fun c => hasV c.2 (f c.1)) && hasV rr v
  | .stp _ y _ _ rr cs => (cs.all fun c => hasV c.2 (f c.1)) && (v.isNone && hasV rr (f y))
def newV (f : Vf) (v : Option Int) : Rl → Option Int
  | .set _ _ _ => v
  | .stp _ y fa a _ _ => (f y).map fun x => fa * x + a
def xOf : Rl → Str
  | .set x _ _ => x
  | .stp x _ _ _ _ _ => x
/-- the new value by a move, none if it is not possible -/
def nextV (rs : List Rl) (f : Vf) (m : Mv) : Option Int :=
  if 0 ≤ m.1 ∧ m.1 < (rs.length : Int) then (match rs[m.1.toNat]? with
    | some r => if possR f m.2 r = true then newV f m.2 r else none
    | none => none) else none
def goV (rs : List Rl) (f : Vf) (m : Mv) : Vf := match rs[m.1.toNat]? with
  | some r => put1 f (xOf r) (nextV rs f m)
  | none => f
def playV (rs : List Rl) : Vf → List Mv → Option Vf
  | f, [] => some f
  | f, m :: ms => if (nextV rs f m).isSome = true then playV rs (goV rs f m) ms else none
/-- the first move that is not possible -/
def badV (rs : List Rl) : Vf → Nat → List Mv → Option Nat
  | _, _, [] => none
  | f, i, m :: ms => if (nextV rs f m).isSome = true then badV rs (goV rs f m) (i + 1) ms else some i
def noV : Vf := fun _ => none
theorem take_succ1 {α : Type} {l : List α} {i : Nat} {x : α} (h : l[i]? = some x) : l.take (i + 1) = l.take i ++ [x] := by
  rw [List.take_add_one, h]
  rfl
def ovF (f : Vf) : Str → V := fun x => ov (f x)
theorem ovF_put {f : Vf} {x : Str} {v : Option Int} : put1 (ovF f) x (ov v) = ovF (put1 f x v) := by
  funext y
  unfold put1 ovF
  by_cases e : y = x
  · simp only [if_pos e]
  · simp only [if_neg e]
/-- the clause for a value of the class with this number -/
def BadX (cs : List Addr) (j : Nat) (H : Hp) (v : V) (E : XK) : Prop := ∃ c, cs[j]? = some c ∧ ∀ d H', Same H H' → H d = none → H' d = some (.xd [("value", v)]) → E (.ref c) (some d) H'
theorem same_none {H H' : Hp} {l : Addr} (k : Same H H') (e : H' l = none) : H l = none := by
  cases z : H l with
  | none => rfl
  | some o => rw [k _ _ z] at e; cases e
/-- the rules of a run -/
structure RnOk (ns : List Str) (rs : List Rl) : Prop where
  nm : ∀ r ∈ rs, ∀ x ∈ r.names, x ∈ ns
  fit : ∀ r ∈ rs, ∀ g ∈ r.rgs, RgFit g
  nz : ∀ r ∈ rs, ∀ g ∈ r.rgs, g ≠ none
  cs : ∀ r ∈ rs, r.cs.length ≤ 1000
  nb : ∀ r ∈ rs, nbOk r
  ln : ns.length ≤ 1000
  lr : rs.length ≤ 1000
def SzF (b : Nat) (f : Vf) : Prop := ∀ x i, f x = some i → i.natAbs < 2 ^ b
theorem SzF.no {b : Nat} : SzF b noV := fun x i e => by cases e
def SzM (m : Mv) : Prop := ∀ i, m.2 = some i → i.natAbs < 2 ^ 110
theorem hasV_some {r : Rg} {o : Option Int} (h : hasV r o = true) : ∃ i, o = some i := by
  cases o with
  | none => cases h
  | some i => exact ⟨i, rfl⟩
theorem poss_some {f : Vf} {v : Option Int} {r : Rl} (h : possR f v r = true) : ∃ i, newV f v r = some i := by
  match r, h with
  | .set _ rr cs, h =>
    have h' : ((cs.all fun c => hasV c.2 (f c.1)) && hasV rr v) = true := h
    rw [Bool.and_eq_true] at h'
    exact hasV_some h'.2
  | .stp _ y fa a rr cs, h =>
    have h' : ((cs.all fun c => hasV c.2 (f c.1)) && (v.isNone && hasV rr (f y))) = true := h
    rw [Bool.and_eq_true, Bool.and_eq_true] at h'
    obtain ⟨i, e⟩ := hasV_some h'.2.2
    exact ⟨fa * i + a, by show (f y).map _ = _; rw [e]; rfl⟩
theorem next_at {rs : List Rl} {f : Vf} {m : Mv} {r : Rl} {k : Nat} (e : m.1 = (k : Int)) (er : rs[k]? = some r) : nextV rs f m = if possR f m.2 r = true then newV f m.2 r else none := by
  have lt : k < rs.length := (List.getElem?_eq_some_iff.mp er).1
  unfold nextV
  rw [e, if_pos ⟨by omega, by omega⟩, Int.toNat_natCast, er]
theorem next_out {rs : List Rl} {f : Vf} {m : Mv} (h : ¬ (0 ≤ m.1 ∧ m.1 < (rs.length : Int))) : nextV rs f m = none := by
  unfold nextV
  rw [if_neg h]
theorem go_at {rs : List Rl} {f : Vf} {m : Mv} {r : Rl} {k : Nat} (e : m.1 = (k : Int)) (er : rs[k]? = some r) : goV rs f m = put1 f (xOf r) (nextV rs f m) := by
  unfold goV
  rw [e, Int.toNat_natCast, er]
theorem rn_at {rs : List Rl} {n : Int} (h : 0 ≤ n ∧ n < (rs.length : Int)) : ∃ (k : Nat) (r : Rl), n = (k : Int) ∧ rs[k]? = some r := by
  obtain ⟨k, rfl⟩ := Int.eq_ofNat_of_zero_le h.1
  have lt : k < rs.length := by omega
  exact ⟨k, rs[k], rfl, List.getElem?_eq_getElem lt⟩
theorem nb110 {f : Int} (h : f.natAbs ≤ 10 ^ 32) : f.natAbs < 2 ^ 107 := by
  have a : (10 : Nat) ^ 32 = 100000000000000000000000000000000 := by decide
  have b : (2 : Nat) ^ 107 = 162259276829213363391578010288128 := by decide
  omega
theorem mul_add_sz {b : Nat} {f x a : Int} (hf : f.natAbs ≤ 10 ^ 32) (hx : x.natAbs < 2 ^ b) (ha : a.natAbs ≤ 10 ^ 32) : (f * x + a).natAbs < 2 ^ (b + 110) := by
  have h1 : (f * x).natAbs = f.natAbs * x.natAbs := Int.natAbs_mul f x
  have h2 : (f * x + a).natAbs ≤ (f * x).natAbs + a.natAbs := Int.natAbs_add_le _ _
  have h3 : f.natAbs * x.natAbs ≤ 2 ^ 107 * 2 ^ b := Nat.mul_le_mul (Nat.le_of_lt (nb110 hf)) (Nat.le_of_lt hx)
  have h4 := nb110 ha
  have h5 : (2 : Nat) ^ (b + 110) = 2 ^ b * 2 ^ 110 := Nat.pow_add 2 b 110
  have h6 : (2 : Nat) ^ 110 = 2 ^ 107 * 8 := by decide
  have h7 : 0 < 2 ^ b := Nat.pow_pos (by decide)
  rw [h5, h6]
  have h8 : (2 : Nat) ^ b * (2 ^ 107 * 8) = 2 ^ 107 * 2 ^ b * 8 := by rw [Nat.mul_comm (2 ^ b), Nat.mul_assoc, Nat.mul_comm 8, ← Nat.mul_assoc]
  rw [h8]
  have h9 : (2 : Nat) ^ 107 ≤ 2 ^ 107 * 2 ^ b := Nat.le_mul_of_pos_right _ h7
  omega
theorem sz_mono {b c : Nat} {i : Int} (h : i.natAbs < 2 ^ b) (l : b ≤ c) : i.natAbs < 2 ^ c := Nat.lt_of_lt_of_le h (Nat.pow_le_pow_right (by decide) l)
theorem next_sz {rs : List Rl} {f : Vf} {m : Mv} {b : Nat} (nb : ∀ r ∈ rs, nbOk r) (hb : 110 ≤ b) (sz : SzF b f) (sm : SzM m) : ∀ i, nextV rs f m = some i → i.natAbs < 2 ^ (b + 110) := by
  intro i e
  by_cases h : 0 ≤ m.1 ∧ m.1 < (rs.length : Int)
  · obtain ⟨k, r, ek, er⟩ := rn_at h
    rw [next_at ek er] at e
    split at e
    · match r, er, e with
      | .set _ _ _, er, e => exact sz_mono (sm i e) (by omega)
      | .stp _ y fa a _ _, er, e =>
        have nb' : fa.natAbs ≤ 10 ^ 32 ∧ a.natAbs ≤ 10 ^ 32 := nb _ (List.mem_of_getElem? er)
        have e' : (f y).map (fun x => fa * x + a) = some i := e
        cases ey : f y with
        | none => rw [ey] at e'; cases e'
        | some x =>
          rw [ey] at e'
          cases e'
          exact mul_add_sz nb'.1 (sz y x ey) nb'.2
    · cases e
  · rw [next_out h] at e
    cases e
theorem go_sz {rs : List Rl} {f : Vf} {m : Mv} {b : Nat} (nb : ∀ r ∈ rs, nbOk r) (hb : 110 ≤ b) (sz : SzF b f) (sm : SzM m) : SzF (b + 110) (goV rs f m) := by
  intro x i e
  cases er : rs[m.1.toNat]? with
  | none =>
    have z : goV rs f m = f := by unfold goV; rw [er]
    rw [z] at e
    exact sz_mono (sz x i e) (by omega)
  | some r =>
    have z : goV rs f m = put1 f (xOf r) (nextV rs f m) := by unfold goV; rw [er]
    rw [z] at e
    unfold put1 at e
    by_cases c : x = xOf r
    · rw [if_pos c] at e
      exact next_sz nb hb sz sm i e
    · rw [if_neg c] at e
      exact sz_mono (sz x i e) (by omega)
theorem play_cons {rs : List Rl} {f : Vf} {m : Mv} {ms : List Mv} (h : (nextV rs f m).isSome = true) : playV rs f (m :: ms) = playV rs (goV rs f m) ms := by
  show (if _ then _ else _) = _
  rw [if_pos h]
theorem play_app {rs : List Rl} : ∀ {f g : Vf} {ms ls : List Mv}, playV rs f ms = some g → playV rs f (ms ++ ls) = playV rs g ls
  | f, g, [], ls, e => by cases e; rfl
  | f, g, m :: ms, ls, e => by
    have e' : (if (nextV rs f m).isSome = true then playV rs (goV rs f m) ms else none) = some g := e
    show (if (nextV rs f m).isSome = true then playV rs (goV rs f m) (ms ++ ls) else none) = _
    split at e'
    · rename_i h
      rw [if_pos h]
      exact play_app e'
    · cases e'
theorem noL_mv (m : Mv) : NoL (mvD m) := .tup fun d md => by
  simp only [List.mem_cons, List.not_mem_nil, or_false] at md
  rcases md with rfl | rfl
  · exact .int _
  · cases m.2
    · exact .non
    · exact .int _
theorem mv_inv {K : PySem.W.Frag} {H : Hp} {v : V} {m : Mv} (h : Dp K H v (mvD m)) : ∃ p, v = .ref p ∧ SqT K H p [.int m.1, ov m.2] := by
  obtain ⟨p, xs, rfl, s, a⟩ := dp_tup_inv h
  obtain ⟨v1, w1, rfl, h1, a⟩ := dpa_cons_inv a
  obtain ⟨v2, w2, rfl, h2, a⟩ := dpa_cons_inv a
  obtain rfl := dpa_nil_inv a
  obtain rfl := dp_int_inv h1
  obtain rfl := dp_oD_inv h2
  exact ⟨p, rfl, s⟩


def sp_has_value (K : PySem.W.Frag) : Sp := fun vs H Q _ => ∃ v r o, vs = [v, ov o] ∧ RgV K H v r ∧ RgFit r ∧ ∀ H', Same H H' → Q (.bl (hasV r o)) H'

def sp__is_possible (K : PySem.W.Frag) : Sp := fun vs H Q _ => ∃ v r a ns f o, vs = [v, .ref a, ov o] ∧ Dp K H v (Rl.d r) ∧ DF H a ns (ovF f) ∧ (∀ x ∈ r.names, x ∈ ns) ∧ (∀ g ∈ r.rgs, RgFit g) ∧ r.cs.length ≤ 1000 ∧ ∀ H', Same H H' → Q (.bl (possR f o r)) H'

def sp_values_behind (K : PySem.W.Frag) (C : Addr) (cs : List Addr) : Sp := fun vs H Q E => ∃ a p q m ns rs zs ms, vs = [.ref a, .ref m] ∧ SysAt K C H a p q ns rs ∧ RnOk ns rs ∧ ns.Nodup ∧ SqL K H m zs ∧ DpAll K H zs (ms.map mvD) ∧ ms.length ≤ 1000 ∧ (∀ x ∈ ms, SzM x) ∧
  (∀ f, playV rs noV ms = some f → ∀ d H', Same H H' → H d = none → DF H' d ns (ovF f) → Q (.ref d) H') ∧ (∀ i : Nat, badV rs noV 0 ms = some i → BadX cs 7 H (.int i) E)

def loB (l : Option Int) (i : Int) : Bool := match l with | none => true | some x => decide (x ≤ i)
def hiB (u : Option Int) (i : Int) : Bool := match u with | none => true | some x => decide (i ≤ x)
theorem hasV_eq (l u : Option Int) (i : Int) : hasV (some (l, u)) (some i) = (loB l i && hiB u i) := by
  have g1 : decide (gr (some i) l = some i) = loB l i := by
    cases l with
    | none => exact decide_eq_true rfl
    | some x =>
      show decide (some (if x > i then x else i) = some i) = decide (x ≤ i)
      by_cases c : x > i
      · rw [if_pos c, decide_eq_false (by omega : ¬ x ≤ i)]
        exact decide_eq_false (fun z => by injection z; omega)
      · rw [if_neg c, decide_eq_true (by omega : x ≤ i)]
        exact decide_eq_true rfl
  have g2 : decide (le2 (some i) u = some i) = hiB u i := by
    cases u with
    | none => exact decide_eq_true rfl
    | some x =>
      show decide (some (if x < i then x else i) = some i) = decide (i ≤ x)
      by_cases c : x < i
      · rw [if_pos c, decide_eq_false (by omega : ¬ i ≤ x)]
        exact decide_eq_false (fun z => by injection z; omega)
      · rw [if_neg c, decide_eq_true (by omega : i ≤ x)]
        exact decide_eq_true rfl
  rw [← g1, ← g2]
  show decide ((if up (some (gr (some i) l, le2 (some i) u)) = true then (none : Rg) else some (gr (some i) l, le2 (some i) u)) = some (some i, some i)) = _
  by_cases a : gr (some i) l = some i
  · by_cases b : le2 (some i) u = some i
    · have z : up (some (some i, some i)) = false := decide_eq_false (by omega)
      rw [a, b, z]
      simp
    · rw [decide_eq_true a, decide_eq_false b, Bool.true_and]
      refine decide_eq_false fun z => b ?_
      split at z
      · cases z
      · injection z with z
        injection z
  · rw [decide_eq_false a, Bool.false_and]
    refine decide_eq_false fun z => a ?_
    split at z
    · cases z
    · injection z with z
      injection z
def sp__law_inside (K : PySem.W.Frag) : Sp := fun vs H Q _ => ∃ v l u o, vs = [v, ov o] ∧ RgV K H v (some (l, u)) ∧ Q (.bl (hasV (some (l, u)) o)) H

theorem eqv_nilR {α : Type} (l : List α) (f : α → PyData) : PyData.eqv (.list (l.map f)) (.list []) = l.isEmpty := by cases l <;> rfl
theorem filter_emptyR {α : Type} (l : List α) (f : α → Bool) : (l.filter f).isEmpty = !l.any f := by
  induction l with
  | nil => rfl
  | cons x l ih =>
    rw [List.filter_cons, List.any_cons]
    cases f x with
    | true => rfl
    | false => rw [Bool.false_or]; exact ih
theorem any_not {α : Type} (l : List α) (f : α → Bool) : (l.any fun c => !f c) = !l.all f := by
  induction l with
  | nil => rfl
  | cons x l ih => rw [List.any_cons, List.all_cons, ih, Bool.not_and]
theorem poss_no {f : Vf} {v : Option Int} {r : Rl} (h : (r.cs.all fun c => hasV c.2 (f c.1)) = false) : possR f v r = false := by
  match r, h with
  | .set x rr cs, h =>
    show ((cs.all fun c => hasV c.2 (f c.1)) && _) = false
    rw [show (cs.all fun c => hasV c.2 (f c.1)) = false from h]
    rfl
  | .stp x y fa a rr cs, h =>
    show ((cs.all fun c => hasV c.2 (f c.1)) && _) = false
    rw [show (cs.all fun c => hasV c.2 (f c.1)) = false from h]
    rfl
theorem ly_ones (n : Nat) : Ly 2 (.list (List.replicate n (PyData.int 1))) := Ly.list (lyA_of fun d m => by
  rw [List.eq_of_mem_replicate m]
  exact Ly.int 1)
def sp__law_next (K : PySem.W.Frag) : Sp := fun vs H Q _ => ∃ b a v rs xs ns f m k, vs = [.ref b, .ref a, v] ∧ SqL K H b xs ∧ DpAll K H xs (rs.map Rl.d) ∧ RnOk ns rs ∧ DF H a ns (ovF f) ∧ Dp K H v (mvD m) ∧ SzF k f ∧ k ≤ 200000 ∧
  ∀ H', Same H H' → Q (ov (nextV rs f m)) H'

/-- a number that may stand in a move -/
def Sp110 (o : Option Int) : Prop := ∀ i, o = some i → i.natAbs < 2 ^ 110
theorem sp_some {i : Int} (h : i.natAbs ≤ 10 ^ 32) : Sp110 (some i) := fun j e => by
  cases e
  have a : (10 : Nat) ^ 32 = 100000000000000000000000000000000 := by decide
  have b : (2 : Nat) ^ 110 = 1298074214633706907132624082305024 := by decide
  omega
theorem sp_none : Sp110 none := fun j e => by cases e
theorem bd32 {i : Int} (h : BdOk (10 ^ 31) (some i)) : i.natAbs ≤ 10 ^ 31 := by
  have h' : -(10 : Int) ^ 31 ≤ i ∧ i ≤ (10 : Int) ^ 31 := h
  have big : (10 : Int) ^ 31 = 10000000000000000000000000000000 := by decide
  have big2 : (10 : Nat) ^ 31 = 10000000000000000000000000000000 := by decide
  rw [big] at h'
  rw [big2]
  omega
/-- the ends that are there -/
def endsOf (l u : Option Int) : List Int := (match l with | none => [] | some x => [x]) ++ (match u with | none => [] | some x => [x])
theorem ends_le (l u : Option Int) : (endsOf l u).length ≤ 2 := by cases l <;> cases u <;> simp [endsOf]
theorem ends_in {l u : Option Int} (h : RgIn (10 ^ 31) (some (l, u))) : ∀ i ∈ endsOf l u, i.natAbs ≤ 10 ^ 31 := by
  intro i m
  rcases List.mem_append.mp m with m | m
  · cases l with
    | none => cases m
    | some x =>
      obtain rfl := List.mem_singleton.mp m
      exact bd32 h.1
  · cases u with
    | none => cases m
    | some x =>
      obtain rfl := List.mem_singleton.mp m
      exact bd32 h.2
def sp__law_spot (K : PySem.W.Frag) : Sp := fun vs H Q _ => ∃ g v l u n, vs = [.ref g, v] ∧ RS n H g ∧ n ≤ 900000 ∧ RgV K H v (some (l, u)) ∧ RgIn (10 ^ 31) (some (l, u)) ∧
  ∀ o H', Sp110 o → Kp g H H' → RS (n + 2) H' g → Q (ov o) H'

theorem pairs_mk {K : PySem.W.Frag} {G : Hp} (f : Str → V) : ∀ {ws : List Str} {ys : List V}, ys.length = ws.length → (∀ (i : Nat) y, ys[i]? = some y → ∃ p x, ws[i]? = some x ∧ y = .ref p ∧ SqT K G p [.str x, f x]) →
    ∃ ps : List Addr, ys = ps.map V.ref ∧ PySem.Paired (fun p (kv : Key × V) => SqT K G p [kV kv.1, kv.2]) ps (fK ws f)
  | [], [], _, _ => ⟨[], rfl, .nil⟩
  | x :: ws, y :: ys, l, h => by
    obtain ⟨p, x', e, rfl, s⟩ := h 0 y rfl
    cases e
    obtain ⟨ps, rfl, pr⟩ := pairs_mk f (ws := ws) (ys := ys) (by simpa using l) fun i y e => by
      obtain ⟨p, x, e1, e2, e3⟩ := h (i + 1) y (by simpa using e)
      exact ⟨p, x, by simpa using e1, e2, e3⟩
    exact ⟨p :: ps, rfl, .cons s pr⟩
theorem merge0 {ws : List Str} {f : Str → V} (nd : ws.Nodup) : mergeK [] (fK ws f) = fK ws f := mergeK_fK (ks := []) nd
theorem RgGd.fit2 {r : Rg} (h : RgGd r) : RgFit r := by
  match r, h.1 with
  | none, _ => trivial
  | some (none, _), _ => trivial
  | some (some _, none), _ => trivial
  | some (some l, some u), h =>
    have h' : (false || decide (l > u)) = false := h
    rw [Bool.false_or] at h'
    have := of_decide_eq_false h'
    show l ≤ u
    omega
theorem rn_of {ws : List Str} {rs : List Rl} (gd : RowsGd ws rs) (lw : ws.length ≤ 1000) (lr : rs.length ≤ 1000) : RnOk ws rs :=
  ⟨fun r m => (gd r m).nm, fun r m g mg => ((gd r m).rg g mg).fit2, fun r m g mg e => Bool.noConfusion (show true = false from (by
    have := ((gd r m).rg g mg).1
    rw [e] at this
    exact this)), fun r m => Nat.le_trans (gd r m).cs (by decide), fun r m => (gd r m).nb, lw, lr⟩
theorem ly_rows {ws : List Str} {rs : List Rl} (hw : ∀ x ∈ ws, nameOk x = true) (gd : RowsGd ws rs) : Ly 6 (.list (rs.map Rl.d)) := Ly.list (lyA_of fun d m => by
  obtain ⟨r, mr, rfl⟩ := List.mem_map.mp m
  exact ly_rl fun x mx => strOk_of (hw x ((gd r mr).nm x mx)))
theorem times_ok {m : Int} {rs : List Rl} (h0 : 0 ≤ m) : 0 ≤ (m * (if (!PyData.eqv (.list (rs.map Rl.d)) (.list [])) = true then (1 : Int) else 0)) ∧ (m * (if (!PyData.eqv (.list (rs.map Rl.d)) (.list [])) = true then (1 : Int) else 0)) ≤ m ∧ (0 < (m * (if (!PyData.eqv (.list (rs.map Rl.d)) (.list [])) = true then (1 : Int) else 0)) → 0 < rs.length) := by
  cases rs with
  | nil => simp [PyData.eqv, PyData.eqvAll, h0]
  | cons r rr => simp [PyData.eqv, PyData.eqvAll, h0]
def sp__law_moves (K : PySem.W.Frag) : Sp := fun vs H Q _ => ∃ g w b many n ws rs xs, vs = [.ref g, .ref w, .ref b, .int many] ∧ RS n H g ∧ n ≤ 500000 ∧ 0 ≤ many ∧ many ≤ 200 ∧ w ≠ g ∧ b ≠ g ∧ H w = some (.lst (ws.map V.str)) ∧ H b = some (.lst xs) ∧ DpAll K H xs (rs.map Rl.d) ∧
  RowsGd ws rs ∧ ws.Nodup ∧ (∀ x ∈ ws, nameOk x = true) ∧ ws.length ≤ 1000 ∧ rs.length ≤ 1000 ∧
  ∀ t S D zs ms f H', Kp g H H' → RS (n + 1000) H' g → H S = none → H D = none → H' t = some (.tup [.ref S, .ref D]) → H' S = some (.lst zs) → DpAll K H' zs (ms.map mvD) → DF H' D ws (ovF f) → playV rs noV ms = some f → ms.length ≤ 200 → (∀ x ∈ ms, SzM x) → SzF 110 f → Q (.ref t) H'

theorem ly_mv (m : Mv) : Ly 3 (mvD m) := (Ly.tuple (k := 1) (lyA_of fun d md => by
  simp only [List.mem_cons, List.not_mem_nil, or_false] at md
  rcases md with rfl | rfl
  · exact Ly.int _
  · exact ly_oD m.2)).mono (by decide)
theorem ly_mvs (ms : List Mv) : Ly 4 (.list (ms.map mvD)) := Ly.list (lyA_of fun d md => by
  obtain ⟨m, _, rfl⟩ := List.mem_map.mp md
  exact ly_mv m)
theorem noL_mvs (ms : List Mv) : ∀ d ∈ ms.map mvD, NoL d := fun d md => by
  obtain ⟨m, _, rfl⟩ := List.mem_map.mp md
  exact noL_mv m
theorem flat_ov (o : Option Int) : flatB (ov o) = true := by cases o <;> rfl
/-- two dicts of the same values -/
theorem dict_same {ss ws : List Str} {f : Vf} (pm : ss.Perm ws) : (fK ss (ovF f)).length = (fK ws (ovF f)).length ∧ ∀ p ∈ fK ss (ovF f), valV (fK ws (ovF f)) p.1 = some p.2 ∧ flatB p.2 = true := by
  refine ⟨by rw [fK_len, fK_len, pm.length_eq], fun p m => ?_⟩
  obtain ⟨x, mx, rfl⟩ := List.mem_map.mp m
  exact ⟨fK_get (pm.mem_iff.mp mx), flat_ov _⟩
theorem play_split {rs : List Rl} : ∀ {a b : List Mv} {g f : Vf}, playV rs g (a ++ b) = some f → ∃ h, playV rs g a = some h ∧ playV rs h b = some f
  | [], b, g, f, e => ⟨g, rfl, e⟩
  | m :: a, b, g, f, e => by
    have e' : (if (nextV rs g m).isSome = true then playV rs (goV rs g m) (a ++ b) else none) = some f := e
    by_cases c : (nextV rs g m).isSome = true
    · rw [if_pos c] at e'
      obtain ⟨h, e1, e2⟩ := play_split e'
      exact ⟨h, by rw [play_cons c]; exact e1, e2⟩
    · rw [if_neg c] at e'
      cases e'
/-- the state of a lap of runs -/
structure Zr (K : PySem.W.Frag) (C W R O P1 R1 S D : Addr) (ws ss : List Str) (rr : List Rl) (xs zs : List V) (ms : List Mv) (f : Vf) (H : Hp) : Prop where
  oW : H W = some (.lst (ws.map V.str))
  oR : H R = some (.lst xs)
  dR : DpAll K H xs (rr.map Rl.d)
  made : SysAt K C H O P1 R1 ss rr
  oS : H S = some (.lst zs)
  dM : DpAll K H zs (ms.map mvD)
  oD : DF H D ws (ovF f)
theorem Zr.same {K : PySem.W.Frag} {C W R O P1 R1 S D : Addr} {ws ss : List Str} {rr : List Rl} {xs zs : List V} {ms : List Mv} {f : Vf} {H H' : Hp} (k : Same H H') (h : Zr K C W R O P1 R1 S D ws ss rr xs zs ms f H) : Zr K C W R O P1 R1 S D ws ss rr xs zs ms f H' :=
  ⟨k _ _ h.oW, k _ _ h.oR, dpa_same k h.dR, h.made.same k, k _ _ h.oS, dpa_same k h.dM, k _ _ h.oD⟩
theorem Zr.kd {K : PySem.W.Frag} {C W R O P1 R1 S D a : Addr} {ws ss : List Str} {rr : List Rl} {xs zs : List V} {ms : List Mv} {f : Vf} {H H' : Hp} {kv : List (Key × V)} (n : D ≠ a) (k : Kp a H H') (e : H a = some (.dK kv)) (h : Zr K C W R O P1 R1 S D ws ss rr xs zs ms f H) : Zr K C W R O P1 R1 S D ws ss rr xs zs ms f H' := by
  refine ⟨k _ _ (ne_of h.oW e (fun z => by cases z)) h.oW, k _ _ (ne_of h.oR e (fun z => by cases z)) h.oR, dpa_kd k e h.dR (noL_rls rr), ?_, k _ _ (ne_of h.oS e (fun z => by cases z)) h.oS, dpa_kd k e h.dM (noL_mvs ms), k _ _ n h.oD⟩
  obtain ⟨dx, fs, ys, h1, h2, h3, h4, h5, h6, h7⟩ := h.made
  exact ⟨dx, fs, ys, k _ _ (ne_of h1 e (fun z => by cases z)) h1, h2, h3, k _ _ (ne_of h4 e (fun z => by cases z)) h4, k _ _ (ne_of h5 e (fun z => by cases z)) h5, dpa_kd k e h6 (noL_rls rr), h7⟩
theorem RS.kd {n : Nat} {H H' : Hp} {g a : Addr} {kv : List (Key × V)} (k : Kp a H H') (e : H a = some (.dK kv)) (h : RS n H g) : RS n H' g := by
  obtain ⟨d, sd, t, eg, rest⟩ := h.ok
  exact ⟨d, sd, t, k _ _ (ne_of eg e (fun z => by cases z)) eg, rest⟩
theorem perm_nd {ss ws : List Str} (pm : ss.Perm ws) (h : WordsOk ws) : ss.Nodup := pm.nodup_iff.mpr h.nd
theorem rn_perm {ss ws : List Str} {rr : List Rl} (pm : ss.Perm ws) (gd : RowsGd ws rr) (lw : ws.length ≤ 1000) (lr : rr.length ≤ 1000) : RnOk ss rr :=
  rn_of (fun r m => (gd r m).mono fun x mx => pm.mem_iff.mpr mx) (by rw [pm.length_eq]; exact lw) lr
theorem ty_dct {K : PySem.W.Frag} {H : Hp} {p : Addr} {ks : List Str} {f : Str → V} (e : DF H p ks f) : tyV K "dict" (.ref p) H := by
  exact .inr (.inr (.inl ⟨rfl, .inl ⟨_, e⟩⟩))
theorem fit_up {g : Rg} (h : up g = false) : RgFit g := by
  match g, h with
  | none, _ => trivial
  | some (none, _), _ => trivial
  | some (some _, none), _ => trivial
  | some (some l, some u), h =>
    have := of_decide_eq_false h
    show l ≤ u
    omega
/-- the system of the last questions -/
def climbR : List Rl := [.set "x" (some (some 0, some 1)) [], .stp "x" "x" 1 3 (some (none, some 100)) [], .set "y" (some (some 5, some 5)) [("x", some (some 4, none))]]
theorem climb_rn : RnOk ["x", "y"] climbR := by
  refine ⟨by decide +kernel, fun r m g mg => fit_up ?_, by decide +kernel, by decide +kernel, fun r m => ?_, by decide, by decide⟩
  · have h : ∀ r ∈ climbR, ∀ g ∈ r.rgs, up g = false := by decide +kernel
    exact h r m g mg
  · simp only [climbR, List.mem_cons, List.not_mem_nil, or_false] at m
    rcases m with rfl | rfl | rfl
    · trivial
    · exact ⟨by decide, by decide⟩
    · trivial
theorem climb_ok : SysOk ["x", "y"] climbR := ⟨by decide +kernel, by decide +kernel, by decide +kernel, by decide +kernel, by decide, by decide⟩
theorem eq_told {K : PySem.W.Frag} {H : Hp} {d e : Addr} {f : Vf} {ls : List (Key × V)} (hd : DF H d ["x", "y"] (ovF f)) (he : H e = some (.dK ls)) (l : ls.length = 2) (hx : valV ls (.inr "x") = some (ovF f "x")) (hy : valV ls (.inr "y") = some (ovF f "y")) : EqV K H 2 (.ref d) (.ref e) := by
  refine .inr (.inr (.inr ⟨d, e, _, _, rfl, rfl, hd, he, by rw [l]; rfl, fun p m => ?_⟩))
  have m' : p = ((Sum.inr ("x" : Str), ovF f "x") : Key × V) ∨ p = ((Sum.inr ("y" : Str), ovF f "y") : Key × V) := by
    rcases List.mem_cons.mp m with h | m
    · exact .inl h
    · rcases List.mem_cons.mp m with h | m
      · exact .inr h
      · cases m
  rcases m' with rfl | rfl
  · exact ⟨_, hx, .inl ⟨rfl, flat_ov _⟩⟩
  · exact ⟨_, hy, .inl ⟨rfl, flat_ov _⟩⟩


theorem exm_same {K : PySem.W.Frag} {mg : Str → Option Value} {cs : List Addr} {ns : List Str} {fI c : Addr} {i : Nat} (X : ErrT K mg cs ns fI) (hi : cs[i]? = some c) (l : i < ns.length) : PySem.W.exmOne K (.ref c) (.ref c) = some true := by
  have T0 := X.t i c _ hi (List.getElem?_eq_getElem l)
  unfold PySem.W.exmOne
  rw [T0.ox.exC]
  obtain ⟨nm, q, N, bs, bm, sn, sub, ab, col, dd, k0, k1, k2, k3, k5, e, _⟩ := T0.ox.cls
  have ec : ∃ cd, PySem.W.clsIn K c = some cd ∧ cd.mro = .ref c :: bm := by
    unfold PySem.W.clsIn
    rw [e]
    exact ⟨_, rfl, rfl⟩
  obtain ⟨cd, ec, em⟩ := ec
  show PySem.W.kitCls K (.ref c) (.ref c) = some true
  show (if ((PySem.W.clsIn K c).isSome && PySem.W.typeIn K (.ref c) == some (.type "type")) = true then PySem.W.mroIn K c (.ref c) else none) = some true
  rw [ec, T0.ox.tyC]
  show PySem.W.mroIn K c (.ref c) = some true
  unfold PySem.W.mroIn
  rw [ec]
  show (if cd.mro.isEmpty then none else some (cd.mro.contains (.ref c))) = some true
  rw [em]
  simp
theorem bad_some {rs : List Rl} : ∀ {ms : List Mv} {g : Vf} {i : Nat} {f : Vf}, playV rs g ms = some f → badV rs g i ms = none
  | [], g, i, f, _ => rfl
  | m :: ms, g, i, f, e => by
    have e' : (if (nextV rs g m).isSome = true then playV rs (goV rs g m) ms else none) = some f := e
    show (if (nextV rs g m).isSome = true then badV rs (goV rs g m) (i + 1) ms else some i) = none
    by_cases c : (nextV rs g m).isSome = true
    · rw [if_pos c] at e' ⊢
      exact bad_some e'
    · rw [if_neg c] at e'
      cases e'
theorem bad_none {rs : List Rl} : ∀ {ms : List Mv} {g : Vf} {i j : Nat}, badV rs g i ms = some j → playV rs g ms = none
  | m :: ms, g, i, j, e => by
    have e' : (if (nextV rs g m).isSome = true then badV rs (goV rs g m) (i + 1) ms else some i) = some j := e
    show (if (nextV rs g m).isSome = true then playV rs (goV rs g m) ms else none) = none
    by_cases c : (nextV rs g m).isSome = true
    · rw [if_pos c] at e' ⊢
      exact bad_none e'
    · rw [if_neg c]
def sp_is_run (K : PySem.W.Frag) (C : Addr) (cs : List Addr) : Sp := fun vs H Q _ => ∃ a p q m ns rs zs ms, vs = [.ref a, .ref m] ∧ SysAt K C H a p q ns rs ∧ RnOk ns rs ∧ ns.Nodup ∧ SqL K H m zs ∧ DpAll K H zs (ms.map mvD) ∧ ms.length ≤ 1000 ∧ (∀ x ∈ ms, SzM x) ∧
  ∀ H', Same H H' → Q (.bl (playV rs noV ms).isSome) H'


theorem cutV_t (xs : List V) (k : Nat) (n : Int) (e : n = (k : Int)) : cutV xs none (some n) = xs.take k := by rw [e, cutV_take]
theorem cutV_d (xs : List V) (k : Nat) (n : Int) (e : n = (k : Int)) : cutV xs (some n) none = xs.drop k := by rw [e, cutV_drop]
theorem at_last {xs : List V} (h : 0 < xs.length) : ∃ v, atI xs (-1) = some v ∧ xs[xs.length - 1]? = some v := by
  have e : xs[xs.length - 1]? = some (xs[xs.length - 1]'(by omega)) := List.getElem?_eq_getElem (by omega)
  refine ⟨_, ?_, e⟩
  unfold atI ixN
  rw [if_neg (by decide), if_pos (by omega)]
  show xs[((-1 : Int) + (xs.length : Nat)).toNat]? = _
  rw [show ((-1 : Int) + (xs.length : Nat)).toNat = xs.length - 1 by omega]
  exact e
def sp__law_bent (K : PySem.W.Frag) : Sp := fun vs H Q _ => ∃ (g b m : Addr) (n : Nat) (xs zs : List V) (ms : List Mv), vs = [.ref g, .ref b, .ref m] ∧ RS n H g ∧ n ≤ 900000 ∧ b ≠ g ∧ m ≠ g ∧ H b = some (.lst xs) ∧ xs.length ≤ 1000 ∧ H m = some (.lst zs) ∧ DpAll K H zs (ms.map mvD) ∧ ms.length ≤ 900 ∧ (∀ x ∈ ms, SzM x) ∧
  ∀ (p : Addr) (zs' : List V) (ms' : List Mv) (H' : Hp), Kp g H H' → RS (n + 2) H' g → H p = none → H' p = some (.lst zs') → DpAll K H' zs' (ms'.map mvD) → ms'.length ≤ ms.length + 1 → (∀ x ∈ ms', SzM x) → Q (.ref p) H'

theorem bNe {b : Bool} : V.bl (!decide (V.bl b = V.bl b)) = V.bl false := by rw [decide_eq_true rfl]; rfl
theorem sNeF {x : Str} : V.bl (!decide (V.str x = V.str x)) = V.bl false := by rw [decide_eq_true rfl]; rfl
/-- a list of moves -/
def MvL (K : PySem.W.Frag) (g : Addr) (H : Hp) (v : V) : Prop := ∃ (a : Addr) (zs : List V) (ms : List Mv), v = .ref a ∧ a ≠ g ∧ H a = some (.lst zs) ∧ DpAll K H zs (ms.map mvD) ∧ ms.length ≤ 300 ∧ ∀ x ∈ ms, SzM x
theorem MvL.same {K : PySem.W.Frag} {g : Addr} {H H' : Hp} {v : V} (k : Same H H') (h : MvL K g H v) : MvL K g H' v := by
  obtain ⟨a, zs, ms, e, n, o, d, l, s⟩ := h
  exact ⟨a, zs, ms, e, n, k _ _ o, dpa_same k d, l, s⟩
theorem MvL.kp {K : PySem.W.Frag} {g : Addr} {n : Nat} {H H' : Hp} {v : V} (rs : RS n H g) (k : Kp g H H') (h : MvL K g H v) : MvL K g H' v := by
  obtain ⟨a, zs, ms, e, ng, o, d, l, s⟩ := h
  exact ⟨a, zs, ms, e, ng, k _ _ ng o, dpa_kl (rs.kl k) d (noL_mvs ms), l, s⟩
theorem Zr.kp {K : PySem.W.Frag} {C W R O P1 R1 S D g : Addr} {ws ss : List Str} {rr : List Rl} {xs zs : List V} {ms : List Mv} {f : Vf} {H H' : Hp} (d : W ≠ g ∧ R ≠ g ∧ P1 ≠ g ∧ R1 ≠ g ∧ S ≠ g) (k : Kl g H H') (h : Zr K C W R O P1 R1 S D ws ss rr xs zs ms f H) : Zr K C W R O P1 R1 S D ws ss rr xs zs ms f H' := by
  refine ⟨k.2 _ _ d.1 h.oW, k.2 _ _ d.2.1 h.oR, dpa_kl k h.dR (noL_rls rr), h.made.kl k d.2.2.1 d.2.2.2.1, k.2 _ _ d.2.2.2.2 h.oS, dpa_kl k h.dM (noL_mvs ms), ?_⟩
  obtain ⟨ys, e⟩ := k.1
  exact k.2 _ _ (ne_of h.oD e (fun z => by cases z)) h.oD
theorem Zr.new {K : PySem.W.Frag} {C W R O P1 R1 S D a : Addr} {ws ss : List Str} {rr : List Rl} {xs zs : List V} {ms : List Mv} {f : Vf} {H : Hp} (h : Zr K C W R O P1 R1 S D ws ss rr xs zs ms f H) (n : H a = none) : W ≠ a ∧ R ≠ a ∧ P1 ≠ a ∧ R1 ≠ a ∧ S ≠ a := by
  obtain ⟨dx, fs, ys, h1, h2, h3, h4, h5, h6, h7⟩ := h.made
  exact ⟨ne_of_none h.oW n, ne_of_none h.oR n, ne_of_none h4 n, ne_of_none h5 n, ne_of_none h.oS n⟩

theorem map_get_ {α β : Type} {f : α → β} {cs : List α} {i : Nat} {y : β} (h : (cs.map f)[i]? = some y) : ∃ c, cs[i]? = some c ∧ y = f c := by
  rw [List.getElem?_map] at h
  cases e : cs[i]? with
  | none => rw [e] at h; cases h
  | some c =>
    rw [e] at h
    exact ⟨c, rfl, (Option.some.inj h).symm⟩
/-- the word of each class -/
def wordOf : Nat → Str
  | 1 => "range" | 2 => "name" | 3 => "system" | 4 => "rule" | 5 => "unknown" | 6 => "number" | 7 => "move" | 8 => "undo" | _ => "text"
def askedOf (i : Nat) : List (Str × Bool) := [("range", decide (i = 1)), ("name", decide (i = 2)), ("system", decide (i = 3)), ("rule", decide (i = 4)), ("unknown", decide (i = 5)), ("move", decide (i = 7)), ("undo", decide (i = 8)), ("text", decide (i = 9)), ("number", decide (i = 6))]
theorem asked_one {i : Nat} (h0 : 1 ≤ i) (h1 : i ≤ 9) : ((askedOf i).filter (·.2)).map (·.1) = [wordOf i] := by
  have : i = 1 ∨ i = 2 ∨ i = 3 ∨ i = 4 ∨ i = 5 ∨ i = 6 ∨ i = 7 ∨ i = 8 ∨ i = 9 := by omega
  rcases this with rfl | rfl | rfl | rfl | rfl | rfl | rfl | rfl | rfl <;> decide +kernel
/-- pairs of words and answers -/
def PrsAt (H : Hp) (ts : List Addr) (ps : List (Str × Bool)) : Prop := PySem.Paired (fun t (p : Str × Bool) => H t = some (.tup [.str p.1, .bl p.2])) ts ps
theorem PrsAt.same {H H' : Hp} (k : Same H H') : ∀ {ts : List Addr} {ps : List (Str × Bool)}, PrsAt H ts ps → PrsAt H' ts ps
  | _, _, .nil => .nil
  | _, _, .cons a b => .cons (k _ _ a) (PrsAt.same k b)
theorem PrsAt.app {H : Hp} : ∀ {ts us : List Addr} {ps qs : List (Str × Bool)}, PrsAt H ts ps → PrsAt H us qs → PrsAt H (ts ++ us) (ps ++ qs)
  | _, _, _, _, .nil, b => b
  | _, _, _, _, .cons a c, b => .cons a (PrsAt.app c b)
theorem PrsAt.get {H : Hp} : ∀ {ts : List Addr} {ps : List (Str × Bool)} {i : Nat} {t : Addr}, PrsAt H ts ps → ts[i]? = some t → ∃ p, ps[i]? = some p ∧ H t = some (.tup [.str p.1, .bl p.2])
  | _, _, 0, _, .cons a b, e => by cases e; exact ⟨_, rfl, a⟩
  | _, _, i + 1, _, .cons a b, e => PrsAt.get (i := i) b e
theorem PrsAt.len {H : Hp} : ∀ {ts : List Addr} {ps : List (Str × Bool)}, PrsAt H ts ps → ts.length = ps.length
  | _, _, .nil => rfl
  | _, _, .cons a b => by simp [PrsAt.len b]
def sp__law_caught (K : PySem.W.Frag) (cs : List Addr) : SpE := fun a cls d vs H Q _ => ∃ i c dd v, vs = [.ref a] ∧ cls = .ref c ∧ d = some dd ∧ 1 ≤ i ∧ i ≤ 9 ∧ cs[i]? = some c ∧ H dd = some (.xd [("value", v)]) ∧
  ∀ t H', Same H H' → H t = none → H' t = some (.tup [.str (wordOf i), v]) → Q (.ref t) H'

theorem errT_exm {K : PySem.W.Frag} {mg : Str → Option Value} {cs : List Addr} {ns : List Str} {fI c c0 : Addr} {i : Nat} (X : ErrT K mg cs ns fI) (hi : cs[i]? = some c) (h0 : cs[0]? = some c0) (n : i ≠ 0) :
    PySem.W.exmOne K (.ref c) (.ref c0) = some true := by
  have l0 : 0 < ns.length := by
    rw [← X.len]
    exact (List.getElem?_eq_some_iff.mp h0).1
  have T0 := X.t 0 c0 _ h0 (List.getElem?_eq_getElem l0)
  have ne : c ≠ c0 := fun z => by
    subst z
    have a := X.sub 0 i _ _ h0 hi
    rw [decide_eq_false (fun z => z.elim (fun q => n q.symm) n)] at a
    unfold PySem.W.kitOne at a
    rw [if_pos (by simp)] at a
    cases a
  have b := X.sub i 0 _ _ hi h0
  rw [decide_eq_true (.inr rfl)] at b
  unfold PySem.W.kitOne at b
  rw [if_neg (by simpa using ne)] at b
  unfold PySem.W.exmOne
  rw [T0.ox.exC]
  exact b

/-- what is told of a list of moves -/
def ToldM (H H' : Hp) (v : V) : Option Nat → Prop
  | none => v = .str "fine"
  | some i => ∃ a, v = .ref a ∧ H a = none ∧ H' a = some (.tup [.str "move", .int (i : Nat)])
def dueMD : Option Nat → PyData
  | none => .str "fine"
  | some i => .tuple [.str "move", .int (i : Nat)]
theorem told_m {K : PySem.W.Frag} {H H' : Hp} {v : V} {o : Option Nat} (t : ToldM H H' v o) : Dp K H' v (dueMD o) := by
  cases o with
  | none =>
    have z : v = .str "fine" := t
    subst z
    exact .str _
  | some i =>
    obtain ⟨a, rfl, _, e⟩ := t
    exact .tup (.inl (.inl e)) (.cons (.str _) (.cons (.int _) .nil))
theorem dueM_ly (o : Option Nat) : Ly 2 (dueMD o) := by
  cases o with
  | none => exact (ly_str (by decide +kernel)).mono (by decide)
  | some i => exact Ly.tuple (lyA_of fun d md => by
      simp only [List.mem_cons, List.not_mem_nil, or_false] at md
      rcases md with rfl | rfl
      · exact ly_str (by decide +kernel)
      · exact Ly.int _)
theorem dueM_fine (o : Option Nat) : PyData.eqv (dueMD o) (.str "fine") = o.isNone := by
  cases o with
  | none => decide +kernel
  | some i => rfl
theorem play_bad {rs : List Rl} : ∀ {ms : List Mv} {g : Vf} {i : Nat}, (playV rs g ms).isSome = (badV rs g i ms).isNone
  | [], g, i => rfl
  | m :: ms, g, i => by
    show (if (nextV rs g m).isSome = true then playV rs (goV rs g m) ms else none).isSome = (if (nextV rs g m).isSome = true then badV rs (goV rs g m) (i + 1) ms else some i).isNone
    by_cases c : (nextV rs g m).isSome = true
    · rw [if_pos c, if_pos c]
      exact play_bad
    · rw [if_neg c, if_neg c]
      rfl
def sp__law_raised (K : PySem.W.Frag) (C : Addr) (cs : List Addr) : Sp := fun vs H Q _ => ∃ a p q m ns rs zs ms, vs = [.ref a, .ref m] ∧ SysAt K C H a p q ns rs ∧ RnOk ns rs ∧ ns.Nodup ∧ SqL K H m zs ∧ DpAll K H zs (ms.map mvD) ∧ ms.length ≤ 1000 ∧ (∀ x ∈ ms, SzM x) ∧
  ∀ v H', Same H H' → ToldM H H' v (badV rs noV 0 ms) → Q v H'

def sp__law_due (K : PySem.W.Frag) : Sp := fun vs H Q _ => ∃ w b m ws rs xs zs ms, vs = [.ref w, .ref b, .ref m] ∧ SqL K H w (ws.map V.str) ∧ SqL K H b xs ∧ DpAll K H xs (rs.map Rl.d) ∧ RnOk ws rs ∧ ws.Nodup ∧ SqL K H m zs ∧ DpAll K H zs (ms.map mvD) ∧ ms.length ≤ 1000 ∧ (∀ x ∈ ms, SzM x) ∧
  ∀ v H', Same H H' → ToldM H H' v (badV rs noV 0 ms) → Q v H'

theorem cutV_init (xs : List V) : cutV xs none (some (-1)) = xs.take (xs.length - 1) := by
  unfold cutV
  have e : HT.sIx xs.length xs.length (some (-1)) = xs.length - 1 := by
    show (if (-1 : Int) < 0 then ((-1 : Int) + (xs.length : Int)).toNat else min (-1 : Int).toNat xs.length) = _
    rw [if_pos (by decide)]
    omega
  rw [e]
  rfl
theorem cutV_last (xs : List V) : cutV xs (some (-1)) none = xs.drop (xs.length - 1) := by
  unfold cutV
  have e : HT.sIx xs.length 0 (some (-1)) = xs.length - 1 := by
    show (if (-1 : Int) < 0 then ((-1 : Int) + (xs.length : Int)).toNat else min (-1 : Int).toNat xs.length) = _
    rw [if_pos (by decide)]
    omega
  rw [e]
  exact List.take_of_length_le (by rw [List.length_drop]; exact Nat.le_refl _)
theorem MvL.get {K : PySem.W.Frag} {g : Addr} {H : Hp} {v : V} (h : MvL K g H v) : ∃ (a : Addr) (zs : List V) (ms : List Mv), v = .ref a ∧ a ≠ g ∧ H a = some (.lst zs) ∧ DpAll K H zs (ms.map mvD) ∧ ms.length ≤ 300 ∧ (∀ x ∈ ms, SzM x) ∧ zs.length = ms.length := by
  obtain ⟨a, zs, ms, e, n, o, d, l, s⟩ := h
  exact ⟨a, zs, ms, e, n, o, d, l, s, by rw [dpa_len d, List.length_map]⟩
def sp_law (K : PySem.W.Frag) : Sp := fun vs H Q _ => ∃ (a : Addr) (ns : List Int), vs = [.ref a] ∧ SqL K H a (ns.map V.int) ∧ ns.length ≤ 63 ∧ ∀ H', Q (.bl true) H'

end Pk36

namespace Pk36
open PySem PySem.Spec PyProof.Rows L2 Gd
section
variable {P : Program} {w : World} {K : PySem.W.Frag} {mg : Str → Option Value} {base : Heap}
set_option maxHeartbeats 8000000 in
-- is_upside_down: level 1; builtins []; cells []; slots: 0 one, 1 low, 2 high
theorem ok_is_upside_down (h : At K mg "is_upside_down" s_is_upside_down ["one"]) : Dn P w K mg base 1 "is_upside_down" s_is_upside_down ["one"] (sp_is_upside_down K) := by
  refine .mk' h fun f fd F => F.ok sc_is_upside_down (fun vs H Q E h => ?_) (fun cdv A outer s H vs Q E hr h => ?_)
  · obtain ⟨v, r, rfl, hv, q⟩ := h
    rfl
  · obtain ⟨v, r, rfl, hv, q⟩ := h
    refine ⟨_, (pss_cons (ps_if (pt_cmpR op_isN (pv 0) pe_non (nomark _))
        (pss_one (ps_ret pe_bl))
        pss_nil)
      (pss_cons (ps_asg (pv 0) (pg_tup (by rfl) (pgs_cons (pg_name (i := 1) sc_is_upside_down.nd rfl (.inl rfl)) (pgs_cons (pg_name (i := 2) sc_is_upside_down.nd rfl (.inl rfl)) pgs_nil))))
      (pss_one (ps_ret (pe_and (pe_cmpR op_notN (pv 1) pe_non (nomark _)) (pe_and (pe_cmpR op_notN (pv 2) pe_non (nomark _)) (pe_one (pe_cmpR op_gt (pv 1) (pv 2) (nomark _))))))))), ?_⟩
    match r, hv with
    | none, hv =>
      have e : v = .non := hv
      subst e
      exact ⟨_, rfl, rfl, _, rfl, iteT q⟩
    | some (l, u), hv =>
      obtain ⟨p, rfl, s⟩ := hv
      refine ⟨_, rfl, rfl, _, rfl, iteF ?_⟩
      refine ⟨_, rfl, p, _, rfl, s, rfl, _, _, rfl, _, _, rfl, rfl, ?_⟩
      match l, u with
      | none, _ => exact ⟨_, rfl, rfl, _, rfl, iteF q⟩
      | some l, none => exact ⟨_, rfl, rfl, _, rfl, iteT ⟨_, rfl, rfl, _, rfl, iteF q⟩⟩
      | some l, some u => exact ⟨_, rfl, rfl, _, rfl, iteT ⟨_, rfl, rfl, _, rfl, iteT ⟨_, rfl, _, rfl, _, _, rfl, rfl, q⟩⟩⟩
end

end Pk36
namespace Pk36
open PySem PySem.Spec PyProof.Rows L2 Gd
section
variable {P : Program} {w : World} {K : PySem.W.Frag} {mg : Str → Option Value} {base : Heap}
set_option maxHeartbeats 8000000 in
-- check_range: level 2; builtins []; cells []; slots: 0 one
theorem ok_check_range (h : At K mg "check_range" s_check_range ["one"]) (D_is_upside_down : Dn P w K mg base 1 "is_upside_down" s_is_upside_down ["one"] (sp_is_upside_down K)) : Dn P w K mg base 2 "check_range" s_check_range ["one"] (sp_check_range K) := by
  refine .mk' h fun f fd F => F.ok sc_check_range (fun vs H Q E h => ?_) (fun cdv A outer s H vs Q E hr h => ?_)
  · obtain ⟨v, r, rfl, hv, ho, q⟩ := h
    rfl
  · obtain ⟨v, r, rfl, hv, ho, q⟩ := h
    refine ⟨_, (pss_one (ps_if (pt_val (pe_c D_is_upside_down hr (by rfl) (pa_cons (pv 0) pa_nil)))
        (pss_one ps_never)
        pss_nil)), ?_⟩
    refine ⟨_, rfl, v, r, rfl, hv, ?_⟩
    rw [up_ok ho]
    exact ⟨_, rfl, iteF q⟩
end

end Pk36
namespace Pk36
open PySem PySem.Spec PyProof.Rows L2 Gd
section
variable {P : Program} {w : World} {K : PySem.W.Frag} {mg : Str → Option Value} {base : Heap}
set_option maxHeartbeats 8000000 in
-- _least: level 1; builtins ['min']; cells []; slots: 0 one, 1 other
theorem ok__least (h : At K mg "_least" s__least ["one", "other"]) (m_min : mg "min" = none) : Dn P w K mg base 1 "_least" s__least ["one", "other"] (sp__least K) := by
  refine .mk' h fun f fd F => F.ok sc__least (fun vs H Q E h => ?_) (fun cdv A outer s H vs Q E hr h => ?_)
  · obtain ⟨a, b, rfl, q⟩ := h
    rfl
  · obtain ⟨a, b, rfl, q⟩ := h
    refine ⟨_, (pss_cons (ps_if (pt_cmpR op_isN (pv 0) pe_non (nomark _))
        (pss_one (ps_ret (pv 1)))
        pss_nil)
      (pss_one (ps_ret (pe_ifExp (pt_cmpR op_isN (pv 1) pe_non (nomark _)) (pv 0) (pe_callB (call_min2 rfl) (by rfl) m_min (by decide +kernel) (pa_cons (pv 0) (pa_cons (pv 1) pa_nil))))))), ?_⟩
    match a, b with
    | none, b => exact ⟨_, rfl, rfl, _, rfl, iteT ⟨_, rfl, q⟩⟩
    | some a, none => exact ⟨_, rfl, rfl, _, rfl, iteF ⟨_, rfl, rfl, _, rfl, iteT ⟨_, rfl, q⟩⟩⟩
    | some a, some b => exact ⟨_, rfl, rfl, _, rfl, iteF ⟨_, rfl, rfl, _, rfl, iteF ⟨_, rfl, _, rfl, _, _, rfl, q⟩⟩⟩
end

end Pk36
namespace Pk36
open PySem PySem.Spec PyProof.Rows L2 Gd
section
variable {P : Program} {w : World} {K : PySem.W.Frag} {mg : Str → Option Value} {base : Heap}
set_option maxHeartbeats 8000000 in
-- _greatest: level 1; builtins ['max']; cells []; slots: 0 one, 1 other
theorem ok__greatest (h : At K mg "_greatest" s__greatest ["one", "other"]) (m_max : mg "max" = none) : Dn P w K mg base 1 "_greatest" s__greatest ["one", "other"] (sp__greatest K) := by
  refine .mk' h fun f fd F => F.ok sc__greatest (fun vs H Q E h => ?_) (fun cdv A outer s H vs Q E hr h => ?_)
  · obtain ⟨a, b, rfl, q⟩ := h
    rfl
  · obtain ⟨a, b, rfl, q⟩ := h
    refine ⟨_, (pss_cons (ps_if (pt_cmpR op_isN (pv 0) pe_non (nomark _))
        (pss_one (ps_ret (pv 1)))
        pss_nil)
      (pss_one (ps_ret (pe_ifExp (pt_cmpR op_isN (pv 1) pe_non (nomark _)) (pv 0) (pe_callB (call_max2 rfl) (by rfl) m_max (by decide +kernel) (pa_cons (pv 0) (pa_cons (pv 1) pa_nil))))))), ?_⟩
    match a, b with
    | none, b => exact ⟨_, rfl, rfl, _, rfl, iteT ⟨_, rfl, q⟩⟩
    | some a, none => exact ⟨_, rfl, rfl, _, rfl, iteF ⟨_, rfl, rfl, _, rfl, iteT ⟨_, rfl, q⟩⟩⟩
    | some a, some b => exact ⟨_, rfl, rfl, _, rfl, iteF ⟨_, rfl, rfl, _, rfl, iteF ⟨_, rfl, _, rfl, _, _, rfl, q⟩⟩⟩
end

end Pk36
namespace Pk36
open PySem PySem.Spec PyProof.Rows L2 Gd
section
variable {P : Program} {w : World} {K : PySem.W.Frag} {mg : Str → Option Value} {base : Heap}
set_option maxHeartbeats 8000000 in
-- common: level 3; builtins []; cells []; slots: 0 one, 1 other, 2 both
theorem ok_common (h : At K mg "common" s_common ["one", "other"]) (D__greatest : Dn P w K mg base 1 "_greatest" s__greatest ["one", "other"] (sp__greatest K)) (D__least : Dn P w K mg base 1 "_least" s__least ["one", "other"] (sp__least K)) (D_check_range : Dn P w K mg base 2 "check_range" s_check_range ["one"] (sp_check_range K)) (D_is_upside_down : Dn P w K mg base 1 "is_upside_down" s_is_upside_down ["one"] (sp_is_upside_down K)) : Dn P w K mg base 3 "common" s_common ["one", "other"] (sp_common K) := by
  refine .mk' h fun f fd F => F.ok sc_common (fun vs H Q E h => ?_) (fun cdv A outer s H vs Q E hr h => ?_)
  · obtain ⟨v1, v2, r1, r2, rfl, h1, h2, o1, o2, q⟩ := h
    rfl
  · obtain ⟨v1, v2, r1, r2, rfl, h1, h2, o1, o2, q⟩ := h
    refine ⟨_, (pss_cons (ps_expr (pe_c D_check_range hr (by rfl) (pa_cons (pv 0) pa_nil)))
      (pss_cons (ps_expr (pe_c D_check_range hr (by rfl) (pa_cons (pv 1) pa_nil)))
      (pss_cons (ps_if (PW.pt (pw_or (pt_cmpR op_isN (pv 0) pe_non (nomark _)) (pw_or1 (pt_cmpR op_isN (pv 1) pe_non (nomark _)))))
        (pss_one (ps_ret pe_non))
        pss_nil)
      (pss_cons (ps_set (i := 2) sc_common.nd rfl (.inl rfl) (pe_tup (pa_cons (pe_c D__greatest hr (by rfl) (pa_cons (pe_ix ix_tup (pv 0) pe_int (fun _ _ => rfl)) (pa_cons (pe_ix ix_tup (pv 1) pe_int (fun _ _ => rfl)) pa_nil))) (pa_cons (pe_c D__least hr (by rfl) (pa_cons (pe_ix ix_tup (pv 0) pe_int (fun _ _ => rfl)) (pa_cons (pe_ix ix_tup (pv 1) pe_int (fun _ _ => rfl)) pa_nil))) pa_nil))))
      (pss_one (ps_ret (pe_ifExp (pt_val (pe_c D_is_upside_down hr (by rfl) (pa_cons (pv 2) pa_nil))) pe_non (pv 2)))))))), ?_⟩
    refine ⟨_, rfl, v1, r1, rfl, h1, o1, _, rfl, v2, r2, rfl, h2, o2, ?_⟩
    match r1, r2, h1, h2, q with
    | none, _, h1, _, q =>
      have e : v1 = .non := h1
      subst e
      exact ⟨_, rfl, rfl, _, rfl, iteT (iteT (q _ _ (Same.refl _) rfl))⟩
    | some (l1, u1), none, h1, h2, q =>
      obtain ⟨p1, rfl, s1⟩ := h1
      have e : v2 = .non := h2
      subst e
      exact ⟨_, rfl, rfl, _, rfl, iteF ⟨_, rfl, rfl, _, rfl, iteT (q _ _ (Same.refl _) rfl)⟩⟩
    | some (l1, u1), some (l2, u2), h1, h2, q =>
      obtain ⟨p1, rfl, s1⟩ := h1
      obtain ⟨p2, rfl, s2⟩ := h2
      refine ⟨_, rfl, rfl, _, rfl, iteF ⟨_, rfl, rfl, _, rfl, iteF ?_⟩⟩
      -- both = (.., ..)
      refine ⟨_, rfl, p1, _, 0, _, rfl, rfl, s1, atI_nat (j := 0) rfl, _, rfl, p2, _, 0, _, rfl, rfl, s2, atI_nat (j := 0) rfl, l1, l2, rfl, ?_⟩
      refine ⟨_, rfl, p1, _, 1, _, rfl, rfl, s1, atI_nat (j := 1) rfl, _, rfl, p2, _, 1, _, rfl, rfl, s2, atI_nat (j := 1) rfl, u1, u2, rfl, ?_⟩
      refine ⟨by show 2 ≤ sizeLine; decide, fun p np => ?_⟩
      have sb : SqT K (upd H p (.tup [ov (gr l1 l2), ov (le2 u1 u2)])) p [ov (gr l1 l2), ov (le2 u1 u2)] := .inl (.inl upd_same)
      have rb : RgV K (upd H p (.tup [ov (gr l1 l2), ov (le2 u1 u2)])) (.ref p) (some (gr l1 l2, le2 u1 u2)) := ⟨p, rfl, sb⟩
      refine ⟨_, rfl, .ref p, _, rfl, rb, _, rfl, ?_⟩
      have qq : ∀ v, RgV K (upd H p (.tup [ov (gr l1 l2), ov (le2 u1 u2)])) v (if up (some (gr l1 l2, le2 u1 u2)) = true then none else some (gr l1 l2, le2 u1 u2)) →
        Q v (upd H p (.tup [ov (gr l1 l2), ov (le2 u1 u2)])) := fun v => q v _ (Same.new np)
      cases c : up (some (gr l1 l2, le2 u1 u2)) with
      | true =>
        rw [c] at qq
        exact iteT (qq _ rfl)
      | false =>
        rw [c] at qq
        exact iteF ⟨_, rfl, qq _ rb⟩
end

end Pk36
namespace Pk36
open PySem PySem.Spec PyProof.Rows L2 Gd
section
variable {P : Program} {w : World} {K : PySem.W.Frag} {mg : Str → Option Value} {base : Heap}
set_option maxHeartbeats 8000000 in
-- lies_within: level 4; builtins []; cells []; slots: 0 one, 1 other
theorem ok_lies_within (h : At K mg "lies_within" s_lies_within ["one", "other"]) (D_common : Dn P w K mg base 3 "common" s_common ["one", "other"] (sp_common K)) : Dn P w K mg base 4 "lies_within" s_lies_within ["one", "other"] (sp_lies_within K) := by
  refine .mk' h fun f fd F => F.ok sc_lies_within (fun vs H Q E h => ?_) (fun cdv A outer s H vs Q E hr h => ?_)
  · obtain ⟨v1, v2, r1, r2, rfl, h1, h2, o1, o2, q⟩ := h
    rfl
  · obtain ⟨v1, v2, r1, r2, rfl, h1, h2, o1, o2, q⟩ := h
    refine ⟨_, (pss_one (ps_ret (pe_cmpR (op_eqD hr.units) (pe_c D_common hr (by rfl) (pa_cons (pv 0) (pa_cons (pv 1) pa_nil))) (pv 0) (nomark _)))), ?_⟩
    refine ⟨_, rfl, _, rfl, v1, v2, r1, r2, rfl, h1, h2, o1, o2, fun v H' sm hv => ?_⟩
    refine ⟨_, rfl, rgD (comR r1 r2), rgD r1, dp_rg hv, dp_rg (h1.same sm), shaped_rgD _, shaped_rgD _, ?_⟩
    rw [eqv_rgD]
    exact q H' sm
end

end Pk36
namespace Pk36
open PySem PySem.Spec PyProof.Rows L2 Gd
section
variable {P : Program} {w : World} {K : PySem.W.Frag} {mg : Str → Option Value} {base : Heap}
set_option maxHeartbeats 8000000 in
-- _law_draw: level 1; builtins ['int']; cells []; slots: 0 rng, 1 limit, 2 digit, 3 blend
theorem ok__law_draw (h : At K mg "_law_draw" s__law_draw ["rng", "limit"]) (m_int : mg "int" = none) : Dn P w K mg base 1 "_law_draw" s__law_draw ["rng", "limit"] (sp__law_draw K) := by
  refine .mk' h fun f fd F => F.ok sc__law_draw (fun vs H Q E h => ?_) (fun cdv A outer s H vs Q E hr h => ?_)
  · obtain ⟨a, lim, n, rfl, rs, hn, l0, l1, q⟩ := h
    rfl
  · obtain ⟨a, lim, n, rfl, rs, hn, l0, l1, q⟩ := h
    refine ⟨_, (pss_cons (ps_if (pt_cmpR op_gt (pe_ix ix_list (pv 0) pe_int (fun _ _ => rfl)) pe_int (nomark _))
        (pss_cons (ps_set (i := 2) sc__law_draw.nd rfl (.inl rfl) (pe_op op_mod (pe_callTy call_int1 (by rfl) m_int (by decide +kernel) (pa_cons (pe_ix ix_list (pv 0) pe_int (fun _ _ => rfl)) pa_nil)) (pv 1)))
        (pss_cons (ps_asg (pe_op op_fdivW (pe_ix ix_list (pv 0) pe_int (fun _ _ => rfl)) (pv 1)) (pg_sub (pv 0) pe_int set_list))
        (pss_one (ps_ret (pv 2)))))
        pss_nil)
      (pss_cons (ps_asg (pe_op op_add (pe_ix ix_list (pv 0) pe_int (fun _ _ => rfl)) pe_int) (pg_sub (pv 0) pe_int set_list))
      (pss_cons (ps_set (i := 3) sc__law_draw.nd rfl (.inl rfl) (pe_op op_mod (pe_callTy call_int1 (by rfl) m_int (by decide +kernel) (pa_cons (pe_op op_powW (pe_op op_add (pe_ix ix_list (pv 0) pe_int (fun _ _ => rfl)) (pe_op op_mulW pe_int (pe_ix ix_list (pv 0) pe_int (fun _ _ => rfl)))) pe_int) pa_nil)) pe_int))
      (pss_cons (ps_set (i := 3) sc__law_draw.nd rfl (.inl rfl) (pe_op op_mod (pe_callTy call_int1 (by rfl) m_int (by decide +kernel) (pa_cons (pe_op op_powW (pe_op op_add (pv 3) (pe_op op_mulW pe_int (pe_ix ix_list (pv 0) pe_int (fun _ _ => rfl)))) pe_int) pa_nil)) pe_int))
      (pss_one (ps_ret (pe_op op_mod (pe_callTy call_int1 (by rfl) m_int (by decide +kernel) (pa_cons (pe_op op_fdivW (pv 3) pe_int) pa_nil)) (pv 1)))))))), ?_⟩
    obtain ⟨d, sd, t, e, d0, d1, s0, s1, t0, t1⟩ := rs.ok
    have hl : SqL K H a [.int d, .int sd, .int t] := .inl (.inl e)
    refine ⟨_, rfl, a, _, 0, _, rfl, rfl, hl, atI_nat (j := 0) rfl, _, _, rfl, rfl, _, rfl, ite2 (fun c => ?_) (fun c => ?_)⟩
    · have c' : d > 0 := of_decide_eq_true c
      -- digit = int(rng[0]) % limit
      refine ⟨_, rfl, a, _, 0, _, rfl, rfl, hl, atI_nat (j := 0) rfl, .inl ⟨_, rfl, _, rfl, _, _, rfl, rfl, l0, ?_⟩⟩
      -- rng[0] = rng[0] // limit
      refine ⟨_, rfl, a, _, 0, _, rfl, rfl, hl, atI_nat (j := 0) rfl, _, rfl, _, _, rfl, rfl, wide_div l0 l1 (by decide) (by decide), ?_⟩
      refine ⟨_, rfl, a, _, 0, 0, rfl, rfl, e, rfl, _, rfl, ?_⟩
      have dl : d / lim ≤ d := Int.ediv_le_self _ d0
      have dz : 0 ≤ d / lim := Int.ediv_nonneg d0 (by omega)
      refine q _ _ (Int.emod_nonneg _ (by omega)) (Int.emod_lt_of_pos _ l0) Kp.at ⟨_, _, _, upd_same, dz, ?_, s0, s1, t0, by omega⟩
      exact Nat.lt_of_le_of_lt (by omega) d1
    · -- rng[2] = rng[2] + 1
      refine ⟨_, rfl, a, _, 2, _, rfl, rfl, hl, atI_nat (j := 2) rfl, _, _, rfl, rfl, ?_⟩
      refine ⟨_, rfl, a, _, 2, 2, rfl, rfl, e, rfl, ?_⟩
      have e2 : upd H a (.lst [.int d, .int sd, .int (t + 1)]) a = some (.lst [.int d, .int sd, .int (t + 1)]) := upd_same
      have hl2 : SqL K (upd H a (.lst [.int d, .int sd, .int (t + 1)])) a [.int d, .int sd, .int (t + 1)] := .inl (.inl e2)
      -- blend = ..
      refine ⟨_, rfl, a, _, 1, _, rfl, rfl, hl2, atI_nat (j := 1) rfl, _, rfl, a, _, 2, _, rfl, rfl, hl2, atI_nat (j := 2) rfl, _, _, rfl, rfl, ?_, _, _, rfl, rfl, _, _, rfl, rfl, ?_, .inl ⟨_, rfl, _, _, rfl, rfl, (by show (0 : Int) < _; decide), ?_⟩⟩
      · exact wide_mul (a := 30) (b := 30) (by decide) (by omega) (by decide) (by decide) (by decide)
      · exact powW_ok (a := 64) (by omega) (by decide) (by decide)
      have b0 : 0 ≤ (sd + 998244353 * (t + 1)) ^ (3 : Int).toNat % 162259276829213363391578010288127 := Int.emod_nonneg _ (by decide)
      have b1 : (sd + 998244353 * (t + 1)) ^ (3 : Int).toNat % 162259276829213363391578010288127 < 162259276829213363391578010288127 := Int.emod_lt_of_pos _ (by decide)
      generalize (sd + 998244353 * (t + 1)) ^ (3 : Int).toNat % 162259276829213363391578010288127 = bl at b0 b1
      refine ⟨_, rfl, _, rfl, a, _, 2, _, rfl, rfl, hl2, atI_nat (j := 2) rfl, _, _, rfl, rfl, ?_, _, _, rfl, rfl, _, _, rfl, rfl, ?_, .inl ⟨_, rfl, _, _, rfl, rfl, (by show (0 : Int) < _; decide), ?_⟩⟩
      · exact wide_mul (a := 30) (b := 30) (by decide) (by omega) (by decide) (by decide) (by decide)
      · exact powW_ok (a := 120) (by omega) (by decide) (by decide)
      refine ⟨_, rfl, _, _, rfl, rfl, wide_div (b := 30) (by decide) (by decide) (by decide) (by decide), .inl ⟨_, rfl, _, rfl, _, _, rfl, rfl, l0, ?_⟩⟩
      exact q _ _ (Int.emod_nonneg _ (by omega)) (Int.emod_lt_of_pos _ l0) Kp.at ⟨_, _, _, upd_same, d0, d1, s0, s1, by omega, by omega⟩
end

end Pk36
namespace Pk36
open PySem PySem.Spec PyProof.Rows L2 Gd
section
variable {P : Program} {w : World} {K : PySem.W.Frag} {mg : Str → Option Value} {base : Heap}
set_option maxHeartbeats 8000000 in
-- _law_rng: level 1; builtins ['abs', 'int']; cells []; slots: 0 script, 1 digits, 2 seed, 3 number, 4 far
theorem ok__law_rng (h : At K mg "_law_rng" s__law_rng ["script"]) (m_abs : mg "abs" = none) (m_int : mg "int" = none) : Dn P w K mg base 1 "_law_rng" s__law_rng ["script"] (sp__law_rng K) := by
  refine .mk' h fun f fd F => F.ok sc__law_rng (fun vs H Q E h => ?_) (fun cdv A outer s H vs Q E hr h => ?_)
  · obtain ⟨a, ns, rfl, hS, hn, q⟩ := h
    rfl
  · obtain ⟨a, ns, rfl, hS, hn, q⟩ := h
    refine ⟨_, (pss_cons (ps_asg (pe_tup (pa_cons pe_int (pa_cons pe_int pa_nil))) (pg_tup (by rfl) (pgs_cons (pg_name (i := 1) sc__law_rng.nd rfl (.inl rfl)) (pgs_cons (pg_name (i := 2) sc__law_rng.nd rfl (.inl rfl)) pgs_nil))))
      (pss_cons (ps_for PassesOwn.never rfl (pi_list (pe_slice sl_list (pv 0) po_none (po_some pe_int))) (pg_name (i := 3) sc__law_rng.nd rfl (.inl rfl))
        (pss_cons (ps_set (i := 4) sc__law_rng.nd rfl (.inl rfl) (pe_callB call_abs (by rfl) m_abs (by decide +kernel) (pa_cons (pv 3) pa_nil)))
        (pss_cons (ps_if (pt_cmpR op_ge (pv 4) (pe_op op_powW pe_int pe_int) (nomark _))
          (pss_one (ps_set (i := 1) sc__law_rng.nd rfl (.inl rfl) (pe_op op_add (pe_op op_mulW (pv 1) (pe_op op_powW pe_int pe_int)) (pe_op op_mod (pe_callTy call_int1 (by rfl) m_int (by decide +kernel) (pa_cons (pv 4) pa_nil)) (pe_op op_powW pe_int pe_int)))))
          pss_nil)
        (pss_one (ps_set (i := 2) sc__law_rng.nd rfl (.inl rfl) (pe_op op_mod (pe_callTy call_int1 (by rfl) m_int (by decide +kernel) (pa_cons (pe_op op_add (pe_op op_add (pe_op op_mulW (pv 2) pe_int) (pe_op op_mod (pe_callTy call_int1 (by rfl) m_int (by decide +kernel) (pa_cons (pv 3) pa_nil)) pe_int)) pe_int) pa_nil)) pe_int))))))
      (pss_one (ps_ret (pe_lst (pa_cons (pv 1) (pa_cons (pv 2) (pa_cons pe_int pa_nil)))))))), ?_⟩
    refine ⟨by show 2 ≤ sizeLine; decide, fun c0 nc0 => ?_⟩
    refine ⟨c0, _, rfl, .inl (.inl upd_same), rfl, _, _, rfl, _, _, rfl, rfl, ?_⟩
    have sm0 : Same H (upd H c0 (.tup [.int 0, .int 88675123])) := Same.new nc0
    generalize upd H c0 (.tup [.int 0, .int 88675123]) = H0 at sm0
    refine ⟨_, rfl, 63, rfl, a, _, rfl, sm0.seq hS, fun c nc => ⟨c, rfl, ⟨_, .inl (.inl upd_same)⟩, ?_⟩⟩
    have len63 : (cutV (ns.map V.int) none (some 63)).length ≤ 63 := Nat.le_trans (cutV_length _ _ _) (by rw [List.length_map]; exact hn)
    refine for_list (xs := cutV (ns.map V.int) none (some 63)) (fun i σ H' => H' = upd H0 c (.lst (cutV (ns.map V.int) none (some 63))) ∧
      ∃ dg sd y3 y4, σ = [some (.ref a), some (.int dg), some (.int sd), y3, y4] ∧ 0 ≤ dg ∧ dg.natAbs < 2 ^ (200 * i + 1) ∧ 0 ≤ sd ∧ sd < 2305843009213693951)
      ⟨rfl, 0, 88675123, none, none, rfl, by decide, by decide, by decide, by decide⟩ ?_ ?_ ?_
    · intro i σ H' _ hw
      rw [hw.1]
      exact .inl (.inl upd_same)
    · intro i x σ H' hx hw
      have hi : i < (cutV (ns.map V.int) none (some 63)).length := (List.getElem?_eq_some_iff.mp hx).1
      obtain ⟨rfl, dg, sd, y3, y4, rfl, d0, d1, s0, s1⟩ := hw
      obtain ⟨z, rfl⟩ := cut_ints hx
      refine ⟨_, rfl, z, rfl, ?_⟩
      generalize (if z < 0 then -z else z) = f
      refine ⟨_, rfl, _, _, rfl, rfl, ten18, _, _, rfl, rfl, _, rfl, ite2 (fun _ => ?_) (fun _ => ?_)⟩
      · have bs := big_step (f := f) d0 d1
        refine ⟨_, rfl, _, _, rfl, rfl, ten60, _, _, rfl, rfl, ?_, _, rfl, .inl ⟨_, rfl, _, _, rfl, rfl, ten60, _, _, rfl, rfl, (by show (0 : Int) < _; decide), _, _, rfl, rfl, ?_⟩⟩
        · exact wide_mul (a := 200 * i + 1) (b := 200) d1 (by decide) (by omega) (by decide) (by omega)
        refine ⟨_, rfl, _, _, rfl, rfl, wide_mul (a := 64) (b := 64) (by omega) (by decide) (by decide) (by decide) (by decide), _, rfl, .inl ⟨_, rfl, _, _, rfl, rfl, (by show (0 : Int) < _; decide), _, _, rfl, rfl, _, _, rfl, rfl,
          .inl ⟨_, rfl, _, _, rfl, rfl, (by show (0 : Int) < _; decide), ?_⟩⟩⟩
        exact ⟨rfl, _, _, _, _, rfl, bs.1, bs.2, Int.emod_nonneg _ (by decide), Int.emod_lt_of_pos _ (by decide)⟩
      · refine ⟨_, rfl, _, _, rfl, rfl, wide_mul (a := 64) (b := 64) (by omega) (by decide) (by decide) (by decide) (by decide), _, rfl, .inl ⟨_, rfl, _, _, rfl, rfl, (by show (0 : Int) < _; decide), _, _, rfl, rfl, _, _, rfl, rfl,
          .inl ⟨_, rfl, _, _, rfl, rfl, (by show (0 : Int) < _; decide), ?_⟩⟩⟩
        exact ⟨rfl, dg, _, _, _, rfl, d0, keep_step d1, Int.emod_nonneg _ (by decide), Int.emod_lt_of_pos _ (by decide)⟩
    · intro σ H' hw
      obtain ⟨rfl, dg, sd, y3, y4, rfl, d0, d1, s0, s1⟩ := hw
      refine ⟨_, rfl, _, rfl, by show 3 ≤ sizeLine; decide, fun p np => ?_⟩
      have sm := sm0.trans (Same.new (o := .lst (cutV (ns.map V.int) none (some 63))) nc)
      exact q _ _ (sm.trans (Same.new np)) (sm.free np) ⟨_, _, _, upd_same, d0, end_step len63 d1, s0, s1, by decide, by decide⟩
end

end Pk36
namespace Pk36
open PySem PySem.Spec PyProof.Rows L2 Gd
section
variable {P : Program} {w : World} {K : PySem.W.Frag} {mg : Str → Option Value} {base : Heap}
set_option maxHeartbeats 8000000 in
-- _names_of: level 1; builtins ['list']; cells []; slots: 0 rule, 1 named, 2 condition
theorem ok__names_of (h : At K mg "_names_of" s__names_of ["rule"]) (m_list : mg "list" = none) : Dn P w K mg base 1 "_names_of" s__names_of ["rule"] (sp__names_of K) := by
  refine .mk' h fun f fd F => F.ok sc__names_of (fun vs H Q E h => ?_) (fun cdv A outer s H vs Q E hr h => ?_)
  · obtain ⟨v, r, rfl, hv, hc, q⟩ := h
    rfl
  · obtain ⟨v, r, rfl, hv, hc, q⟩ := h
    refine ⟨_, (pss_cons (ps_set (i := 1) sc__names_of.nd rfl (.inl rfl) (pe_ifExp (pt_cmpR op_eq (pe_ix ix_tup (pv 0) pe_int (fun _ _ => rfl)) pe_str (nomark _)) (pe_slice sl_tup (pv 0) (po_some pe_int) (po_some pe_int)) (pe_slice sl_tup (pv 0) (po_some pe_int) (po_some pe_int))))
      (pss_one (ps_ret (pe_op op_cat (pe_callTy call_list_of (by rfl) m_list (by decide +kernel) (pa_cons (pv 1) pa_nil)) (pe_lc (own := [("condition", 2)]) (g := gName 2) rfl sc__names_of.nd (pi_tup (pe_ix ix_tup (pv 0) (pe_un un_neg pe_int) (fun _ _ => rfl))) (blkOk_by (N := ["rule", "named", "condition"]) (sc := defScope s__names_of) (by decide +kernel)) (fun _ _ _ _ _ => pg_name (i := 2) sc__names_of.nd rfl (Or.inl rfl)) (fun _ _ _ _ _ => pts_nil) (fun _ _ _ _ _ => (pe_ix (r := rIxT K) ix_tup (pv 2) pe_int (fun _ _ => rfl)))))))), ?_⟩
    match r, hv, hc, q with
    | .set x r cs, hv, hc, q =>
      obtain ⟨p, vr, c, ys, rfl, s, hr2, s2, a2⟩ := set_inv hv
      have hc' : cs.length ≤ 1000 := hc
      refine ⟨_, rfl, p, _, 0, _, rfl, rfl, s, atI_nat (j := 0) rfl, rfl, true, sEqT, iteT ?_⟩
      refine ⟨_, rfl, 1, rfl, 2, rfl, p, _, rfl, s, (fun z => absurd (show (1 : Nat) = 0 from z.1) (by decide)), fun t nt => ?_⟩
      have k1 : Same H (upd H t (.tup (cutV [V.str "set", .str x, vr, .ref c] (some 1) (some 2)))) := Same.new nt
      have e1 : upd H t (.tup (cutV [V.str "set", .str x, vr, .ref c] (some 1) (some 2))) t = some (.tup [.str x]) := upd_same
      generalize upd H t (.tup (cutV [V.str "set", .str x, vr, .ref c] (some 1) (some 2))) = H1 at k1 e1
      refine ⟨_, rfl, t, _, rfl, .inr (.inl (.inl e1)), fun l nl => ?_⟩
      have k2 : Same H1 (upd H1 l (.lst [.str x])) := Same.new nl
      have e2 : upd H1 l (.lst [.str x]) l = some (.lst [.str x]) := upd_same
      generalize upd H1 l (.lst [.str x]) = H2 at k2 e2
      have k02 := k1.trans k2
      refine ⟨_, rfl, _, rfl, p, _, -1, .ref c, rfl, rfl, SqT.same k02 s, rfl, c, rfl, ⟨_, SqT.same k02 s2⟩, fun D nD => ?_⟩
      have a2' := dpa_same k02 a2
      have ly : ys.length = cs.length := by rw [dpa_len a2, List.length_map]
      refine lc_relT (fun i _ y => ∃ c : Cd, cs[i]? = some c ∧ y = .str c.1) (SqT.same k02 s2) (by omega) nD (fun _ _ _ _ _ _ _ h => h) (fun _ => rfl) ?_ ?_
      · intro i z G R ez sm k
        obtain ⟨cd, ec, dz⟩ := dpa_map_get (dpa_same sm a2') ez
        obtain ⟨pc, vr2, rfl, sc, _⟩ := cd_inv dz
        exact ⟨_, rfl, pc, _, 0, _, rfl, rfl, sc, atI_nat (j := 0) rfl, k _ _ (fun _ _ e => e) ⟨cd, ec, rfl⟩⟩
      · intro G zs sm eD lz hz
        obtain rfl := strs_of (lz.trans ly) hz
        refine ⟨l, D, _, _, rfl, rfl, sm _ _ e2, eD, ?_, fun m nm => ?_⟩
        · rw [List.length_map, List.length_map]
          show 1 + cs.length ≤ sizeLine
          exact Nat.le_trans (by omega : 1 + cs.length ≤ 100000) (by decide)
        · have kf := k02.trans sm
          exact q m _ (kf.trans (Same.new nm)) (kf.free nm) upd_same
    | .stp x y f a r cs, hv, hc, q =>
      obtain ⟨p, vr, c, ys, rfl, s, hr2, s2, a2⟩ := stp_inv hv
      have hc' : cs.length ≤ 1000 := hc
      refine ⟨_, rfl, p, _, 0, _, rfl, rfl, s, atI_nat (j := 0) rfl, rfl, false, (by decide +kernel), iteF ?_⟩
      refine ⟨_, rfl, 1, rfl, 3, rfl, p, _, rfl, s, (fun z => absurd (show (1 : Nat) = 0 from z.1) (by decide)), fun t nt => ?_⟩
      have k1 : Same H (upd H t (.tup (cutV [V.str "step", .str x, .str y, .int f, .int a, vr, .ref c] (some 1) (some 3)))) := Same.new nt
      have e1 : upd H t (.tup (cutV [V.str "step", .str x, .str y, .int f, .int a, vr, .ref c] (some 1) (some 3))) t = some (.tup [.str x, .str y]) := upd_same
      generalize upd H t (.tup (cutV [V.str "step", .str x, .str y, .int f, .int a, vr, .ref c] (some 1) (some 3))) = H1 at k1 e1
      refine ⟨_, rfl, t, _, rfl, .inr (.inl (.inl e1)), fun l nl => ?_⟩
      have k2 : Same H1 (upd H1 l (.lst [.str x, .str y])) := Same.new nl
      have e2 : upd H1 l (.lst [.str x, .str y]) l = some (.lst [.str x, .str y]) := upd_same
      generalize upd H1 l (.lst [.str x, .str y]) = H2 at k2 e2
      have k02 := k1.trans k2
      refine ⟨_, rfl, _, rfl, p, _, -1, .ref c, rfl, rfl, SqT.same k02 s, rfl, c, rfl, ⟨_, SqT.same k02 s2⟩, fun D nD => ?_⟩
      have a2' := dpa_same k02 a2
      have ly : ys.length = cs.length := by rw [dpa_len a2, List.length_map]
      refine lc_relT (fun i _ y => ∃ c : Cd, cs[i]? = some c ∧ y = .str c.1) (SqT.same k02 s2) (by omega) nD (fun _ _ _ _ _ _ _ h => h) (fun _ => rfl) ?_ ?_
      · intro i z G R ez sm k
        obtain ⟨cd, ec, dz⟩ := dpa_map_get (dpa_same sm a2') ez
        obtain ⟨pc, vr2, rfl, sc, _⟩ := cd_inv dz
        exact ⟨_, rfl, pc, _, 0, _, rfl, rfl, sc, atI_nat (j := 0) rfl, k _ _ (fun _ _ e => e) ⟨cd, ec, rfl⟩⟩
      · intro G zs sm eD lz hz
        obtain rfl := strs_of (lz.trans ly) hz
        refine ⟨l, D, _, _, rfl, rfl, sm _ _ e2, eD, ?_, fun m nm => ?_⟩
        · rw [List.length_map, List.length_map]
          show 2 + cs.length ≤ sizeLine
          exact Nat.le_trans (by omega : 2 + cs.length ≤ 100000) (by decide)
        · have kf := k02.trans sm
          exact q m _ (kf.trans (Same.new nm)) (kf.free nm) upd_same
end

end Pk36
namespace Pk36
open PySem PySem.Spec PyProof.Rows L2 Gd
section
variable {P : Program} {w : World} {K : PySem.W.Frag} {mg : Str → Option Value} {base : Heap}
set_option maxHeartbeats 8000000 in
-- _ranges_of: level 1; builtins []; cells []; slots: 0 rule, 1 condition
theorem ok__ranges_of (h : At K mg "_ranges_of" s__ranges_of ["rule"]) : Dn P w K mg base 1 "_ranges_of" s__ranges_of ["rule"] (sp__ranges_of K) := by
  refine .mk' h fun f fd F => F.ok sc__ranges_of (fun vs H Q E h => ?_) (fun cdv A outer s H vs Q E hr h => ?_)
  · obtain ⟨v, r, rfl, hv, hc, q⟩ := h
    rfl
  · obtain ⟨v, r, rfl, hv, hc, q⟩ := h
    refine ⟨_, (pss_one (ps_ret (pe_op op_cat (pe_lst (pa_cons (pe_ix ix_tup (pv 0) (pe_un un_neg pe_int) (fun _ _ => rfl)) pa_nil)) (pe_lc (own := [("condition", 1)]) (g := gName 1) rfl sc__ranges_of.nd (pi_tup (pe_ix ix_tup (pv 0) (pe_un un_neg pe_int) (fun _ _ => rfl))) (blkOk_by (N := ["rule", "condition"]) (sc := defScope s__ranges_of) (by decide +kernel)) (fun _ _ _ _ _ => pg_name (i := 1) sc__ranges_of.nd rfl (Or.inl rfl)) (fun _ _ _ _ _ => pts_nil) (fun _ _ _ _ _ => (pe_ix (r := rIxT K) ix_tup (pv 1) pe_int (fun _ _ => rfl))))))), ?_⟩
    obtain ⟨p, xs, vr, c, ys, rr, rfl, s, e2, e1, hr, s2, a2, er⟩ := rl_last hv
    refine ⟨_, rfl, _, rfl, p, _, -2, vr, rfl, rfl, s, e2, (by show 1 ≤ sizeLine; decide), fun l nl => ?_⟩
    have k1 : Same H (upd H l (.lst [vr])) := Same.new nl
    have el : upd H l (.lst [vr]) l = some (.lst [vr]) := upd_same
    generalize upd H l (.lst [vr]) = H1 at k1 el
    refine ⟨_, rfl, _, rfl, p, _, -1, .ref c, rfl, rfl, SqT.same k1 s, e1, c, rfl, ⟨_, SqT.same k1 s2⟩, fun D nD => ?_⟩
    have a2' := dpa_same k1 a2
    have ly : ys.length = r.cs.length := by rw [dpa_len a2, List.length_map]
    refine lc_relT (fun i G y => ∃ c : Cd, r.cs[i]? = some c ∧ Dp K G y (rgD c.2)) (SqT.same k1 s2) (by omega) nD ?_ (fun _ => rfl) ?_ ?_
    · rintro i G G' y acc kp eD ⟨c, ec, dy⟩
      exact ⟨c, ec, dp_kl ⟨⟨_, eD⟩, kp⟩ dy (noL_rg _)⟩
    · intro i z G R ez sm k
      obtain ⟨cd, ec, dz⟩ := dpa_map_get (dpa_same sm a2') ez
      obtain ⟨pc, vr2, rfl, sc, hr2⟩ := cd_inv dz
      exact ⟨_, rfl, pc, _, 1, _, rfl, rfl, sc, atI_nat (j := 1) rfl, k _ _ (fun _ _ e => e) ⟨cd, ec, dp_rg hr2⟩⟩
    · intro G zs sm eD lz hz
      have dz : DpAll K G zs (r.cs.map fun c => rgD c.2) := dpa_of (lz.trans ly) hz
      refine ⟨l, D, _, _, rfl, rfl, sm _ _ el, eD, ?_, fun m nm => ?_⟩
      · show 1 + zs.length ≤ sizeLine
        exact Nat.le_trans (by omega : 1 + zs.length ≤ 100000) (by decide)
      · have kf := k1.trans sm
        have kf2 := kf.trans (Same.new (o := .lst ([vr] ++ zs)) nm)
        refine q m _ _ kf2 (kf.free nm) upd_same ?_
        rw [er, List.map_cons, List.map_map]
        exact .cons (dp_rg (RgV.same kf2 hr)) (dpa_same (Same.new nm) dz)
end

end Pk36
namespace Pk36
open PySem PySem.Spec PyProof.Rows L2 Gd
section
variable {P : Program} {w : World} {K : PySem.W.Frag} {mg : Str → Option Value} {base : Heap}
set_option maxHeartbeats 8000000 in
-- is_faulty: level 2; builtins ['any']; cells ['names']; slots: 0 rule, 1 names, 2 name, 3 one
theorem ok_is_faulty (h : At K mg "is_faulty" s_is_faulty ["rule", "names"]) (D__names_of : Dn P w K mg base 1 "_names_of" s__names_of ["rule"] (sp__names_of K)) (D__ranges_of : Dn P w K mg base 1 "_ranges_of" s__ranges_of ["rule"] (sp__ranges_of K)) (D_is_upside_down : Dn P w K mg base 1 "is_upside_down" s_is_upside_down ["one"] (sp_is_upside_down K)) (m_any : mg "any" = none) : Dn P w K mg base 2 "is_faulty" s_is_faulty ["rule", "names"] (sp_is_faulty K) := by
  refine .mk' h fun f fd F => F.ok sc_is_faulty (fun vs H Q E h => ?_) (fun cdv A outer s H vs Q E hr h => ?_)
  · obtain ⟨v, r, a, ns, rfl, hv, hc, hn, q⟩ := h
    rfl
  · obtain ⟨v, r, a, ns, rfl, hv, hc, hn, q⟩ := h
    refine ⟨_, (C8.pss_cut (ps_if (PW.pt (pw_and (pt_cmpR op_eq (pe_ix ix_tup (pv 0) pe_int (fun _ _ => rfl)) pe_str (nomark _)) (pw_and1 (pt_cmpR op_eq (pe_ix ix_tup (pv 0) pe_int (fun _ _ => rfl)) pe_int (nomark _)))))
        (pss_one (ps_ret pe_bl))
        pss_nil)
      (C8.pss_cut (ps_if (pt_val (pe_callB (cr_any rfl) (by rfl) m_any (by decide +kernel) (pa_cons (pe_lc (own := [("name", 2)]) (g := gName 2) rfl sc_is_faulty.nd (pi_list (pe_c D__names_of hr (by rfl) (pa_cons (pv 0) pa_nil))) (blkOk_by (N := ["rule", "names", "name", "one"]) (sc := defScope s_is_faulty) (by decide +kernel)) (fun _ _ _ _ _ => pg_name (i := 2) sc_is_faulty.nd rfl (Or.inl rfl)) (fun _ _ _ _ _ => pts_nil) (fun _ _ _ _ _ => (pe_cmpR (r := rIn K true) op_notIn_seq (pv 2) (pv 1) (by rfl)))) pa_nil)))
        (pss_one (ps_ret pe_bl))
        pss_nil)
      (pss_one (ps_ret (pe_callB (cr_any rfl) (by rfl) m_any (by decide +kernel) (pa_cons (pe_lc (own := [("one", 3)]) (g := gName 3) rfl sc_is_faulty.nd (pi_list (pe_c D__ranges_of hr (by rfl) (pa_cons (pv 0) pa_nil))) (blkOk_by (N := ["rule", "names", "name", "one"]) (sc := defScope s_is_faulty) (by decide +kernel)) (fun _ _ _ _ _ => pg_name (i := 3) sc_is_faulty.nd rfl (Or.inl rfl)) (fun _ _ _ _ _ => pts_nil) (fun _ _ _ _ _ => (pe_or (pe_cmpR op_isN (pv 3) pe_non (nomark _)) (pe_one (pe_c D_is_upside_down hr (by rfl) (pa_cons (pv 3) pa_nil)))))) pa_nil)))))), ?_⟩
    have zero : ∃ p xs s0, v = .ref p ∧ SqT K H p xs ∧ atI xs 0 = some (.str s0) ∧ ((decide (V.str s0 = V.str "step") = false ∧ r.zero = false) ∨ (decide (V.str s0 = V.str "step") = true ∧ ∃ f, atI xs 3 = some (.int f) ∧ r.zero = decide (f = 0))) := by
      match r, hv with
      | .set x r cs, hv =>
        obtain ⟨p, vr, c, ys, rfl, s, hr2, s2, a2⟩ := set_inv hv
        exact ⟨p, _, _, rfl, s, rfl, .inl ⟨by decide +kernel, rfl⟩⟩
      | .stp x y f a r cs, hv =>
        obtain ⟨p, vr, c, ys, rfl, s, hr2, s2, a2⟩ := stp_inv hv
        exact ⟨p, _, _, rfl, s, rfl, .inr ⟨decide_eq_true rfl, f, rfl, rfl⟩⟩
    obtain ⟨p, xs, s0, rfl, s, e0, hz⟩ := zero
    have hq : ∀ H', Same H H' → Q (.bl (r.zero || ((r.names.any fun x => !decide (x ∈ ns)) || r.rgs.any badR))) H' := q
    clear q
    refine ⟨fun σ' H' => σ' = [some (.ref p), some (.ref a), none, none] ∧ H = H' ∧ r.zero = false, ?_, ?_⟩
    · rcases hz with ⟨z1, z2⟩ | ⟨z1, f, z2, z3⟩
      · exact ⟨_, rfl, p, xs, 0, _, rfl, rfl, s, e0, rfl, false, congrArg V.bl z1, iteF (iteF ⟨rfl, rfl, z2⟩)⟩
      · refine ⟨_, rfl, p, xs, 0, _, rfl, rfl, s, e0, rfl, true, congrArg V.bl z1, iteT ⟨_, rfl, p, xs, 3, _, rfl, rfl, s, z2, rfl, _, rfl, ?_⟩⟩
        by_cases c : f = 0
        · rw [z3, decide_eq_true c, Bool.true_or] at hq
          subst c
          exact iteT (hq H (fun _ _ e => e))
        · have e : decide (V.int f = V.int 0) = false := decide_eq_false fun z => c (V.int.inj z)
          rw [e]
          exact iteF ⟨rfl, rfl, z3.trans (decide_eq_false c)⟩
    rintro σ' H' ⟨rfl, rfl, hz2⟩
    rw [hz2, Bool.false_or] at hq
    refine ⟨fun σ' H' => σ' = [some (.ref p), some (.ref a), none, none] ∧ Same H H' ∧ (r.names.any fun x => !decide (x ∈ ns)) = false, ?_, ?_⟩
    · refine ⟨_, rfl, _, r, rfl, hv, hc, fun l H1 k1 nl el => ⟨l, rfl, ⟨_, .inl (.inl el)⟩, fun D nD => ?_⟩⟩
      refine lc_rel (fun i _ y => ∃ x, r.names[i]? = some x ∧ y = .bl (!decide (x ∈ ns))) (.inl (.inl el)) ?_ nD (fun _ _ _ _ _ _ _ h => h) (fun _ => rfl) ?_ ?_
      · rw [List.length_map]
        have := names_le (r := r)
        omega
      · intro i z G R ez sm k
        obtain ⟨x, ex, rfl⟩ := map_get ez
        refine ⟨_, rfl, _, rfl, a, _, rfl, .inl ((k1.trans sm).seq hn), rfl, flat_strs ns, ?_⟩
        rw [if_pos rfl, inV_strs]
        exact k _ _ (fun _ _ e => e) ⟨x, ex, rfl⟩
      · intro G zs sm eD lz hz
        rw [List.length_map] at lz
        obtain rfl := bls_of (f := fun x => !decide (x ∈ ns)) lz hz
        refine ⟨D, _, rfl, .inl (.inl eD), _, rfl, ?_⟩
        rw [any_id]
        have kk := k1.trans sm
        cases c : (r.names.any fun x => !decide (x ∈ ns)) with
        | true =>
          rw [c, Bool.true_or] at hq
          exact iteT (hq G kk)
        | false => exact iteF ⟨rfl, kk, rfl⟩
    rintro σ' H1 ⟨rfl, k1, hz3⟩
    rw [hz3, Bool.false_or] at hq
    refine ⟨_, rfl, _, r, rfl, dp_same k1 hv, hc, fun l H2 us k2 nl el du => ⟨l, rfl, ⟨_, .inl (.inl el)⟩, fun D nD => ?_⟩⟩
    have lu : us.length = r.rgs.length := by rw [dpa_len du, List.length_map]
    refine lc_rel (fun i _ y => ∃ x, r.rgs[i]? = some x ∧ y = .bl (badR x)) (.inl (.inl el)) ?_ nD (fun _ _ _ _ _ _ _ h => h) (fun _ => rfl) ?_ ?_
    · have := rgs_le (r := r)
      omega
    · intro i z G R ez sm k
      obtain ⟨x, ex, dz⟩ := dpa_map_get du ez
      have hr := RgV.same sm (dp_rg_inv dz)
      refine ⟨_, rfl, rfl, _, rfl, ?_⟩
      match x, hr with
      | none, hr =>
        obtain rfl := (show z = .non from hr)
        exact iteT (k _ _ (fun _ _ e => e) ⟨none, ex, rfl⟩)
      | some u, hr =>
        obtain ⟨pz, rfl, _⟩ := id hr
        exact iteF ⟨_, rfl, _, some u, rfl, hr, k _ _ (fun _ _ e => e) ⟨some u, ex, rfl⟩⟩
    · intro G zs sm eD lz hz
      obtain rfl := bls_of (f := badR) (lz.trans lu) hz
      refine ⟨D, _, rfl, .inl (.inl eD), ?_⟩
      rw [any_id]
      exact hq G ((k1.trans k2).trans sm)
end

end Pk36
namespace Pk36
open PySem PySem.Spec PyProof.Rows L2 Gd
section
variable {P : Program} {w : World} {K : PySem.W.Frag} {mg : Str → Option Value} {base : Heap}
set_option maxHeartbeats 8000000 in
-- is_name: level 1; builtins ['all', 'len']; cells []; slots: 0 text, 1 sign
theorem ok_is_name (h : At K mg "is_name" s_is_name ["text"]) (m_all : mg "all" = none) (m_len : mg "len" = none) : Dn P w K mg base 1 "is_name" s_is_name ["text"] (sp_is_name K) := by
  refine .mk' h fun f fd F => F.ok sc_is_name (fun vs H Q E h => ?_) (fun cdv A outer s H vs Q E hr h => ?_)
  · obtain ⟨x, rfl, hx, q⟩ := h
    rfl
  · obtain ⟨x, rfl, hx, q⟩ := h
    refine ⟨_, (pss_one (ps_ret (pe_and (pe_chain op_le op_le pe_int (pe_callB call_len_str (by rfl) m_len PySem.boot_len (pa_cons (pv 0) pa_nil)) pe_int) (pe_one (pe_callB (cr_all rfl) (by rfl) m_all (by decide +kernel) (pa_cons (pe_lc (own := [("sign", 1)]) (g := gName 1) rfl sc_is_name.nd (pi_str (pv 0)) (blkOk_by (N := ["text", "sign"]) (sc := defScope s_is_name) (by decide +kernel)) (fun _ _ _ _ _ => pg_name (i := 1) sc_is_name.nd rfl (Or.inl rfl)) (fun _ _ _ _ _ => pts_nil) (fun _ _ _ _ _ => (pe_chain op_le_str op_le_str pe_str (pv 1) pe_str))) pa_nil)))))), ?_⟩
    have hl : x.length ≤ 1000 := hx
    have q' : ∀ H', Same H H' → Q (.bl ((decide (1 ≤ x.cps.size) && decide (x.cps.size ≤ 8)) && x.cps.toList.all fun c => decide (97 ≤ c) && decide (c ≤ 122))) H' := q
    refine ⟨_, rfl, x, rfl, Nat.le_trans (by omega : x.length ≤ 100000) (by decide), _, _, rfl, rfl, _, rfl, ?_⟩
    by_cases c1 : 1 ≤ x.cps.size
    · rw [decide_eq_true (show (1 : Int) ≤ (x.length : Int) from Int.ofNat_le.mpr c1)]
      rw [decide_eq_true c1, Bool.true_and] at q'
      refine iteT ⟨_, _, rfl, rfl, _, rfl, ?_⟩
      by_cases c2 : x.cps.size ≤ 8
      · rw [decide_eq_true (show (x.length : Int) ≤ 8 from Int.ofNat_le.mpr c2)]
        rw [decide_eq_true c2, Bool.true_and] at q'
        refine iteT ⟨_, rfl, x, rfl, fun D nD => lc_strB x (fun c => decide (97 ≤ c) && decide (c ≤ 122)) hx nD (fun _ => rfl) ?_ ?_⟩
        · intro c H' R k
          refine ⟨_, rfl, _, _, rfl, rfl, _, rfl, ?_⟩
          have e1 : (!decide (([c] : List Nat) < [97])) = decide (97 ≤ c) := lt_one c 97
          have e2 : (!decide (([122] : List Nat) < [c])) = decide (c ≤ 122) := lt_one 122 c
          show if (!decide (([c] : List Nat) < [97])) = true then _ else _
          rw [e1]
          cases h : decide (97 ≤ c) with
          | false =>
            rw [h] at k
            exact iteF k
          | true =>
            rw [h, Bool.true_and] at k
            refine iteT ⟨_, _, rfl, rfl, ?_⟩
            show R (.bl (!decide (([122] : List Nat) < [c]))) H'
            rw [e2]
            exact k
        · refine ⟨D, _, rfl, .inl (.inl upd_same), ?_⟩
          rw [List.all_map]
          exact q' _ (Same.new nD)
      · rw [decide_eq_false (show ¬ (x.length : Int) ≤ 8 from fun z => c2 (Int.ofNat_le.mp z))]
        rw [decide_eq_false c2, Bool.false_and] at q'
        exact iteF (q' _ (fun _ _ e => e))
    · rw [decide_eq_false (show ¬ (1 : Int) ≤ (x.length : Int) from fun z => c1 (Int.ofNat_le.mp z))]
      rw [decide_eq_false c1, Bool.false_and, Bool.false_and] at q'
      exact iteF ⟨_, rfl, iteF (q' _ (fun _ _ e => e))⟩
end

end Pk36
namespace Pk36
open PySem PySem.Spec PyProof.Rows L2 Gd
section
variable {P : Program} {w : World} {K : PySem.W.Frag} {mg : Str → Option Value} {base : Heap}
set_option maxHeartbeats 8000000 in
-- _check_system: level 3; builtins ['enumerate']; cells []; slots: 0 names, 1 rules, 2 earlier, 3 name, 4 number, 5 rule
theorem ok__check_system (h : At K mg "_check_system" s__check_system ["names", "rules"]) (D_is_faulty : Dn P w K mg base 2 "is_faulty" s_is_faulty ["rule", "names"] (sp_is_faulty K)) (D_is_name : Dn P w K mg base 1 "is_name" s_is_name ["text"] (sp_is_name K)) (m_enumerate : mg "enumerate" = none) : Dn P w K mg base 3 "_check_system" s__check_system ["names", "rules"] (sp__check_system K) := by
  refine .mk' h fun f fd F => F.ok sc__check_system (fun vs H Q E h => ?_) (fun cdv A outer s H vs Q E hr h => ?_)
  · obtain ⟨a, b, ns, xs, rs, rfl, ha, hb, dr, ok, q⟩ := h
    rfl
  · obtain ⟨a, b, ns, xs, rs, rfl, ha, hb, dr, ok, q⟩ := h
    refine ⟨_, (pss_cons (ps_set (i := 2) sc__check_system.nd rfl (.inl rfl) pe_dnewK)
      (pss_cons (ps_for PassesOwn.never rfl (pi_list (pv 0)) (pg_name (i := 3) sc__check_system.nd rfl (.inl rfl))
        (pss_cons (ps_if (PW.pt (pw_or (pt_cmp (pc_din (hu_of hr) (pv 3) (pv 2))) (pw_or1 (pt_not (pt_val (pe_c D_is_name hr (by rfl) (pa_cons (pv 3) pa_nil)))))))
          (pss_one ps_never)
          pss_nil)
        (pss_one (ps_dput (hu_of hr) (pv 2) (pv 3) pe_bl rfl))))
      (pss_one (ps_for PassesOwn.never rfl (pi_enum (by rfl) m_enumerate (pa_cons (pv 1) pa_nil)) (pg_tup (by rfl) (pgs_cons (pg_name (i := 4) sc__check_system.nd rfl (.inl rfl)) (pgs_cons (pg_name (i := 5) sc__check_system.nd rfl (.inl rfl)) pgs_nil)))
        (pss_one (ps_if (pt_val (pe_c D_is_faulty hr (by rfl) (pa_cons (pv 5) (pa_cons (pv 0) pa_nil))))
          (pss_one ps_never)
          pss_nil)))))), ?_⟩
    refine fun d nd => ⟨_, rfl, a, rfl, ⟨_, (Same.new nd).seq ha⟩, for_list (xs := ns.map V.str) (fun i σ H' => Same H H' ∧ H' d = some (.dK (keyT (ns.take i))) ∧ ∃ y, σ = [some (.ref a), some (.ref b), some (.ref d), y, none, none])
      ⟨Same.new nd, upd_same, none, rfl⟩ (fun i σ H' _ h => h.1.seq ha) ?_ ?_⟩
    · rintro i z σ H' hz ⟨k1, hd, y, rfl⟩
      obtain ⟨x, ex, rfl⟩ := map_get hz
      have hx := ok.ok x (List.mem_of_getElem? ex)
      have nv : valV (keyT (ns.take i)) (Sum.inr x) = none := valV_keyT (nodup_take ok.nd ex)
      refine ⟨_, rfl, _, rfl, d, _, rfl, DGet.k (k := Sum.inr x) hd, false, ?_, iteF ?_⟩
      · rw [nv]
        rfl
      refine ⟨_, rfl, x, rfl, by have := nameOk_size hx; omega, fun H2 k2 => ?_⟩
      have k12 := k1.trans k2
      have lk : (keyT (ns.take i)).length < sizeLine := by
        unfold keyT
        rw [List.length_map, List.length_take]
        have := ok.ln
        exact Nat.lt_of_le_of_lt (by omega : min i ns.length ≤ 100000) (by decide)
      refine ⟨true, congrArg V.bl hx, iteF ⟨_, rfl, _, rfl, d, _, rfl, DPut.k (k := Sum.inr x) (k2 _ _ hd) lk, fun b' o e => ?_, ?_, _, rfl⟩⟩
      · rw [upd_ne (ne_of_none e nd)]
        exact k12 _ _ e
      · rw [upd_same, putK_new _ nv]
        have tk : keyT (ns.take (i + 1)) = keyT (ns.take i) ++ [(Sum.inr x, V.bl true)] := by
          unfold keyT
          rw [List.take_add_one, ex, List.map_append]
          rfl
        rw [tk]
    · rintro σ H' ⟨k1, _, y, rfl⟩
      have lx : xs.length = rs.length := by rw [dpa_len dr, List.length_map]
      refine ⟨_, rfl, b, xs, rfl, k1.seq hb, for_it walk_enum (fun i σ G => Same H G ∧ ∃ y4 y5, σ = [some (.ref a), some (.ref b), some (.ref d), y, y4, y5]) ⟨k1, none, none, rfl⟩ (fun i σ G _ h => h.1.seq hb) ?_ ?_⟩
      · rintro i z σ G G' hi ⟨k, y4, y5, rfl⟩ ⟨T, u, w, rfl, nT, rfl, eu, ew⟩
        obtain rfl := Option.some.inj eu
        obtain ⟨r, er, dw⟩ := dpa_map_get (dpa_same k dr) ew
        have k' : Same H (upd G T (.tup [.int (i : Nat), w])) := k.trans (Same.new nT)
        have mr := List.mem_of_getElem? er
        refine ⟨T, _, rfl, .inl (.inl upd_same), rfl, _, _, rfl, _, _, rfl, rfl, ?_⟩
        refine ⟨_, rfl, _, rfl, w, r, a, ns, rfl, dp_same (Same.new nT) dw, ok.cs r mr, k'.seq ha, fun H3 k3 => ⟨false, congrArg V.bl (ok.nf r mr), iteF ⟨k'.trans k3, _, _, rfl⟩⟩⟩
      · rintro σ G ⟨k, _⟩
        exact q G k
end

end Pk36
namespace Pk36
open PySem PySem.Spec PyProof.Rows L2 Gd
section
variable {P : Program} {w : World} {K : PySem.W.Frag} {mg : Str → Option Value} {base : Heap}
set_option maxHeartbeats 8000000 in
-- System.__init__: level 4; builtins ['list', 'sorted']; cells []; slots: 0 self, 1 names, 2 rules
theorem ok_System___init__ {C : Addr} (T : SysT K mg C) (h : AtM K C "__init__" "System.__init__" s_System___init__ ["self", "names", "rules"]) (D__check_system : Dn P w K mg base 3 "_check_system" s__check_system ["names", "rules"] (sp__check_system K)) (m_list : mg "list" = none) (m_sorted : mg "sorted" = none) : Mt P w K mg base 4 C "__init__" "System.__init__" s_System___init__ ["self", "names", "rules"] (sp_System___init__ K C) := by
  refine .mk' h fun f fd F => F.ok sc_System___init__ (fun vs H Q E h => ?_) (fun cdv A outer s H vs Q E hr h => ?_)
  · obtain ⟨o, dx, a, b, ns, xs, rs, rfl, ho, ha, hb, dr, ok, q⟩ := h
    rfl
  · obtain ⟨o, dx, a, b, ns, xs, rs, rfl, ho, ha, hb, dr, ok, q⟩ := h
    refine ⟨_, (pss_cons (ps_expr (pe_c D__check_system hr (by rfl) (pa_cons (pv 1) (pa_cons (pv 2) pa_nil))))
      (pss_cons (ps_fld (pv 0) (pe_callB cr_sortedS (by rfl) m_sorted (by decide +kernel) (pa_cons (pv 1) pa_nil)) rfl)
      (pss_one (ps_fld (pv 0) (pe_callTy call_list_of (by rfl) m_list (by decide +kernel) (pa_cons (pv 2) pa_nil)) rfl)))), ?_⟩
    refine ⟨_, rfl, _, rfl, a, b, ns, xs, rs, rfl, ha, hb, dr, ok, fun H1 k1 => ?_⟩
    refine ⟨_, rfl, a, ns, rfl, k1.seq ha, ok.ln, fun ss p pm so np => ⟨_, rfl, o, C, dx, [], rfl, ?_, T.ck.cl, T.nN, by decide, ?_⟩⟩
    · exact (Same.new np) _ _ (k1 _ _ ho)
    have k2 : Same H1 (upd H1 p (.lst (ss.map V.str))) := Same.new np
    have ep : upd H1 p (.lst (ss.map V.str)) p = some (.lst (ss.map V.str)) := upd_same
    generalize upd H1 p (.lst (ss.map V.str)) = H2 at k2 ep
    have k02 := k1.trans k2
    have eo : H2 o = some (.ins C dx []) := k02 _ _ ho
    have po : p ≠ o := ne_of ep eo (fun z => by cases z)
    have ki : Ki o H2 (upd H2 o (.ins C dx (putF "_names" (.ref p) []))) := ⟨⟨C, dx, [], eo⟩, Kp.at⟩
    have eo3 : upd H2 o (.ins C dx (putF "_names" (.ref p) [])) o = some (.ins C dx (putF "_names" (.ref p) [])) := upd_same
    generalize upd H2 o (.ins C dx (putF "_names" (.ref p) [])) = H3 at ki eo3
    have hb3 := SqL.ki ki (k02.seq hb)
    refine ⟨_, rfl, b, xs, rfl, .inl hb3, fun l nl => ⟨_, rfl, o, C, dx, _, rfl, (Same.new nl) _ _ eo3, T.ck.cl, T.nR, (by show (1 : Nat) < 1000; decide), ?_⟩⟩
    have k4 : Same H3 (upd H3 l (.lst xs)) := Same.new nl
    have el : upd H3 l (.lst xs) l = some (.lst xs) := upd_same
    generalize upd H3 l (.lst xs) = H4 at k4 el
    have eo4 := k4 _ _ eo3
    have lo : l ≠ o := ne_of el eo4 (fun z => by cases z)
    have ki4 : Ki o H4 (upd H4 o (.ins C dx (putF "_rules" (.ref l) (putF "_names" (.ref p) [])))) := ⟨⟨C, dx, _, eo4⟩, Kp.at⟩
    have np0 : H p = none := by
      cases e : H p with
      | none => rfl
      | some u => rw [k1 _ _ e] at np; cases np
    have nl0 : H l = none := by
      cases e : H l with
      | none => rfl
      | some u =>
        have z : l ≠ o := lo
        rw [ki.2 _ _ z (k02 _ _ e)] at nl
        cases nl
    refine q _ p l ss pm so (((Kp.of k02).trans ki.2).trans ((Kp.of k4).trans Kp.at)) np0 nl0 ?_
    refine ⟨dx, _, xs, upd_same, ?_, ?_, ?_, ?_, dpa_ki ki4 (dpa_same k4 (dpa_ki ki (dpa_same k02 dr))), fun m m1 m2 => ?_⟩
    · rw [lookup_putF, if_neg (by decide), lookup_putF, if_pos rfl]
    · rw [lookup_putF, if_pos rfl]
    · exact ki4.2 _ _ po (k4 _ _ (ki.2 _ _ po ep))
    · exact ki4.2 _ _ lo el
    · rw [lookup_putF, if_neg m2, lookup_putF, if_neg m1]
      rfl
end

end Pk36
namespace Pk36
open PySem PySem.Spec PyProof.Rows L2 Gd
section
variable {P : Program} {w : World} {K : PySem.W.Frag} {mg : Str → Option Value} {base : Heap}
set_option maxHeartbeats 8000000 in
-- System.__len__: level 1; builtins ['len']; cells []; slots: 0 self
theorem ok_System___len__ {C : Addr} (T : SysT K mg C) (h : AtM K C "__len__" "System.__len__" s_System___len__ ["self"]) (m_len : mg "len" = none) : Mt P w K mg base 1 C "__len__" "System.__len__" s_System___len__ ["self"] (sp_System___len__ K C) := by
  refine .mk' h fun f fd F => F.ok sc_System___len__ (fun vs H Q E h => ?_) (fun cdv A outer s H vs Q E hr h => ?_)
  · obtain ⟨a, p, b, ns, rs, rfl, ss, q⟩ := h
    rfl
  · obtain ⟨a, p, b, ns, rs, rfl, ss, q⟩ := h
    refine ⟨_, (pss_one (ps_ret (pe_callB call_len_seq (by rfl) m_len PySem.boot_len (pa_cons (pe_fld (pv 0) rfl) pa_nil)))), ?_⟩
    obtain ⟨dx, fs, xs, h1, h2, h3, h4, h5, h6, h7⟩ := ss
    have lx : xs.length = rs.length := by rw [dpa_len h6, List.length_map]
    rw [← lx] at q
    exact ⟨_, rfl, a, C, dx, fs, _, rfl, h1, T.ck.cl, T.nR, h3, b, xs, rfl, .inl (.inl (.inl h5)), q⟩
end

end Pk36
namespace Pk36
open PySem PySem.Spec PyProof.Rows L2 Gd
section
variable {P : Program} {w : World} {K : PySem.W.Frag} {mg : Str → Option Value} {base : Heap}
set_option maxHeartbeats 8000000 in
-- System.names: level 1; builtins ['list']; cells []; slots: 0 self
theorem ok_System_names {C : Addr} (T : SysT K mg C) (h : AtP K C "names" "System.names" s_System_names ["self"]) (m_list : mg "list" = none) : Pt P w K mg base 1 C "names" "System.names" s_System_names ["self"] (sp_System_names K C) := by
  refine .mk' h fun f fd F => F.ok sc_System_names (fun vs H Q E h => ?_) (fun cdv A outer s H vs Q E hr h => ?_)
  · obtain ⟨a, p, b, ns, rs, rfl, ss, q⟩ := h
    rfl
  · obtain ⟨a, p, b, ns, rs, rfl, ss, q⟩ := h
    refine ⟨_, (pss_one (ps_ret (pe_callTy call_list_of (by rfl) m_list (by decide +kernel) (pa_cons (pe_fld (pv 0) rfl) pa_nil)))), ?_⟩
    obtain ⟨dx, fs, xs, h1, h2, h3, h4, h5, h6, h7⟩ := ss
    exact ⟨_, rfl, a, C, dx, fs, _, rfl, h1, T.ck.cl, T.nN, h2, p, _, rfl, .inl (.inl (.inl h4)), q⟩
end

end Pk36
namespace Pk36
open PySem PySem.Spec PyProof.Rows L2 Gd
section
variable {P : Program} {w : World} {K : PySem.W.Frag} {mg : Str → Option Value} {base : Heap}
set_option maxHeartbeats 8000000 in
-- System.rules: level 1; builtins ['list']; cells []; slots: 0 self
theorem ok_System_rules {C : Addr} (T : SysT K mg C) (h : AtP K C "rules" "System.rules" s_System_rules ["self"]) (m_list : mg "list" = none) : Pt P w K mg base 1 C "rules" "System.rules" s_System_rules ["self"] (sp_System_rules K C) := by
  refine .mk' h fun f fd F => F.ok sc_System_rules (fun vs H Q E h => ?_) (fun cdv A outer s H vs Q E hr h => ?_)
  · obtain ⟨a, p, b, ns, rs, rfl, ss, q⟩ := h
    rfl
  · obtain ⟨a, p, b, ns, rs, rfl, ss, q⟩ := h
    refine ⟨_, (pss_one (ps_ret (pe_callTy call_list_of (by rfl) m_list (by decide +kernel) (pa_cons (pe_fld (pv 0) rfl) pa_nil)))), ?_⟩
    obtain ⟨dx, fs, xs, h1, h2, h3, h4, h5, h6, h7⟩ := ss
    exact ⟨_, rfl, a, C, dx, fs, _, rfl, h1, T.ck.cl, T.nR, h3, b, xs, rfl, .inl (.inl (.inl h5)), fun l nl => q l xs nl h6⟩
end

end Pk36
namespace Pk36
open PySem PySem.Spec PyProof.Rows L2 Gd
section
variable {P : Program} {w : World} {K : PySem.W.Frag} {mg : Str → Option Value} {base : Heap}
set_option maxHeartbeats 8000000 in
-- System.__eq__: level 1; builtins ['isinstance']; cells []; slots: 0 self, 1 other
theorem ok_System___eq__ {C : Addr} (T : SysT K mg C) (h : AtM K C "__eq__" "System.__eq__" s_System___eq__ ["self", "other"]) (m_isinstance : mg "isinstance" = none) : Mt P w K mg base 1 C "__eq__" "System.__eq__" s_System___eq__ ["self", "other"] (sp_System___eq__ K C) := by
  refine .mk' h fun f fd F => F.ok sc_System___eq__ (fun vs H Q E h => ?_) (fun cdv A outer s H vs Q E hr h => ?_)
  · obtain ⟨a, p, b, ns, rs, y, rfl, ss, q⟩ := h
    rfl
  · obtain ⟨a, p, b, ns, rs, y, rfl, ss, q⟩ := h
    refine ⟨_, (pss_one (ps_ret (pe_and (pe_callB call_isi (by rfl) m_isinstance (by decide +kernel) (pa_cons (pv 1) (pa_cons (pe_glob (v := .ref C) rfl T.ck.mg_ rfl) pa_nil))) (pe_and (pe_cmpR (op_eqD hr.units) (pe_fld (pv 0) rfl) (pe_fld (pv 1) rfl) (nomark _)) (pe_one (pe_cmpR (op_eqD hr.units) (pe_fld (pv 0) rfl) (pe_fld (pv 1) rfl) (nomark _))))))), ?_⟩
    refine ⟨_, rfl, ?_⟩
    rcases q with ⟨t, ty, ki, q⟩ | ⟨b', p', q', ns', rs', rfl, ss', la, lb, q⟩
    · exact ⟨y, .ref C, t, .ref C, false, rfl, .own C, ty, ki, _, rfl, iteF q⟩
    · obtain ⟨dx, fs, xs, h1, h2, h3, h4, h5, h6, h7⟩ := ss
      obtain ⟨dx', fs', xs', g1, g2, g3, g4, g5, g6, g7⟩ := ss'
      refine ⟨.ref b', .ref C, .ref C, .ref C, true, rfl, .own C, .base (.ins g1 T.ck.cl T.ha T.hn T.ht T.hm), ?_, _, rfl, iteT ?_⟩
      · unfold PySem.W.kitOne
        rw [if_pos (beq_self_eq_true _)]
      refine ⟨_, rfl, a, C, dx, fs, _, rfl, h1, T.ck.cl, T.nN, h2, _, rfl, b', C, dx', fs', _, rfl, g1, T.ck.cl, T.nN, g2, ?_⟩
      refine ⟨_, _, .lst (.inl (.inl h4)) (dpa_strs ns), .lst (.inl (.inl g4)) (dpa_strs ns'), la.ns.shaped, lb.ns.shaped, _, rfl, ?_⟩
      unfold eqS at q
      cases c : PyData.eqv (.list (ns.map PyData.str)) (.list (ns'.map PyData.str)) with
      | false =>
        rw [c, Bool.false_and] at q
        exact iteF q
      | true =>
        rw [c, Bool.true_and] at q
        refine iteT ⟨_, rfl, a, C, dx, fs, _, rfl, h1, T.ck.cl, T.nR, h3, _, rfl, b', C, dx', fs', _, rfl, g1, T.ck.cl, T.nR, g3, ?_⟩
        exact ⟨_, _, .lst (.inl (.inl h5)) h6, .lst (.inl (.inl g5)) g6, la.rs.shaped, lb.rs.shaped, q⟩
end

end Pk36
namespace Pk36
open PySem PySem.Spec PyProof.Rows L2 Gd
section
variable {P : Program} {w : World} {K : PySem.W.Frag} {mg : Str → Option Value} {base : Heap}
set_option maxHeartbeats 8000000 in
-- _law_words: level 2; builtins ['len', 'range']; cells []; slots: 0 rng, 1 many, 2 left, 3 some, 4 turn, 5 word
theorem ok__law_words (h : At K mg "_law_words" s__law_words ["rng", "many"]) (D__law_draw : Dn P w K mg base 1 "_law_draw" s__law_draw ["rng", "limit"] (sp__law_draw K)) (m_len : mg "len" = none) (m_range : mg "range" = none) : Dn P w K mg base 2 "_law_words" s__law_words ["rng", "many"] (sp__law_words K) := by
  refine .mk' h fun f fd F => F.ok sc__law_words (fun vs H Q E h => ?_) (fun cdv A outer s H vs Q E hr h => ?_)
  · obtain ⟨g, m, n, rfl, rs, hn, m0, m1, q⟩ := h
    rfl
  · obtain ⟨g, m, n, rfl, rs, hn, m0, m1, q⟩ := h
    refine ⟨_, (pss_cons (ps_par (i := 2) (j := 3) rfl sc__law_words.nd rfl rfl (by decide) rfl rfl (pa_cons (pe_lst (pa_cons pe_str (pa_cons pe_str (pa_cons pe_str (pa_cons pe_str (pa_cons pe_str (pa_cons pe_str pa_nil))))))) (pa_cons (pe_lst pa_nil) pa_nil)) (by rfl))
      (pss_cons (ps_for PassesOwn.never rfl (pi_range1 (by rfl) m_range (pa_cons (pv 1) pa_nil)) (pg_name (i := 4) sc__law_words.nd rfl (.inl rfl))
        (pss_one (ps_expr (pe_bm PySem.F.plainAttrs_list PySem.F.slot_list_append PySem.F.type_list_append mt_append (pv 3) (pa_cons (pe_bm PySem.F.plainAttrs_list PySem.F.slot_list_pop PySem.F.type_list_pop mt_popAt (pv 2) (pa_cons (pe_c D__law_draw hr (by rfl) (pa_cons (pv 0) (pa_cons (pe_callB call_len_seq (by rfl) m_len PySem.boot_len (pa_cons (pv 2) pa_nil)) pa_nil))) pa_nil)) pa_nil)))))
      (pss_one (ps_ret (pe_ifExp (pt_cmpR op_eq (pe_c D__law_draw hr (by rfl) (pa_cons (pv 0) (pa_cons pe_int pa_nil))) pe_int (nomark _)) (pe_lc (own := [("word", 5)]) (g := gName 5) rfl sc__law_words.nd (pi_list (pv 3)) (blkOk_by (N := ["rng", "many", "left", "some", "turn", "word"]) (sc := defScope s__law_words) (by decide +kernel)) (fun _ _ _ _ _ => pg_name (i := 5) sc__law_words.nd rfl (Or.inl rfl)) (fun _ _ _ _ _ => pts_nil) (fun _ _ _ _ _ => (pe_op op_add_str pe_str (pe_slice sl_str (pv 5) po_none (po_some pe_int))))) (pv 3)))))), ?_⟩
    refine ⟨by show 6 ≤ sizeLine; decide, fun L nL => ⟨by show 0 ≤ sizeLine; decide, fun S nS => ⟨_, _, rfl, ?_⟩⟩⟩
    have sm : Same H (upd (upd H L (.lst (base6.map V.str))) S (.lst [])) := (Same.new nL).trans (Same.new nS)
    have LS : L ≠ S := fun z => by
      rw [← z, upd_same] at nS
      cases nS
    have eL : upd (upd H L (.lst (base6.map V.str))) S (.lst []) L = some (.lst (base6.map V.str)) := by rw [upd_ne LS, upd_same]
    have eS : upd (upd H L (.lst (base6.map V.str))) S (.lst []) S = some (.lst []) := upd_same
    have nS0 : H S = none := by rw [upd_ne (Ne.symm LS)] at nS; exact nS
    generalize hH : upd (upd H L (HO.lst [V.str "x", V.str "y", V.str "ab", V.str "jkv", V.str "q", V.str "lowhere"])) S (HO.lst []) = H0
    replace sm : Same H H0 := hH ▸ sm
    replace eL : H0 L = some (.lst (base6.map V.str)) := hH ▸ eL
    replace eS : H0 S = some (.lst []) := hH ▸ eS
    have Lg : L ≠ g := rs.fresh nL
    have Sg : S ≠ g := rs.fresh nS0
    refine ⟨_, rfl, m, rfl, by omega, by omega, for_range (fun i σ H' => ∃ (left some_ : List Str) (y4 : Option V), σ = [some (.ref g), some (.int m), some (.ref L), some (.ref S), y4, none] ∧ Kp g H H' ∧ RS (n + i) H' g ∧
      H' L = some (.lst (left.map V.str)) ∧ H' S = some (.lst (some_.map V.str)) ∧ (some_ ++ left).Perm base6 ∧ some_.length = i) ⟨base6, [], none, rfl, .of sm, rs.same sm, eL, eS, .refl _, rfl⟩ ?_ ?_⟩
    · rintro i σ H' hi ⟨left, some_, y4, rfl, kp, rs1, oL, oS, pm, ls⟩
      have ll : left.length = 6 - i := by
        have := pm.length_eq
        rw [List.length_append] at this
        have e6 : base6.length = 6 := rfl
        omega
      have hi6 : i < 6 := by omega
      refine ⟨_, rfl, ty_lst oS, _, rfl, ty_lst oL, _, rfl, _, rfl, L, _, rfl, .inl (.inl (.inl oL)), g, _, n + i, rfl, rs1, by omega, ?_, ?_, fun r H1 r0 r1 k1 rs2 => ?_⟩
      · rw [List.length_map]
        omega
      · have : (2 : Nat) ^ 200 = 1606938044258990275541962092341162602522202993782792835301376 := by decide
        rw [List.length_map, this]
        omega
      rw [List.length_map] at r1
      have oL1 := k1 _ _ Lg oL
      have oS1 := k1 _ _ Sg oS
      have lt : r.toNat < left.length := by omega
      obtain ⟨x, ex⟩ : ∃ x, left[r.toNat]? = some x := ⟨_, List.getElem?_eq_getElem lt⟩
      refine ⟨L, _, r, r.toNat, .str x, rfl, rfl, oL1, by omega, by omega, ?_, ?_, ?_⟩
      · rw [List.length_map]
        exact seqIx r0 r1
      · rw [List.getElem?_map, ex]
        rfl
      refine ⟨S, _, _, rfl, rfl, (by rw [upd_ne (Ne.symm LS)]; exact oS1), ?_, ?_⟩
      · rw [List.length_map]
        exact Nat.lt_of_lt_of_le (by omega : some_.length < 100000) (by decide)
      refine ⟨left.eraseIdx r.toNat, some_ ++ [x], _, rfl, ?_, ?_, ?_, ?_, ?_, ?_⟩
      · intro b o hb e
        have bL : b ≠ L := ne_of_none e nL
        have bS : b ≠ S := ne_of_none e nS0
        rw [upd_ne bS, upd_ne bL]
        exact k1 _ _ hb (kp _ _ hb e)
      · obtain ⟨d, sd, t, e, rest⟩ := rs2.ok
        refine ⟨d, sd, t, ?_, by simpa [Nat.add_assoc] using rest⟩
        rw [upd_ne (Ne.symm Sg), upd_ne (Ne.symm Lg)]
        exact e
      · rw [upd_ne LS, upd_same, eraseIdx_map]
      · rw [upd_same, List.map_append]
        rfl
      · refine List.Perm.trans ?_ pm
        rw [List.append_assoc]
        exact (erase_perm ex).append_left some_
      · rw [List.length_append, ls]
        rfl
    · rintro σ H' ⟨left, some_, y4, rfl, kp, rs1, oL, oS, pm, ls⟩
      refine ⟨_, rfl, g, 3, n + m.toNat, rfl, rs1, by omega, by decide, by decide, fun r H1 r0 r1 k1 rs2 => ⟨rfl, _, rfl, ite2 (fun _ => ?_) (fun _ => ?_)⟩⟩
      · have oS1 := k1 _ _ Sg oS
        refine ⟨_, rfl, S, rfl, ⟨_, .inl (.inl oS1)⟩, fun D nD => ?_⟩
        refine lc_map (xs := some_.map V.str) (fun z => match z with | .str x => .str (rowS x) | z => z) (.inl (.inl oS1)) ?_ nD (fun _ => rfl) ?_ ?_
        · rw [List.length_map]
          omega
        · intro z G R mz sG k
          obtain ⟨x, mx, rfl⟩ := List.mem_map.mp mz
          have sh := base_short x (pm.mem_iff.mp (List.mem_append_left _ mx))
          refine ⟨_, rfl, 5, rfl, x, rfl, Nat.le_trans (by omega : x.length ≤ 100000) (by decide), ?_⟩
          refine ⟨_, _, rfl, rfl, ?_, k⟩
          have cs := cut_short x (pm.mem_iff.mp (List.mem_append_left _ mx))
          show 3 + (cutS x none (some 5)).length ≤ sizeLine
          exact Nat.le_trans (by omega : 3 + (cutS x none (some 5)).length ≤ 100000) (by decide)
        · refine q D _ (some_.map rowS) ((kp.trans k1).trans (Kp.new nD)) ((rs2.same (Same.new nD)).mono (by omega)) ?_ ?_ (words_row pm) (by rw [List.length_map, ls]; omega)
          · exact Kp.none_of (kp.trans k1) rs2 nD
          · rw [upd_same, List.map_map, List.map_map]
            rfl
      · refine ⟨_, rfl, q S H1 some_ (kp.trans k1) (rs2.mono (by omega)) nS0 (k1 _ _ Sg oS) (words_base pm) (by rw [ls]; omega)⟩
end

end Pk36
namespace Pk36
open PySem PySem.Spec PyProof.Rows L2 Gd
section
variable {P : Program} {w : World} {K : PySem.W.Frag} {mg : Str → Option Value} {base : Heap}
set_option maxHeartbeats 8000000 in
-- _law_end: level 2; builtins []; cells []; slots: 0 rng, 1 far
theorem ok__law_end (h : At K mg "_law_end" s__law_end ["rng", "far"]) (D__law_draw : Dn P w K mg base 1 "_law_draw" s__law_draw ["rng", "limit"] (sp__law_draw K)) : Dn P w K mg base 2 "_law_end" s__law_end ["rng", "far"] (sp__law_end K) := by
  refine .mk' h fun f fd F => F.ok sc__law_end (fun vs H Q E h => ?_) (fun cdv A outer s H vs Q E hr h => ?_)
  · obtain ⟨g, far, n, rfl, rs, hn, hf0, hf1, q⟩ := h
    rfl
  · obtain ⟨g, far, n, rfl, rs, hn, hf0, hf1, q⟩ := h
    refine ⟨_, (pss_one (ps_ret (pe_ix ix_list (pe_lst (pa_cons pe_non (pa_cons (pe_op op_sub (pe_c D__law_draw hr (by rfl) (pa_cons (pv 0) (pa_cons pe_int pa_nil))) pe_int) (pa_cons (pe_op op_sub (pe_c D__law_draw hr (by rfl) (pa_cons (pv 0) (pa_cons pe_int pa_nil))) pe_int) (pa_cons (pv 1) pa_nil))))) (pe_c D__law_draw hr (by rfl) (pa_cons (pv 0) (pa_cons pe_int pa_nil))) (fun _ _ => rfl)))), ?_⟩
    refine ⟨_, rfl, g, _, n, rfl, rs, by omega, by decide, by decide, fun r H1 r0 r1 k1 rs1 => ⟨_, _, rfl, rfl, ?_⟩⟩
    refine ⟨_, rfl, g, _, n + 1, rfl, rs1, by omega, by decide, by decide, fun r2 H2 t0 t1 k2 rs2 => ⟨_, _, rfl, rfl, _, rfl, by show 4 ≤ sizeLine; decide, fun p np => ?_⟩⟩
    have rs3 := rs2.same (Same.new (o := .lst [.non, .int (r - 4), .int (r2 - 99), .int far]) np)
    refine ⟨_, rfl, g, _, n + 2, rfl, rs3, by omega, by decide, by decide, fun r3 H3 u0 u1 k3 rs4 => ?_⟩
    have kk : Kp g H H3 := (k1.trans k2).trans ((Kp.of (Same.new np)).trans k3)
    have ep : SqL K H3 p [.non, .int (r - 4), .int (r2 - 99), .int far] := .inl (.inl (k3 _ _ (rs2.fresh np) upd_same))
    have four : r3 = 0 ∨ r3 = 1 ∨ r3 = 2 ∨ r3 = 3 := by omega
    have big : (10 : Int) ^ 31 = 10000000000000000000000000000000 := by decide
    rw [big] at hf0 hf1
    rcases four with rfl | rfl | rfl | rfl
    · exact ⟨p, _, 0, _, rfl, rfl, ep, atI_nat (j := 0) rfl, q none _ trivial kk rs4⟩
    · exact ⟨p, _, 1, _, rfl, rfl, ep, atI_nat (j := 1) rfl, q (some _) _ (by unfold BdOk; rw [big]; omega) kk rs4⟩
    · exact ⟨p, _, 2, _, rfl, rfl, ep, atI_nat (j := 2) rfl, q (some _) _ (by unfold BdOk; rw [big]; omega) kk rs4⟩
    · exact ⟨p, _, 3, _, rfl, rfl, ep, atI_nat (j := 3) rfl, q (some _) _ (by unfold BdOk; rw [big]; omega) kk rs4⟩
end

end Pk36
namespace Pk36
open PySem PySem.Spec PyProof.Rows L2 Gd
section
variable {P : Program} {w : World} {K : PySem.W.Frag} {mg : Str → Option Value} {base : Heap}
set_option maxHeartbeats 8000000 in
-- _law_within: level 3; builtins []; cells []; slots: 0 rng, 1 far, 2 low, 3 high
theorem ok__law_within (h : At K mg "_law_within" s__law_within ["rng", "far"]) (D__law_end : Dn P w K mg base 2 "_law_end" s__law_end ["rng", "far"] (sp__law_end K)) : Dn P w K mg base 3 "_law_within" s__law_within ["rng", "far"] (sp__law_within K) := by
  refine .mk' h fun f fd F => F.ok sc__law_within (fun vs H Q E h => ?_) (fun cdv A outer s H vs Q E hr h => ?_)
  · obtain ⟨g, far, n, rfl, rs, hn, hf0, hf1, q⟩ := h
    rfl
  · obtain ⟨g, far, n, rfl, rs, hn, hf0, hf1, q⟩ := h
    refine ⟨_, (pss_cons (ps_par (i := 2) (j := 3) rfl sc__law_within.nd rfl rfl (by decide) rfl rfl (pa_cons (pe_c D__law_end hr (by rfl) (pa_cons (pv 0) (pa_cons (pe_op op_sub pe_int (pv 1)) pa_nil))) (pa_cons (pe_c D__law_end hr (by rfl) (pa_cons (pv 0) (pa_cons (pv 1) pa_nil))) pa_nil)) (by rfl))
      (pss_cons (ps_if (PW.pt (pw_and (pt_cmpR op_notN (pv 2) pe_non (nomark _)) (pw_and (pt_cmpR op_notN (pv 3) pe_non (nomark _)) (pw_and1 (pt_cmpR op_gt (pv 2) (pv 3) (nomark _))))))
        (pss_one (ps_ret (pe_tup (pa_cons (pv 3) (pa_cons (pv 2) pa_nil)))))
        pss_nil)
      (pss_one (ps_ret (pe_tup (pa_cons (pv 2) (pa_cons (pv 3) pa_nil))))))), ?_⟩
    have big : (10 : Int) ^ 31 = 10000000000000000000000000000000 := by decide
    refine ⟨_, rfl, _, rfl, _, _, rfl, rfl, g, _, n, rfl, rs, by omega, by rw [big] at *; omega, by rw [big] at *; omega, fun lo H1 bl k1 rs1 => ?_⟩
    refine ⟨_, rfl, _, rfl, g, far, n + 3, rfl, rs1, by omega, hf0, hf1, fun hi H2 bh k2 rs2 => ⟨_, _, rfl, ?_⟩⟩
    have kk := k1.trans k2
    match lo, hi, bl, bh with
    | none, hi, bl, bh =>
      refine ⟨_, rfl, rfl, _, rfl, iteF (iteF ⟨_, rfl, _, rfl, by show 2 ≤ sizeLine; decide, fun p np => ?_⟩)⟩
      exact q _ (some (none, hi)) _ ⟨by cases hi <;> rfl, bl, bh⟩ (kk.trans (Kp.new np)) (rs2.same (Same.new np)) ⟨p, rfl, .inl (.inl upd_same)⟩
    | some l, none, bl, bh =>
      refine ⟨_, rfl, rfl, _, rfl, iteT ⟨_, rfl, rfl, _, rfl, iteF (iteF ⟨_, rfl, _, rfl, by show 2 ≤ sizeLine; decide, fun p np => ?_⟩)⟩⟩
      exact q _ (some (some l, none)) _ ⟨rfl, bl, bh⟩ (kk.trans (Kp.new np)) (rs2.same (Same.new np)) ⟨p, rfl, .inl (.inl upd_same)⟩
    | some l, some u, bl, bh =>
      refine ⟨_, rfl, rfl, _, rfl, iteT ⟨_, rfl, rfl, _, rfl, iteT ⟨_, rfl, _, rfl, _, _, rfl, rfl, _, rfl, ite2 (fun c => ?_) (fun c => ?_)⟩⟩⟩
      · have c' : l > u := of_decide_eq_true c
        refine ⟨_, rfl, _, rfl, by show 2 ≤ sizeLine; decide, fun p np => ?_⟩
        refine q _ (some (some u, some l)) _ ⟨?_, bh, bl⟩ (kk.trans (Kp.new np)) (rs2.same (Same.new np)) ⟨p, rfl, .inl (.inl upd_same)⟩
        show (false || decide (u > l)) = false
        rw [Bool.false_or]
        exact decide_eq_false (by omega)
      · have c' : ¬ l > u := fun z => c (decide_eq_true z)
        refine ⟨_, rfl, _, rfl, by show 2 ≤ sizeLine; decide, fun p np => ?_⟩
        refine q _ (some (some l, some u)) _ ⟨?_, bl, bh⟩ (kk.trans (Kp.new np)) (rs2.same (Same.new np)) ⟨p, rfl, .inl (.inl upd_same)⟩
        show (false || decide (l > u)) = false
        rw [Bool.false_or]
        exact decide_eq_false c'
end

end Pk36
namespace Pk36
open PySem PySem.Spec PyProof.Rows L2 Gd
section
variable {P : Program} {w : World} {K : PySem.W.Frag} {mg : Str → Option Value} {base : Heap}
set_option maxHeartbeats 8000000 in
-- _law_rule: level 4; builtins ['len', 'max', 'range', 'tuple']; cells []; slots: 0 rng, 1 words, 2 far, 3 conditions, 4 turn, 5 first, 6 last, 7 size, 8 plus
theorem ok__law_rule (h : At K mg "_law_rule" s__law_rule ["rng", "words", "far"]) (D__law_draw : Dn P w K mg base 1 "_law_draw" s__law_draw ["rng", "limit"] (sp__law_draw K)) (D__law_within : Dn P w K mg base 3 "_law_within" s__law_within ["rng", "far"] (sp__law_within K)) (m_len : mg "len" = none) (m_max : mg "max" = none) (m_range : mg "range" = none) (m_tuple : mg "tuple" = none) : Dn P w K mg base 4 "_law_rule" s__law_rule ["rng", "words", "far"] (sp__law_rule K) := by
  refine .mk' h fun f fd F => F.ok sc__law_rule (fun vs H Q E h => ?_) (fun cdv A outer s H vs Q E hr h => ?_)
  · obtain ⟨g, w, far, n, ws, rfl, rs, hn, hf0, hf1, wg, hw, w0, wl, q⟩ := h
    rfl
  · obtain ⟨g, w, far, n, ws, rfl, rs, hn, hf0, hf1, wg, hw, w0, wl, q⟩ := h
    refine ⟨_, (pss_cons (ps_set (i := 3) sc__law_rule.nd rfl (.inl rfl) (pe_lst pa_nil))
      (pss_cons (ps_for PassesOwn.never rfl (pi_range1 (by rfl) m_range (pa_cons (pe_callB (call_max2 rfl) (by rfl) m_max (by decide +kernel) (pa_cons pe_int (pa_cons (pe_op op_sub (pe_c D__law_draw hr (by rfl) (pa_cons (pv 0) (pa_cons pe_int pa_nil))) pe_int) pa_nil))) pa_nil)) (pg_name (i := 4) sc__law_rule.nd rfl (.inl rfl))
        (pss_one (ps_expr (pe_bm PySem.F.plainAttrs_list PySem.F.slot_list_append PySem.F.type_list_append mt_append (pv 3) (pa_cons (pe_tup (pa_cons (pe_ix ix_list (pv 1) (pe_c D__law_draw hr (by rfl) (pa_cons (pv 0) (pa_cons (pe_callB call_len_seq (by rfl) m_len PySem.boot_len (pa_cons (pv 1) pa_nil)) pa_nil))) (fun _ _ => rfl)) (pa_cons (pe_c D__law_within hr (by rfl) (pa_cons (pv 0) (pa_cons (pv 2) pa_nil))) pa_nil))) pa_nil)))))
      (pss_cons (ps_par (i := 5) (j := 6) rfl sc__law_rule.nd rfl rfl (by decide) rfl rfl (pa_cons (pe_ix ix_list (pv 1) (pe_c D__law_draw hr (by rfl) (pa_cons (pv 0) (pa_cons (pe_callB call_len_seq (by rfl) m_len PySem.boot_len (pa_cons (pv 1) pa_nil)) pa_nil))) (fun _ _ => rfl)) (pa_cons (pe_ix ix_list (pv 1) (pe_c D__law_draw hr (by rfl) (pa_cons (pv 0) (pa_cons (pe_callB call_len_seq (by rfl) m_len PySem.boot_len (pa_cons (pv 1) pa_nil)) pa_nil))) (fun _ _ => rfl)) pa_nil)) (by rfl))
      (pss_cons (ps_if (pt_cmpR op_eq (pe_c D__law_draw hr (by rfl) (pa_cons (pv 0) (pa_cons pe_int pa_nil))) pe_int (nomark _))
        (pss_one (ps_ret (pe_tup (pa_cons pe_str (pa_cons (pv 5) (pa_cons (pe_c D__law_within hr (by rfl) (pa_cons (pv 0) (pa_cons (pv 2) pa_nil))) (pa_cons (pe_callTy call_tuple_of (by rfl) m_tuple (by decide +kernel) (pa_cons (pv 3) pa_nil)) pa_nil)))))))
        pss_nil)
      (pss_cons (ps_set (i := 7) sc__law_rule.nd rfl (.inl rfl) (pe_ix ix_list (pe_lst (pa_cons pe_int (pa_cons pe_int (pa_cons pe_int (pa_cons (pe_un un_neg pe_int) (pa_cons pe_int (pa_cons (pe_un un_neg pe_int) (pa_cons (pe_op op_add pe_int (pe_c D__law_draw hr (by rfl) (pa_cons (pv 0) (pa_cons pe_int pa_nil)))) (pa_cons (pe_op op_sub (pe_op op_sub pe_int pe_int) (pe_c D__law_draw hr (by rfl) (pa_cons (pv 0) (pa_cons pe_int pa_nil)))) pa_nil))))))))) (pe_c D__law_draw hr (by rfl) (pa_cons (pv 0) (pa_cons pe_int pa_nil))) (fun _ _ => rfl)))
      (pss_cons (ps_set (i := 8) sc__law_rule.nd rfl (.inl rfl) (pe_ix ix_list (pe_lst (pa_cons pe_int (pa_cons pe_int (pa_cons (pe_un un_neg pe_int) (pa_cons (pe_op op_sub (pe_c D__law_draw hr (by rfl) (pa_cons (pv 0) (pa_cons pe_int pa_nil))) pe_int) (pa_cons (pe_op op_sub (pe_c D__law_draw hr (by rfl) (pa_cons (pv 0) (pa_cons pe_int pa_nil))) pe_int) (pa_cons (pv 2) (pa_cons (pe_op op_sub pe_int (pv 2)) pa_nil)))))))) (pe_c D__law_draw hr (by rfl) (pa_cons (pv 0) (pa_cons pe_int pa_nil))) (fun _ _ => rfl)))
      (pss_one (ps_ret (pe_tup (pa_cons pe_str (pa_cons (pv 5) (pa_cons (pv 6) (pa_cons (pv 7) (pa_cons (pv 8) (pa_cons (pe_c D__law_within hr (by rfl) (pa_cons (pv 0) (pa_cons (pv 2) pa_nil))) (pa_cons (pe_callTy call_tuple_of (by rfl) m_tuple (by decide +kernel) (pa_cons (pv 3) pa_nil)) pa_nil)))))))))))))))), ?_⟩
    have big : (10 : Int) ^ 31 = 10000000000000000000000000000000 := by decide
    have p200 : (2 : Nat) ^ 200 = 1606938044258990275541962092341162602522202993782792835301376 := by decide
    have wpos : 0 < ws.length := List.length_pos_iff.mpr w0
    refine ⟨by show 0 ≤ sizeLine; decide, fun c nc => ?_⟩
    have sm0 : Same H (upd H c (.lst [])) := Same.new nc
    have oc : upd H c (.lst []) c = some (.lst []) := upd_same
    have cg : c ≠ g := rs.fresh nc
    generalize upd H c (.lst []) = H0 at sm0 oc
    refine ⟨_, rfl, g, _, n, rfl, rs.same sm0, by omega, by decide, by decide, fun r0 H1 a0 a1 k1 rs1 => ⟨_, _, rfl, rfl, _, _, rfl, _, rfl, ?_, ?_, ?_⟩⟩
    · split <;> omega
    · split <;> omega
    have m2 : (if r0 - 2 > 0 then r0 - 2 else 0).toNat ≤ 2 := by split <;> omega
    generalize (if r0 - 2 > 0 then r0 - 2 else 0).toNat = m at m2
    refine for_range (n := m) (fun i σ H' => ∃ (cs : List Cd) (ys : List V) (y4 : Option V), σ = [some (.ref g), some (.ref w), some (.int far), some (.ref c), y4, none, none, none, none] ∧ Kp g H H' ∧ RS (n + 1 + 7 * i) H' g ∧
      H' c = some (.lst ys) ∧ DpAll K H' ys (cs.map cdD) ∧ cs.length = i ∧ ∀ z ∈ cs, z.1 ∈ ws ∧ RgGd z.2) ⟨[], [], none, rfl, (Kp.of sm0).trans k1, rs1.mono (by omega), k1 _ _ cg oc, .nil, rfl, by simp⟩ ?_ ?_
    · rintro i σ H2 hi ⟨cs, ys, y4, rfl, kp, rs2, oc2, dc, lc, gc⟩
      refine ⟨_, rfl, ty_lst oc2, _, rfl, _, rfl, _, rfl, w, _, rfl, .inl (Kp.lst kp wg hw), g, _, n + 1 + 7 * i, rfl, rs2, by omega, ?_, ?_, fun r H3 r0 r1 k3 rs3 => ?_⟩
      · rw [List.length_map]
        omega
      · rw [List.length_map, p200]
        omega
      rw [List.length_map] at r1
      obtain ⟨x, mx, ex⟩ := str_at r0 r1
      have kp3 := kp.trans k3
      refine ⟨w, _, r, _, rfl, rfl, Kp.lst kp3 wg hw, ex, _, rfl, _, rfl, g, far, n + 1 + 7 * i + 1, rfl, rs3, by omega, hf0, hf1, fun v rr H4 gd k4 rs4 hv => ?_⟩
      refine ⟨by show 2 ≤ sizeLine; decide, fun p np => ?_⟩
      have k34 : Kl g H2 H4 := rs2.kl (k3.trans k4)
      have oc4 : H4 c = some (.lst ys) := k34.2 _ _ cg oc2
      have sm5 : Same H4 (upd H4 p (.tup [.str x, v])) := Same.new np
      have op : upd H4 p (.tup [.str x, v]) p = some (.tup [.str x, v]) := upd_same
      have rs5 := rs4.same sm5
      have pc : p ≠ c := fun z => by rw [z, oc4] at np; cases np
      generalize upd H4 p (.tup [.str x, v]) = H5 at sm5 op rs5
      have oc5 := sm5 _ _ oc4
      have dc5 : DpAll K H5 ys (cs.map cdD) := dpa_same sm5 (dpa_kl k34 dc (noL_map cs))
      have dn : Dp K H5 (.ref p) (cdD (x, rr)) := .tup (.inl (.inl op)) (.cons (.str x) (.cons (dp_rg (RgV.same sm5 hv)) .nil))
      have ly : ys.length = cs.length := by rw [dpa_len dc, List.length_map]
      refine ⟨c, ys, _, rfl, rfl, oc5, Nat.lt_of_lt_of_le (by omega : ys.length < 100000) (by decide), ?_⟩
      have kc : Kl c H5 (upd H5 c (.lst (ys ++ [.ref p]))) := ⟨⟨_, oc5⟩, Kp.at⟩
      refine ⟨cs ++ [(x, rr)], ys ++ [.ref p], _, rfl, ?_, ?_, upd_same, dpa_snoc (dpa_kl kc dc5 (noL_map cs)) (dp_kl kc dn (noL_cd _)), by rw [List.length_append, lc]; rfl, ?_⟩
      · intro b o hb e
        rw [upd_ne (ne_of_none e nc)]
        exact sm5 _ _ (k34.2 _ _ hb (kp _ _ hb e))
      · obtain ⟨d, sd, t, e, rest⟩ := rs5.ok
        exact RS.mono (by omega) ⟨d, sd, t, (by rw [upd_ne (Ne.symm cg)]; exact e), rest⟩
      · intro z mz
        rcases List.mem_append.mp mz with mz | mz
        · exact gc z mz
        · obtain rfl : z = (x, rr) := by simpa using mz
          exact ⟨mx, gd⟩
    · rintro σ H2 ⟨cs, ys, y4, rfl, kp, rs2, oc2, dc, lc, gc⟩
      refine ⟨_, rfl, _, rfl, _, rfl, w, _, rfl, .inl (Kp.lst kp wg hw), g, _, n + 1 + 7 * m, rfl, rs2, by omega, ?_, ?_, fun r3 H3 r30 r31 k3 rs3 => ?_⟩
      · rw [List.length_map]
        omega
      · rw [List.length_map, p200]
        omega
      rw [List.length_map] at r31
      obtain ⟨x, mx, ex⟩ := str_at r30 r31
      have kp3 := kp.trans k3
      refine ⟨w, _, r3, _, rfl, rfl, Kp.lst kp3 wg hw, ex, _, rfl, _, rfl, _, rfl, w, _, rfl, .inl (Kp.lst kp3 wg hw), g, _, n + 1 + 7 * m + 1, rfl, rs3, by omega, ?_, ?_, fun r4 H4 r40 r41 k4 rs4 => ?_⟩
      · rw [List.length_map]
        omega
      · rw [List.length_map, p200]
        omega
      rw [List.length_map] at r41
      obtain ⟨y, my, ey⟩ := str_at r40 r41
      have kp4 := kp3.trans k4
      refine ⟨w, _, r4, _, rfl, rfl, Kp.lst kp4 wg hw, ey, _, _, rfl, ?_⟩
      refine ⟨_, rfl, g, _, n + 1 + 7 * m + 2, rfl, rs4, by omega, by decide, by decide, fun r5 H5 r50 r51 k5 rs5 => ⟨rfl, _, rfl, ite2 (fun _ => ?_) (fun _ => ?_)⟩⟩
      · -- a set
        refine ⟨_, rfl, _, rfl, _, rfl, g, far, n + 1 + 7 * m + 3, rfl, rs5, by omega, hf0, hf1, fun v rr H6 gd k6 rs6 hv => ?_⟩
        have k26 : Kl g H2 H6 := rs2.kl (((k3.trans k4).trans k5).trans k6)
        have oc6 : H6 c = some (.lst ys) := k26.2 _ _ cg oc2
        refine ⟨_, rfl, c, ys, rfl, .inl ⟨.inl (.inl oc6), fun l nl => ⟨by show 4 ≤ sizeLine; decide, fun p np => ?_⟩⟩⟩
        have sl : Same H6 (upd H6 l (.tup ys)) := Same.new nl
        have ol : upd H6 l (.tup ys) l = some (.tup ys) := upd_same
        generalize upd H6 l (.tup ys) = H7 at sl ol np
        have sp := Same.new (o := .tup [.str "set", .str x, v, .ref l]) np
        have sm := sl.trans sp
        refine q _ (.set x rr cs) _ ⟨?_, ?_, rfl, ?_, trivial⟩ (((kp4.trans k5).trans k6).trans (Kp.of sm)) ((rs6.same sm).mono (by omega)) ?_
        · intro z mz
          rcases List.mem_cons.mp mz with rfl | mz
          · exact mx
          · obtain ⟨cd, mcd, rfl⟩ := List.mem_map.mp mz
            exact (gc cd mcd).1
        · intro z mz
          rcases List.mem_cons.mp mz with rfl | mz
          · exact gd
          · obtain ⟨cd, mcd, rfl⟩ := List.mem_map.mp mz
            exact (gc cd mcd).2
        · show cs.length ≤ 2
          omega
        · refine .tup (.inl (.inl upd_same)) (.cons (.str _) (.cons (.str _) (.cons (dp_rg (RgV.same sm hv)) (.cons (.tup (.inl (.inl (sp _ _ ol))) ?_) .nil))))
          exact dpa_same sm (dpa_kl k26 dc (noL_map cs))
      · -- a step
        refine ⟨_, rfl, _, rfl, _, rfl, g, _, n + 1 + 7 * m + 3, rfl, rs5, by omega, by decide, by decide, fun r6 H6 r60 r61 k6 rs6 => ⟨_, _, rfl, rfl, _, _, rfl, rfl, ?_⟩⟩
        refine ⟨_, rfl, g, _, n + 1 + 7 * m + 4, rfl, rs6, by omega, by decide, by decide, fun r7 H7 r70 r71 k7 rs7 => ⟨_, _, rfl, rfl, by show 8 ≤ sizeLine; decide, fun t1 nt1 => ?_⟩⟩
        have st1 := Same.new (o := .lst [.int 1, .int 1, .int 1, .int (-1), .int 2, .int (-2), .int (1 + r6), .int (0 - 1 - r7)]) nt1
        refine ⟨_, rfl, g, _, n + 1 + 7 * m + 5, rfl, rs7.same st1, by omega, by decide, by decide, fun r8 H8 r80 r81 k8 rs8 => ?_⟩
        obtain ⟨sz, esz, sz0, szb⟩ := pick_size r60 r61 r70 r71 r80 r81
        refine ⟨t1, _, r8, _, rfl, rfl, .inl (.inl (k8 _ _ (rs7.fresh nt1) upd_same)), esz, ?_⟩
        have k58 : Kp g H5 H8 := (k6.trans k7).trans ((Kp.of st1).trans k8)
        refine ⟨_, rfl, _, rfl, g, _, n + 1 + 7 * m + 6, rfl, rs8, by omega, by decide, by decide, fun r9 H9 r90 r91 k9 rs9 => ⟨_, _, rfl, rfl, ?_⟩⟩
        refine ⟨_, rfl, g, _, n + 1 + 7 * m + 7, rfl, rs9, by omega, by decide, by decide, fun ra Ha ra0 ra1 ka rsa => ⟨_, _, rfl, rfl, _, rfl, _, rfl, _, _, rfl, rfl, by show 7 ≤ sizeLine; decide, fun t2 nt2 => ?_⟩⟩
        have st2 := Same.new (o := .lst [.int 0, .int 1, .int (-1), .int (r9 - 9), .int (ra - 99), .int far, .int (0 - far)]) nt2
        refine ⟨_, rfl, g, _, n + 1 + 7 * m + 8, rfl, rsa.same st2, by omega, by decide, by decide, fun rb Hb rb0 rb1 kb rsb => ?_⟩
        obtain ⟨pl, epl, plb⟩ := pick_plus r90 r91 ra0 ra1 hf0 hf1 rb0 rb1
        refine ⟨t2, _, rb, _, rfl, rfl, .inl (.inl (kb _ _ (rsa.fresh nt2) upd_same)), epl, ?_⟩
        have k8b : Kp g H8 Hb := (k9.trans ka).trans ((Kp.of st2).trans kb)
        refine ⟨_, rfl, _, rfl, _, rfl, _, rfl, _, rfl, _, rfl, g, far, n + 1 + 7 * m + 9, rfl, rsb, by omega, hf0, hf1, fun v rr Hc gd kc rsc hv => ?_⟩
        have k2c : Kl g H2 Hc := rs2.kl ((((k3.trans k4).trans k5).trans (k58.trans k8b)).trans kc)
        have occ : Hc c = some (.lst ys) := k2c.2 _ _ cg oc2
        refine ⟨_, rfl, c, ys, rfl, .inl ⟨.inl (.inl occ), fun l nl => ⟨by show 7 ≤ sizeLine; decide, fun p np => ?_⟩⟩⟩
        have sl : Same Hc (upd Hc l (.tup ys)) := Same.new nl
        have ol : upd Hc l (.tup ys) l = some (.tup ys) := upd_same
        generalize upd Hc l (.tup ys) = Hd at sl ol np
        have sp := Same.new (o := .tup [.str "step", .str x, .str y, .int sz, .int pl, v, .ref l]) np
        have sm := sl.trans sp
        refine q _ (.stp x y sz pl rr cs) _ ⟨?_, ?_, decide_eq_false sz0, ?_, szb, plb⟩ ((kp.trans k2c.2).trans (Kp.of sm)) ((rsc.same sm).mono (by omega)) ?_
        · intro z mz
          rcases List.mem_cons.mp mz with rfl | mz
          · exact mx
          rcases List.mem_cons.mp mz with rfl | mz
          · exact my
          · obtain ⟨cd, mcd, rfl⟩ := List.mem_map.mp mz
            exact (gc cd mcd).1
        · intro z mz
          rcases List.mem_cons.mp mz with rfl | mz
          · exact gd
          · obtain ⟨cd, mcd, rfl⟩ := List.mem_map.mp mz
            exact (gc cd mcd).2
        · show cs.length ≤ 2
          omega
        · refine .tup (.inl (.inl upd_same)) (.cons (.str _) (.cons (.str _) (.cons (.str _) (.cons (.int _) (.cons (.int _) (.cons (dp_rg (RgV.same sm hv)) (.cons (.tup (.inl (.inl (sp _ _ ol))) ?_) .nil)))))))
          exact dpa_same sm (dpa_kl k2c dc (noL_map cs))
end

end Pk36
namespace Pk36
open PySem PySem.Spec PyProof.Rows L2 Gd
section
variable {P : Program} {w : World} {K : PySem.W.Frag} {mg : Str → Option Value} {base : Heap}
set_option maxHeartbeats 8000000 in
-- _law_rows: level 5; builtins ['len', 'range']; cells []; slots: 0 rng, 1 words, 2 most, 3 far, 4 rows, 5 low, 6 turn
theorem ok__law_rows (h : At K mg "_law_rows" s__law_rows ["rng", "words", "most"]) (D__law_draw : Dn P w K mg base 1 "_law_draw" s__law_draw ["rng", "limit"] (sp__law_draw K)) (D__law_rule : Dn P w K mg base 4 "_law_rule" s__law_rule ["rng", "words", "far"] (sp__law_rule K)) (m_len : mg "len" = none) (m_range : mg "range" = none) : Dn P w K mg base 5 "_law_rows" s__law_rows ["rng", "words", "most"] (sp__law_rows K) := by
  refine .mk' h fun f fd F => F.ok sc__law_rows (fun vs H Q E h => ?_) (fun cdv A outer s H vs Q E hr h => ?_)
  · obtain ⟨g, w, m, n, ws, rfl, rs, hn, m0, m1, wg, hw, w0, wl, q⟩ := h
    rfl
  · obtain ⟨g, w, m, n, ws, rfl, rs, hn, m0, m1, wg, hw, w0, wl, q⟩ := h
    refine ⟨_, (pss_cons (ps_par (i := 3) (j := 4) rfl sc__law_rows.nd rfl rfl (by decide) rfl rfl (pa_cons (pe_ix ix_list (pe_lst (pa_cons pe_int (pa_cons (pe_op op_powW pe_int pe_int) (pa_cons (pe_op op_powW pe_int pe_int) pa_nil)))) (pe_c D__law_draw hr (by rfl) (pa_cons (pv 0) (pa_cons pe_int pa_nil))) (fun _ _ => rfl)) (pa_cons (pe_lst pa_nil) pa_nil)) (by rfl))
      (C8.pss_cut (ps_if (PW.pt (pw_and (pt_cmpR op_gt (pe_c D__law_draw hr (by rfl) (pa_cons (pv 0) (pa_cons pe_int pa_nil))) pe_int (nomark _)) (pw_and1 (pt_cmpR op_gt (pv 2) pe_int (nomark _)))))
        (pss_cons (ps_set (i := 5) sc__law_rows.nd rfl (.inl rfl) (pe_op op_sub (pe_c D__law_draw hr (by rfl) (pa_cons (pv 0) (pa_cons pe_int pa_nil))) pe_int))
        (pss_one (ps_expr (pe_bm PySem.F.plainAttrs_list PySem.F.slot_list_append PySem.F.type_list_append mt_append (pv 4) (pa_cons (pe_tup (pa_cons pe_str (pa_cons (pe_ix ix_list (pv 1) pe_int (fun _ _ => rfl)) (pa_cons (pe_tup (pa_cons (pv 5) (pa_cons (pe_op op_add (pv 5) (pe_c D__law_draw hr (by rfl) (pa_cons (pv 0) (pa_cons pe_int pa_nil)))) pa_nil))) (pa_cons (pe_tup pa_nil) pa_nil))))) pa_nil)))))
        pss_nil)
      (pss_cons (ps_for PassesOwn.never rfl (pi_range1 (by rfl) m_range (pa_cons (pe_c D__law_draw hr (by rfl) (pa_cons (pv 0) (pa_cons (pe_op op_sub (pe_op op_add (pv 2) pe_int) (pe_callB call_len_seq (by rfl) m_len PySem.boot_len (pa_cons (pv 4) pa_nil))) pa_nil))) pa_nil)) (pg_name (i := 6) sc__law_rows.nd rfl (.inl rfl))
        (pss_one (ps_expr (pe_bm PySem.F.plainAttrs_list PySem.F.slot_list_append PySem.F.type_list_append mt_append (pv 4) (pa_cons (pe_c D__law_rule hr (by rfl) (pa_cons (pv 0) (pa_cons (pv 1) (pa_cons (pv 3) pa_nil)))) pa_nil)))))
      (pss_one (ps_ret (pv 4)))))), ?_⟩
    have p200 : (2 : Nat) ^ 200 = 1606938044258990275541962092341162602522202993782792835301376 := by decide
    have wpos : 0 < ws.length := List.length_pos_iff.mpr w0
    refine ⟨_, _, rfl, rfl, ten9, _, _, rfl, rfl, ten31, by show 3 ≤ sizeLine; decide, fun t nt => ?_⟩
    have st := Same.new (o := .lst [.int 99, .int ((10 : Int) ^ (9 : Int).toNat), .int ((10 : Int) ^ (31 : Int).toNat)]) nt
    refine ⟨_, rfl, g, _, n, rfl, rs.same st, by omega, by decide, by decide, fun r0 H1 a0 a1 k1 rs1 => ?_⟩
    obtain ⟨far, ef, hf0, hf1⟩ := pick_far a0 a1
    have k01 : Kp g H H1 := (Kp.of st).trans k1
    refine ⟨t, _, r0, _, rfl, rfl, .inl (.inl (k1 _ _ (rs.fresh nt) upd_same)), ef, by show 0 ≤ sizeLine; decide, fun L nL => ⟨_, _, rfl, ?_⟩⟩
    have Lg : L ≠ g := rs1.fresh nL
    have nL0 : H L = none := Kp.none_of k01 rs1 nL
    have sL : Same H1 (upd H1 L (.lst [])) := Same.new nL
    have oL : upd H1 L (.lst []) L = some (.lst []) := upd_same
    generalize upd H1 L (.lst []) = H2 at sL oL
    have rs2 := rs1.same sL
    have k02 : Kp g H H2 := k01.trans (Kp.of sL)
    refine ⟨fun σ H' => ∃ (rr : List Rl) (xs : List V) (y5 : Option V), σ = [some (.ref g), some (.ref w), some (.int m), some (.int far), some (.ref L), y5, none] ∧ Kp g H H' ∧ RS (n + 4) H' g ∧ H' L = some (.lst xs) ∧ DpAll K H' xs (rr.map Rl.d) ∧
      RowsGd ws rr ∧ rr.length ≤ 1 ∧ (rr.length : Int) ≤ m, ?_, ?_⟩
    · refine ⟨_, rfl, g, _, n + 1, rfl, rs2.mono (by omega), by omega, by decide, by decide, fun r1 H3 b0 b1 k3 rs3 => ⟨_, _, rfl, rfl, _, rfl, ite2 (fun _ => ?_) (fun _ => ?_)⟩⟩
      · refine ⟨_, rfl, _, _, rfl, rfl, _, rfl, ite2 (fun mp => ?_) (fun _ => ?_)⟩
        · have mp' : m > 0 := of_decide_eq_true mp
          refine ⟨_, rfl, g, _, n + 2, rfl, rs3, by omega, by decide, by decide, fun r2 H4 c0 c1 k4 rs4 => ⟨_, _, rfl, rfl, ?_⟩⟩
          obtain ⟨x, mx, ex⟩ := str_at (ws := ws) (d := 0) (by omega) (by omega)
          have kp4 := (k02.trans k3).trans k4
          have oL4 := (k3.trans k4) _ _ Lg oL
          refine ⟨_, rfl, ty_lst oL4, _, rfl, w, _, 0, _, rfl, rfl, Kp.lst kp4 wg hw, ex, _, rfl, _, rfl, _, rfl, g, _, n + 3, rfl, rs4, by omega, by decide, by decide, fun r3 H5 d0 d1 k5 rs5 => ?_⟩
          refine ⟨_, _, rfl, rfl, by show 2 ≤ sizeLine; decide, fun p1 np1 => ⟨by show 0 ≤ sizeLine; decide, fun p2 np2 => ⟨by show 4 ≤ sizeLine; decide, fun p3 np3 => ?_⟩⟩⟩
          have s1 := Same.new (o := .tup [.int (r2 - 4), .int (r2 - 4 + r3)]) np1
          have o1 : upd H5 p1 (.tup [.int (r2 - 4), .int (r2 - 4 + r3)]) p1 = some (.tup [.int (r2 - 4), .int (r2 - 4 + r3)]) := upd_same
          generalize upd H5 p1 (.tup [.int (r2 - 4), .int (r2 - 4 + r3)]) = H6 at s1 o1 np2 np3
          have s2 := Same.new (o := .tup []) np2
          have o2 : upd H6 p2 (.tup []) p2 = some (.tup []) := upd_same
          generalize upd H6 p2 (.tup []) = H7 at s2 o2 np3
          have s3 := Same.new (o := .tup [.str "set", .str x, .ref p1, .ref p2]) np3
          have o3 : upd H7 p3 (.tup [.str "set", .str x, .ref p1, .ref p2]) p3 = some (.tup [.str "set", .str x, .ref p1, .ref p2]) := upd_same
          generalize upd H7 p3 (.tup [.str "set", .str x, .ref p1, .ref p2]) = H8 at s3 o3
          have sm := (s1.trans s2).trans s3
          have oL8 := sm _ _ (k5 _ _ Lg oL4)
          refine ⟨L, [], _, rfl, rfl, oL8, by decide, ?_⟩
          have kL : Kl L H8 (upd H8 L (.lst ([] ++ [.ref p3]))) := ⟨⟨_, oL8⟩, Kp.at⟩
          have rs8 := rs5.same sm
          have dr : Dp K H8 (.ref p3) (Rl.d (.set x (some (some (r2 - 4), some (r2 - 4 + r3))) [])) :=
            .tup (.inl (.inl o3)) (.cons (.str _) (.cons (.str _) (.cons (.tup (.inl (.inl (s3 _ _ (s2 _ _ o1)))) (.cons (.int _) (.cons (.int _) .nil))) (.cons (.tup (.inl (.inl (s3 _ _ o2))) .nil) .nil))))
          refine ⟨[.set x (some (some (r2 - 4), some (r2 - 4 + r3))) []], _, _, rfl, ?_, ?_, upd_same, .cons (dp_kl kL dr (noL_rl _)) .nil, ?_, by simp, by show ((1 : Nat) : Int) ≤ m; omega⟩
          · intro b o hb e
            rw [upd_ne (ne_of_none e nL0)]
            exact sm _ _ (k5 _ _ hb (kp4 _ _ hb e))
          · obtain ⟨d, sd, tt, e, rest⟩ := rs8.ok
            exact ⟨d, sd, tt, (by rw [upd_ne (Ne.symm Lg)]; exact e), rest⟩
          · intro r mr
            obtain rfl : r = _ := by simpa using mr
            refine ⟨?_, ?_, rfl, by show 0 ≤ 2; omega, trivial⟩
            · intro z mz
              obtain rfl : z = x := by simpa [Rl.names] using mz
              exact mx
            · intro z mz
              obtain rfl : z = some (some (r2 - 4), some (r2 - 4 + r3)) := by simpa [Rl.rgs] using mz
              refine ⟨?_, ?_, ?_⟩
              · show (false || decide (r2 - 4 > r2 - 4 + r3)) = false
                rw [Bool.false_or]
                exact decide_eq_false (by omega)
              · have big : (10 : Int) ^ 31 = 10000000000000000000000000000000 := by decide
                unfold BdOk
                rw [big]
                omega
              · have big : (10 : Int) ^ 31 = 10000000000000000000000000000000 := by decide
                unfold BdOk
                rw [big]
                omega
        · exact ⟨[], [], none, rfl, k02.trans k3, rs3.mono (by omega), k3 _ _ Lg oL, .nil, (fun _ z => absurd z (by simp)), by simp, m0⟩
      · exact iteF ⟨[], [], none, rfl, k02.trans k3, rs3.mono (by omega), k3 _ _ Lg oL, .nil, (fun _ z => absurd z (by simp)), by simp, m0⟩
    rintro σ H3 ⟨rr, xs, y5, rfl, kp, rs3, oL3, dx, gd, l1, lm⟩
    have lx : xs.length = rr.length := by rw [dpa_len dx, List.length_map]
    refine ⟨_, rfl, _, rfl, _, _, rfl, rfl, _, rfl, L, _, rfl, .inl (.inl (.inl oL3)), _, _, rfl, rfl, g, _, n + 4, rfl, rs3, by omega, by omega, by rw [p200]; omega, fun r4 H4 d0 d1 k4 rs4 => ⟨_, rfl, by omega, by omega, ?_⟩⟩
    have k3l : Kl g H3 H4 := rs3.kl k4
    refine for_range (n := r4.toNat) (fun i σ H' => ∃ (rr2 : List Rl) (xs2 : List V) (y6 : Option V), σ = [some (.ref g), some (.ref w), some (.int m), some (.int far), some (.ref L), y5, y6] ∧ Kp g H H' ∧ RS (n + 5 + 50 * i) H' g ∧ H' L = some (.lst xs2) ∧
      DpAll K H' xs2 (rr2.map Rl.d) ∧ RowsGd ws rr2 ∧ rr2.length = rr.length + i) ⟨rr, xs, none, rfl, kp.trans k4, rs4, k4 _ _ Lg oL3, dpa_kl k3l dx (noL_rls rr), gd, rfl⟩ ?_ ?_
    · rintro i σ H5 hi ⟨rr2, xs2, y6, rfl, kp5, rs5, oL5, dx5, gd5, l5⟩
      have hi20 : i < 21 := by omega
      refine ⟨_, rfl, ty_lst oL5, _, rfl, _, rfl, _, rfl, g, w, far, n + 5 + 50 * i, ws, rfl, rs5, by omega, hf0, hf1, wg, Kp.lst kp5 wg hw, w0, wl, fun v r H6 gr k6 rs6 dv => ?_⟩
      have oL6 := k6 _ _ Lg oL5
      have lx2 : xs2.length = rr2.length := by rw [dpa_len dx5, List.length_map]
      refine ⟨L, xs2, _, rfl, rfl, oL6, Nat.lt_of_lt_of_le (by omega : xs2.length < 100000) (by decide), ?_⟩
      have kL : Kl L H6 (upd H6 L (.lst (xs2 ++ [v]))) := ⟨⟨_, oL6⟩, Kp.at⟩
      refine ⟨rr2 ++ [r], _, _, rfl, ?_, ?_, upd_same, ?_, ?_, by rw [List.length_append, l5]; rfl⟩
      · intro b o hb e
        rw [upd_ne (ne_of_none e nL0)]
        exact k6 _ _ hb (kp5 _ _ hb e)
      · obtain ⟨d, sd, tt, e, rest⟩ := rs6.ok
        exact RS.mono (by omega) ⟨d, sd, tt, (by rw [upd_ne (Ne.symm Lg)]; exact e), rest⟩
      · rw [List.map_append]
        exact dpa_app (dpa_kl kL (dpa_kl (rs5.kl k6) dx5 (noL_rls rr2)) (noL_rls rr2)) (dpa_one (dp_kl kL dv (noL_rl r)))
      · intro z mz
        rcases List.mem_append.mp mz with mz | mz
        · exact gd5 z mz
        · obtain rfl : z = r := by simpa using mz
          exact gr
    · rintro σ H5 ⟨rr2, xs2, y6, rfl, kp5, rs5, oL5, dx5, gd5, l5⟩
      exact ⟨_, rfl, q L H5 xs2 rr2 gd5 (by omega) kp5 (rs5.mono (by omega)) nL0 oL5 dx5⟩
end

end Pk36
namespace Pk36
open PySem PySem.Spec PyProof.Rows L2 Gd
section
variable {P : Program} {w : World} {K : PySem.W.Frag} {mg : Str → Option Value} {base : Heap}
set_option maxHeartbeats 8000000 in
-- has_value: level 5; builtins []; cells []; slots: 0 one, 1 value
theorem ok_has_value (h : At K mg "has_value" s_has_value ["one", "value"]) (D_lies_within : Dn P w K mg base 4 "lies_within" s_lies_within ["one", "other"] (sp_lies_within K)) : Dn P w K mg base 5 "has_value" s_has_value ["one", "value"] (sp_has_value K) := by
  refine .mk' h fun f fd F => F.ok sc_has_value (fun vs H Q E h => ?_) (fun cdv A outer s H vs Q E hr h => ?_)
  · obtain ⟨v, r, o, rfl, hv, ho, q⟩ := h
    rfl
  · obtain ⟨v, r, o, rfl, hv, ho, q⟩ := h
    refine ⟨_, (pss_one (ps_ret (pe_and (pe_cmpR op_notN (pv 1) pe_non (nomark _)) (pe_one (pe_c D_lies_within hr (by rfl) (pa_cons (pe_tup (pa_cons (pv 1) (pa_cons (pv 1) pa_nil))) (pa_cons (pv 0) pa_nil))))))), ?_⟩
    match o, q with
    | none, q => exact ⟨_, rfl, rfl, _, rfl, iteF (q _ (Same.refl _))⟩
    | some i, q =>
      refine ⟨_, rfl, rfl, _, rfl, iteT ⟨_, rfl, _, rfl, by show 2 ≤ sizeLine; decide, fun p np => ?_⟩⟩
      exact ⟨_, rfl, .ref p, v, some (some i, some i), r, rfl, ⟨p, rfl, .inl (.inl upd_same)⟩, hv.same (Same.new np), Int.le_refl i, ho, fun H' k => q _ ((Same.new np).trans k)⟩
end

end Pk36
namespace Pk36
open PySem PySem.Spec PyProof.Rows L2 Gd
section
variable {P : Program} {w : World} {K : PySem.W.Frag} {mg : Str → Option Value} {base : Heap}
set_option maxHeartbeats 8000000 in
-- _is_possible: level 6; builtins ['all']; cells ['values']; slots: 0 rule, 1 values, 2 value, 3 name, 4 one
theorem ok__is_possible (h : At K mg "_is_possible" s__is_possible ["rule", "values", "value"]) (D_has_value : Dn P w K mg base 5 "has_value" s_has_value ["one", "value"] (sp_has_value K)) (m_all : mg "all" = none) : Dn P w K mg base 6 "_is_possible" s__is_possible ["rule", "values", "value"] (sp__is_possible K) := by
  refine .mk' h fun f fd F => F.ok sc__is_possible (fun vs H Q E h => ?_) (fun cdv A outer s H vs Q E hr h => ?_)
  · obtain ⟨v, r, a, ns, g, o, rfl, hv, hd, nm, ft, lc, q⟩ := h
    rfl
  · obtain ⟨v, r, a, ns, g, o, rfl, hv, hd, nm, ft, lc, q⟩ := h
    refine ⟨_, (pss_cons (ps_if (pt_not (pt_val (pe_callB (cr_all rfl) (by rfl) m_all (by decide +kernel) (pa_cons (pe_lc (own := [("name", 3), ("one", 4)]) (g := (gTup K 2 (gCons (gName 3) (gCons (gName 4) gNil)))) rfl sc__is_possible.nd (pi_tup (pe_ix ix_tup (pv 0) (pe_un un_neg pe_int) (fun _ _ => rfl))) (blkOk_by (N := ["rule", "values", "value", "name", "one"]) (sc := defScope s__is_possible) (by decide +kernel)) (fun _ _ _ _ _ => (pg_tup (by rfl) (pgs_cons (pg_name (i := 3) sc__is_possible.nd rfl (.inl rfl)) (pgs_cons (pg_name (i := 4) sc__is_possible.nd rfl (.inl rfl)) pgs_nil)))) (fun _ _ _ _ _ => pts_nil) (fun _ _ _ _ _ => (pe_c D_has_value hr (by rfl) (pa_cons (pv 4) (pa_cons (pe_dget (hu_of hr) (pv 1) (pv 3) (fun _ _ => rfl)) pa_nil))))) pa_nil))))
        (pss_one (ps_ret pe_bl))
        pss_nil)
      (pss_cons (ps_if (pt_cmpR op_eq (pe_ix ix_tup (pv 0) pe_int (fun _ _ => rfl)) pe_str (nomark _))
        (pss_one (ps_ret (pe_c D_has_value hr (by rfl) (pa_cons (pe_ix ix_tup (pv 0) pe_int (fun _ _ => rfl)) (pa_cons (pv 2) pa_nil)))))
        pss_nil)
      (pss_one (ps_ret (pe_and (pe_cmpR op_isN (pv 2) pe_non (nomark _)) (pe_one (pe_c D_has_value hr (by rfl) (pa_cons (pe_ix ix_tup (pv 0) pe_int (fun _ _ => rfl)) (pa_cons (pe_dget (hu_of hr) (pv 1) (pe_ix ix_tup (pv 0) pe_int (fun _ _ => rfl)) (fun _ _ => rfl)) pa_nil))))))))), ?_⟩
    obtain ⟨p, xs, vr, c, ys, rr, rfl, s, e2, e1, hr2, s2, a2, er⟩ := rl_last hv
    have ly : ys.length = r.cs.length := by rw [dpa_len a2, List.length_map]
    have cdn : ∀ c ∈ r.cs, c.1 ∈ ns ∧ RgFit c.2 := by
      match r, nm, ft with
      | .set x rr cs, nm, ft => exact fun c m => ⟨nm _ (List.mem_cons_of_mem _ (List.mem_map.mpr ⟨c, m, rfl⟩)), ft _ (List.mem_cons_of_mem _ (List.mem_map.mpr ⟨c, m, rfl⟩))⟩
      | .stp x y f a rr cs, nm, ft => exact fun c m => ⟨nm _ (List.mem_cons_of_mem _ (List.mem_cons_of_mem _ (List.mem_map.mpr ⟨c, m, rfl⟩))), ft _ (List.mem_cons_of_mem _ (List.mem_map.mpr ⟨c, m, rfl⟩))⟩
    refine ⟨_, rfl, _, rfl, p, _, -1, .ref c, rfl, rfl, s, e1, c, rfl, ⟨_, s2⟩, fun D nD => ?_⟩
    refine lc_tup (K := K) (a := c) (xs := ys) (fun i G => Same H G ∧ G D = some (.lst (((r.cs.take i).map fun c => hasV c.2 (g c.1)).map V.bl))) ⟨Same.new nD, upd_same⟩ (fun i G _ h => SqT.same h.1 s2) ?_ ?_
    · rintro i z G ez ⟨sm, oD⟩
      obtain ⟨cd, ec, dz⟩ := dpa_map_get (dpa_same sm a2) ez
      obtain ⟨pc, vr2, rfl, sc, hr3⟩ := cd_inv dz
      obtain ⟨mn, fn⟩ := cdn cd (List.mem_of_getElem? ec)
      refine ⟨pc, _, rfl, sc, rfl, _, _, rfl, _, _, rfl, rfl, rfl, ?_⟩
      refine ⟨_, rfl, _, rfl, _, rfl, a, ov (g cd.1), rfl, (hd.same sm).get mn, vr2, cd.2, g cd.1, rfl, hr3, fn, fun G' k => ?_⟩
      refine ⟨_, k _ _ oD, ?_, fun b o e => ?_, ?_⟩
      · rw [List.length_map, List.length_map, List.length_take]
        exact Nat.lt_of_le_of_lt (Nat.le_trans (Nat.min_le_right _ _) lc) (by decide : 1000 < sizeLine)
      · rw [upd_ne (ne_of_none e nD)]
        exact k _ _ (sm _ _ e)
      · rw [upd_same, take_succ1 ec, List.map_append, List.map_append]
        rfl
    · rintro G ⟨sm, oD⟩
      rw [ly, List.take_length] at oD
      refine ⟨D, _, rfl, .inl (.inl oD), ?_⟩
      have al : (List.map (fun c : Cd => hasV c.2 (g c.1)) r.cs).all id = r.cs.all fun c => hasV c.2 (g c.1) := by rw [List.all_map]; rfl
      rw [al]
      match r, hv, er, q, nm, ft with
      | .set x rg cs, hv, er, q, nm, ft =>
        obtain ⟨p', vr', q', ys', e_, s', hrg, _, _⟩ := set_inv hv
        cases e_
        have q' : ∀ H', Same H H' → Q (.bl ((cs.all fun c => hasV c.2 (g c.1)) && hasV rg o)) H' := q
        cases hc : cs.all fun c => hasV c.2 (g c.1) with
        | false =>
          rw [hc] at q'
          exact ⟨false, by rw [← hc]; rfl, iteT (q' _ sm)⟩
        | true =>
          rw [hc, Bool.true_and] at q'
          refine ⟨true, by rw [← hc]; rfl, iteF ?_⟩
          refine ⟨_, rfl, p, _, 0, _, rfl, rfl, SqT.same sm s', atI_nat (j := 0) rfl, rfl, true, sEqT, iteT ?_⟩
          exact ⟨_, rfl, p, _, 2, _, rfl, rfl, SqT.same sm s', atI_nat (j := 2) rfl, _, rfl, vr', rg, o, rfl, hrg.same sm, ft _ List.mem_cons_self, fun G' k => q' _ (sm.trans k)⟩
      | .stp x y fa ad rg cs, hv, er, q, nm, ft =>
        obtain ⟨p', vr', q', ys', e_, s', hrg, _, _⟩ := stp_inv hv
        cases e_
        have q' : ∀ H', Same H H' → Q (.bl ((cs.all fun c => hasV c.2 (g c.1)) && (o.isNone && hasV rg (g y)))) H' := q
        cases hc : cs.all fun c => hasV c.2 (g c.1) with
        | false =>
          rw [hc] at q'
          exact ⟨false, by rw [← hc]; rfl, iteT (q' _ sm)⟩
        | true =>
          rw [hc, Bool.true_and] at q'
          refine ⟨true, by rw [← hc]; rfl, iteF ?_⟩
          have my : y ∈ ns := nm y (List.mem_cons_of_mem _ List.mem_cons_self)
          refine ⟨_, rfl, p, _, 0, _, rfl, rfl, SqT.same sm s', atI_nat (j := 0) rfl, rfl, false, (by decide +kernel), iteF ?_⟩
          match o, q' with
          | some i, q' => exact ⟨_, rfl, rfl, _, rfl, iteF (q' _ sm)⟩
          | none, q' =>
            refine ⟨_, rfl, rfl, _, rfl, iteT ?_⟩
            refine ⟨_, rfl, p, _, 5, _, rfl, rfl, SqT.same sm s', atI_nat (j := 5) rfl, _, rfl, _, rfl, p, _, 2, _, rfl, rfl, SqT.same sm s', atI_nat (j := 2) rfl, a, ov (g y), rfl, (hd.same sm).get my, ?_⟩
            exact ⟨vr', rg, g y, rfl, hrg.same sm, ft _ List.mem_cons_self, fun G' k => q' _ (sm.trans k)⟩
end

end Pk36
namespace Pk36
open PySem PySem.Spec PyProof.Rows L2 Gd
section
variable {P : Program} {w : World} {K : PySem.W.Frag} {mg : Str → Option Value} {base : Heap}
set_option maxHeartbeats 8000000 in
-- values_behind: level 7; builtins ['enumerate', 'len']; cells []; slots: 0 system, 1 moves, 2 rules, 3 values, 4 number, 5 rule_number, 6 value, 7 rule, 8 name
theorem ok_values_behind {C : Addr} (T : SysT K mg C) {c0 c1 c2 c3 c4 c5 c6 c7 c8 c9 fI : Addr} (X : ErrT K mg [c0, c1, c2, c3, c4, c5, c6, c7, c8, c9] ["RangeError", "InvalidRange", "InvalidName", "InvalidSystem", "InvalidRule", "UnknownName", "InvalidNumber", "InvalidMove", "NothingToUndo", "Unreadable"] fI) (h : At K mg "values_behind" s_values_behind ["system", "moves"]) (D_RangeError___init__ : DnI P w K mg base 1 fI "RangeError.__init__" s_RangeError___init__ ["self", "value"] (spIni K)) (kI_value : ∀ fd, Fun K "__init__" "RangeError.__init__" s_RangeError___init__ fI fd → ∀ (s : Shared) (a u : Value), BindsTo s fd ⟨[a], [("value", u)]⟩ ((["self", "value"] : List Str).zip [a, u])) (D_System_names : Pt P w K mg base 1 C "names" "System.names" s_System_names ["self"] (sp_System_names K C)) (D_System_rules : Pt P w K mg base 1 C "rules" "System.rules" s_System_rules ["self"] (sp_System_rules K C)) (D__is_possible : Dn P w K mg base 6 "_is_possible" s__is_possible ["rule", "values", "value"] (sp__is_possible K)) (m_enumerate : mg "enumerate" = none) (m_len : mg "len" = none) : DnN P w K mg base 7 "values_behind" s_values_behind ["system", "moves"] (sp_values_behind K C [c0, c1, c2, c3, c4, c5, c6, c7, c8, c9]) := by
  refine .mk' h fun f fd F => okN F sc_values_behind (fun vs H Q E h => ?_) (fun cdv A outer s H vs Q E hr h => ?_)
  · obtain ⟨a, p, b, m, ns, rs, zs, ms, rfl, sy, ok, nd, hm, dm, lm, sz, q, qE⟩ := h
    rfl
  · obtain ⟨a, p, b, m, ns, rs, zs, ms, rfl, sy, ok, nd, hm, dm, lm, sz, q, qE⟩ := h
    refine ⟨_, (pss_cons (ps_set (i := 2) sc_values_behind.nd rfl (.inl rfl) (pe_p T.ck D_System_rules hr (pv 0)))
      (pss_cons (ps_setDc (i := 3) (own := [("name", 8)]) (g := gName 8) rfl sc_values_behind.nd rfl rfl (sw_trueD rfl rfl rfl (by decide +kernel)) (pi_list (pe_p T.ck D_System_names hr (pv 0))) (blkOk_by (N := ["system", "moves", "rules", "values", "number", "rule_number", "value", "rule", "name"]) (sc := defScope s_values_behind) (by decide +kernel)) (fun _ _ _ _ _ => pg_name (i := 8) sc_values_behind.nd rfl (Or.inl rfl)) (fun _ _ _ _ _ => pts_nil) (fun _ _ _ _ _ => (pv 8)) (fun _ _ _ _ _ => pe_non))
      (pss_cons (ps_for PassesOwn.leaving rfl (pi_enum (by rfl) m_enumerate (pa_cons (pv 1) pa_nil)) (pg_tup (by rfl) (pgs_cons (pg_name (i := 4) sc_values_behind.nd rfl (.inl rfl)) (pgs_cons (pg_tup (by rfl) (pgs_cons (pg_name (i := 5) sc_values_behind.nd rfl (.inl rfl)) (pgs_cons (pg_name (i := 6) sc_values_behind.nd rfl (.inl rfl)) pgs_nil))) pgs_nil)))
        (pss_cons (ps_if (PW.pt (pw_or (pt_not (pt_chain op_le op_lt pe_int (pv 5) (pe_callB call_len_seq (by rfl) m_len PySem.boot_len (pa_cons (pv 2) pa_nil)))) (pw_or1 (pt_not (pt_val (pe_c D__is_possible hr (by rfl) (pa_cons (pe_ix ix_list (pv 2) (pv 5) (fun _ _ => rfl)) (pa_cons (pv 3) (pa_cons (pv 6) pa_nil)))))))))
          (pss_one (ps_raiseN rfl (X.t 7 _ _ rfl rfl) D_RangeError___init__ hr (L2N.takes_of rfl rfl rfl rfl) (by rfl) (pa_cons (pv 4) pa_nil)))
          pss_nil)
        (pss_cons (ps_set (i := 7) sc_values_behind.nd rfl (.inl rfl) (pe_ix ix_list (pv 2) (pv 5) (fun _ _ => rfl)))
        (pss_one (ps_dput (hu_of hr) (pv 3) (pe_ix ix_tup (pv 7) pe_int (fun _ _ => rfl)) (pe_ifExp (pt_cmpR op_eq (pe_ix ix_tup (pv 7) pe_int (fun _ _ => rfl)) pe_str (nomark _)) (pv 6) (pe_op op_add (pe_op op_mulW (pe_ix ix_tup (pv 7) pe_int (fun _ _ => rfl)) (pe_dget (hu_of hr) (pv 3) (pe_ix ix_tup (pv 7) pe_int (fun _ _ => rfl)) (fun _ _ => rfl))) (pe_ix ix_tup (pv 7) pe_int (fun _ _ => rfl)))) rfl)))))
      (pss_one (ps_ret (pv 3)))))), ?_⟩
    have T7 := X.t 7 _ _ rfl rfl
    obtain ⟨dx, fs, ea⟩ := sy.ins
    refine ⟨_, rfl, a, dx, fs, rfl, ea, a, p, b, ns, rs, rfl, sy, fun R xs nR dR => ?_⟩
    have sR := Same.new (o := .lst xs) nR
    have oR : upd H R (.lst xs) R = some (.lst xs) := upd_same
    generalize upd H R (HO.lst xs) = H1 at sR oR
    have dR := dpa_same sR dR
    refine ⟨_, rfl, a, dx, fs, rfl, sR _ _ ea, a, p, b, ns, rs, rfl, sy.same sR, fun N nN => ?_⟩
    have sN := Same.new (o := .lst (ns.map V.str)) nN
    have oN : upd H1 N (.lst (ns.map V.str)) N = some (.lst (ns.map V.str)) := upd_same
    generalize upd H1 N (HO.lst (ns.map V.str)) = H2 at sN oN
    have s02 := sR.trans sN
    have oR := sN _ _ oR
    have dR := dpa_same sN dR
    refine ⟨N, rfl, ⟨_, .inl (.inl oN)⟩, fun D nD => ?_⟩
    have lx : xs.length = rs.length := by rw [dpa_len dR, List.length_map]
    have lz : zs.length = ms.length := by rw [dpa_len dm, List.length_map]
    refine dc_list (K := K) (a := N) (xs := ns.map V.str) (fun i G => Same H2 G ∧ DF G D (ns.take i) (ovF noV)) ⟨Same.new nD, upd_same⟩ (fun i G _ h => .inl (.inl (h.1 _ _ oN))) ?_ ?_
    · rintro i z G ez ⟨sm, oD⟩
      obtain ⟨x, ex, rfl⟩ := map_get ez
      have li : i < ns.length := (List.getElem?_eq_some_iff.mp ex).1
      have nin : x ∉ ns.take i := nodup_take nd ex
      refine ⟨rfl, _, rfl, _, .inr x, rfl, oD, ?_, fun b o e => ?_, ?_⟩
      · rw [fK_len, List.length_take]
        exact Nat.lt_of_le_of_lt (Nat.le_trans (Nat.min_le_right _ _) ok.ln) (by decide : 1000 < sizeLine)
      · rw [upd_ne (ne_of_none e nD)]
        exact sm _ _ e
      · show upd G D _ D = _
        rw [upd_same, fK_new nin, take_succ1 ex, fK_snoc]
        rfl
    rintro G ⟨sm, oD⟩
    rw [List.length_map, List.take_length] at oD
    have nD0 : H D = none := s02.free nD
    have hm0 := hm
    have dm := dpa_same s02 dm
    clear sR nR nN sy
    refine ⟨_, rfl, m, zs, rfl, (s02.trans sm).seq hm0, for_it walk_enum (fun i σ G => Same H2 G ∧ ∃ g y4 y5 y6 y7, σ = [some (.ref a), some (.ref m), some (.ref R), some (.ref D), y4, y5, y6, y7, none] ∧ DF G D ns (ovF g) ∧ SzF (110 * (i + 1)) g ∧ playV rs g (ms.drop i) = playV rs noV ms ∧ badV rs g i (ms.drop i) = badV rs noV 0 ms) ⟨sm, noV, none, none, none, none, rfl, oD, SzF.no, rfl, rfl⟩ (fun i σ G _ h => (s02.trans h.1).seq hm0) ?_ ?_⟩
    · rintro i z σ G G' hi ⟨k, g, y4, y5, y6, y7, rfl, oD, szg, plg, bdg⟩ ⟨T, u, w, rfl, nT, rfl, eu, ew⟩
      obtain rfl := Option.some.inj eu
      obtain ⟨mv, em, dw⟩ := dpa_map_get (dpa_same k dm) ew
      obtain ⟨pm, rfl, spm⟩ := mv_inv dw
      have sT := Same.new (o := .tup [.int (i : Nat), .ref pm]) nT
      have oT : upd G T (.tup [.int (i : Nat), .ref pm]) T = some (.tup [.int (i : Nat), .ref pm]) := upd_same
      generalize upd G T (HO.tup ([.int (i : Nat), .ref pm] : List V)) = G1 at sT oT ⊢
      have k1 := k.trans sT
      have oD1 := sT _ _ oD
      have li : i < ms.length := (List.getElem?_eq_some_iff.mp em).1
      have md : ms.drop i = mv :: ms.drop (i + 1) := by
        rw [List.drop_eq_getElem_cons li, (List.getElem?_eq_some_iff.mp em).2]
      rw [md] at plg bdg
      have raise : nextV rs g mv = none → ∀ H3, Same H H3 → ∀ a, H3 a = none → spIni K (.ref a :: ([.int (i : Nat)] ++ [])) (upd H3 a (exo a c7 none))
          (fun u H2 => u = .non ∧ ∃ (d : Addr) (fs : List (Str × V)), H2 a = some (exo a c7 (some d)) ∧ H2 d = some (exd d fs) ∧ H3 d = none ∧ E (.ref c7) (some d) (upd (del H2 a) d (.xd fs))) (fun _ _ _ => False) := fun e H3 k3 => by
        have z : badV rs g i (mv :: ms.drop (i + 1)) = some i := by
          show (if (nextV rs g mv).isSome = true then _ else some i) = some i
          rw [e]
          rfl
        obtain ⟨c, ec, e'⟩ := qE i (bdg.symm.trans z)
        obtain rfl := Option.some.inj ec
        exact mk_raise T7.ox T7.nV fun d' H4 k4 nd' hd' => e' d' H4 (k3.trans k4) (same_none k3 nd') hd'
      have oR1 := k1 _ _ oR
      have k01 := s02.trans k1
      refine ⟨T, _, rfl, .inl (.inl oT), rfl, _, _, rfl, _, _, rfl, pm, _, rfl, SqT.same sT spm, rfl, _, _, rfl, _, _, rfl, rfl, rfl, ?_⟩
      refine ⟨_, rfl, _, _, rfl, rfl, decide (0 ≤ mv.1), rfl, ?_⟩
      by_cases c0 : 0 ≤ mv.1
      case neg =>
        rw [decide_eq_false c0]
        exact iteF ⟨_, rfl, iteT ⟨_, rfl, by show 1 ≤ 1000; decide, raise (next_out (fun z => c0 z.1)) _ k01⟩⟩
      rw [decide_eq_true c0]
      refine iteT ⟨_, rfl, R, _, rfl, .inl (.inl (.inl oR1)), _, _, rfl, rfl, decide (mv.1 < (xs.length : Int)), rfl, ?_⟩
      by_cases c1 : mv.1 < (xs.length : Int)
      case neg =>
        rw [decide_eq_false c1]
        exact iteT ⟨_, rfl, by show 1 ≤ 1000; decide, raise (next_out (fun z => c1 (by rw [lx]; exact z.2))) _ k01⟩
      rw [decide_eq_true c1]
      refine iteF ?_
      have hin : 0 ≤ mv.1 ∧ mv.1 < (rs.length : Int) := ⟨c0, by rw [← lx]; exact c1⟩
      obtain ⟨kk, r, ek, er⟩ := rn_at hin
      have eq1 := next_at (f := g) ek er
      have lk : kk < xs.length := by
        have := (List.getElem?_eq_some_iff.mp er).1
        omega
      have exk : xs[kk]? = some xs[kk] := List.getElem?_eq_getElem lk
      have mr := List.mem_of_getElem? er
      refine ⟨_, rfl, _, rfl, R, _, (kk : Int), _, rfl, congrArg V.int ek, .inl (.inl oR1), atI_nat exk, ?_⟩
      obtain ⟨r', er', dr⟩ := dpa_map_get (dpa_same k1 dR) exk
      obtain rfl : r' = r := Option.some.inj (er'.symm.trans er)
      refine ⟨_, rfl, _, rfl, _, r', D, ns, g, mv.2, rfl, dr, oD1, ok.nm r' mr, ok.fit r' mr, ok.cs r' mr, fun G2 k2 => ?_⟩
      cases ps : possR g mv.2 r' with
      | false =>
        rw [ps, if_neg (by decide)] at eq1
        exact ⟨false, rfl, iteT ⟨_, rfl, by show 1 ≤ 1000; decide, raise eq1 _ (k01.trans k2)⟩⟩
      | true =>
      rw [if_pos ps] at eq1
      have some1 : (nextV rs g mv).isSome = true := by
        obtain ⟨z, ez⟩ := poss_some ps
        rw [eq1, ez]
        rfl
      rw [play_cons some1] at plg
      have bdg : badV rs (goV rs g mv) (i + 1) (ms.drop (i + 1)) = badV rs noV 0 ms := by
        rw [← bdg]
        show _ = (if (nextV rs g mv).isSome = true then _ else _)
        rw [if_pos some1]
      refine ⟨true, rfl, iteF ?_⟩
      have k12 := k1.trans k2
      have oR2 := k12 _ _ oR
      have oD2 := k2 _ _ oD1
      have dr2 := dp_same k2 dr
      refine ⟨_, rfl, _, rfl, R, _, (kk : Int), _, rfl, congrArg V.int ek, .inl (.inl oR2), atI_nat exk, ?_⟩
      have go1 := go_at (f := g) ek er
      have sz2 := go_sz ok.nb (by omega : 110 ≤ 110 * (i + 1)) szg (sz mv (List.mem_of_getElem? em))
      have lst : ∀ (x : Str) (nv : Option Int), xOf r' = x → nextV rs g mv = nv → x ∈ ns → ∃ H4, DPut G2 D (.str x) (ov nv) H4 ∧ Same H2 H4 ∧ DF H4 D ns (ovF (goV rs g mv)) := fun x nv ex en mx =>
        ⟨_, DF.put oD2 mx ok.ln, fun b o e => by rw [upd_ne (ne_of_none e nD)]; exact k12 _ _ e, by
          show upd G2 D _ D = _
          rw [upd_same, ovF_put, go1, ex, en]⟩
      match r', er, dr2, mr, ps, eq1, lst with
      | .set x rr cs, er, dr2, mr, ps, eq1, lst =>
        obtain ⟨p0, vr, c, ys, e_, s0, hr2, s2, a2⟩ := set_inv dr2
        obtain ⟨H4, dp, k4, o4⟩ := lst x mv.2 rfl eq1 (ok.nm _ mr x List.mem_cons_self)
        refine ⟨_, rfl, p0, _, 0, _, e_, rfl, s0, atI_nat (j := 0) rfl, rfl, true, sEqT, iteT ?_⟩
        exact ⟨_, rfl, _, rfl, _, rfl, p0, _, 1, _, e_, rfl, s0, atI_nat (j := 1) rfl, D, H4, rfl, dp, k4, _, _, _, _, _, rfl, o4, sz2, plg, bdg⟩
      | .stp x y fa ad rr cs, er, dr2, mr, ps, eq1, lst =>
        obtain ⟨p0, vr, c, ys, e_, s0, hr2, s2, a2⟩ := stp_inv dr2
        have nb : fa.natAbs ≤ 10 ^ 32 ∧ ad.natAbs ≤ 10 ^ 32 := ok.nb _ mr
        have ps' : ((cs.all fun c => hasV c.2 (g c.1)) && (mv.2.isNone && hasV rr (g y))) = true := ps
        rw [Bool.and_eq_true, Bool.and_eq_true] at ps'
        obtain ⟨xv, ey⟩ := hasV_some ps'.2.2
        have e2 : nextV rs g mv = some (fa * xv + ad) := by
          rw [eq1]
          show (g y).map _ = _
          rw [ey]
          rfl
        obtain ⟨H4, dp, k4, o4⟩ := lst x (some (fa * xv + ad)) rfl e2 (ok.nm _ mr x List.mem_cons_self)
        have gy := DF.get (x := y) oD2 (ok.nm _ mr y (List.mem_cons_of_mem _ List.mem_cons_self))
        rw [show ovF g y = .int xv from by unfold ovF; rw [ey]; rfl] at gy
        have wm : CMulW fa xv := wide_mul (Nat.lt_of_le_of_lt nb.1 (by decide : 10 ^ 32 < 2 ^ 107)) (szg y xv ey) (by decide) (by omega) (by omega)
        refine ⟨_, rfl, p0, _, 0, _, e_, rfl, s0, atI_nat (j := 0) rfl, rfl, false, (by decide +kernel), iteF ?_⟩
        refine ⟨_, rfl, p0, _, 3, _, e_, rfl, s0, atI_nat (j := 3) rfl, _, rfl, _, rfl, p0, _, 2, _, e_, rfl, s0, atI_nat (j := 2) rfl, D, _, rfl, gy, _, _, rfl, rfl, wm, _, rfl, p0, _, 4, _, e_, rfl, s0, atI_nat (j := 4) rfl, _, _, rfl, rfl, ?_⟩
        exact ⟨_, rfl, _, rfl, p0, _, 1, _, e_, rfl, s0, atI_nat (j := 1) rfl, D, H4, rfl, dp, k4, _, _, _, _, _, rfl, o4, sz2, plg, bdg⟩
    · rintro σ G ⟨k, g, y4, y5, y6, y7, rfl, oD, szg, plg, bdg⟩
      rw [lz, List.drop_length] at plg
      exact ⟨_, rfl, q g plg.symm D G (s02.trans k) nD0 oD⟩
end

end Pk36
namespace Pk36
open PySem PySem.Spec PyProof.Rows L2 Gd
section
variable {P : Program} {w : World} {K : PySem.W.Frag} {mg : Str → Option Value} {base : Heap}
set_option maxHeartbeats 8000000 in
-- _law_inside: level 1; builtins []; cells []; slots: 0 given, 1 spot
theorem ok__law_inside (h : At K mg "_law_inside" s__law_inside ["given", "spot"]) : Dn P w K mg base 1 "_law_inside" s__law_inside ["given", "spot"] (sp__law_inside K) := by
  refine .mk' h fun f fd F => F.ok sc__law_inside (fun vs H Q E h => ?_) (fun cdv A outer s H vs Q E hr h => ?_)
  · obtain ⟨v, l, u, o, rfl, hv, q⟩ := h
    rfl
  · obtain ⟨v, l, u, o, rfl, hv, q⟩ := h
    refine ⟨_, (pss_cons (ps_if (pt_cmpR op_isN (pv 1) pe_non (nomark _))
        (pss_one (ps_ret pe_bl))
        pss_nil)
      (pss_one (ps_ret (pe_and (pe_or (pe_cmpR op_isN (pe_ix ix_tup (pv 0) pe_int (fun _ _ => rfl)) pe_non (nomark _)) (pe_one (pe_cmpR op_le (pe_ix ix_tup (pv 0) pe_int (fun _ _ => rfl)) (pv 1) (nomark _)))) (pe_one (pe_or (pe_cmpR op_isN (pe_ix ix_tup (pv 0) pe_int (fun _ _ => rfl)) pe_non (nomark _)) (pe_one (pe_cmpR op_le (pv 1) (pe_ix ix_tup (pv 0) pe_int (fun _ _ => rfl)) (nomark _))))))))), ?_⟩
    match o, q with
    | none, q => exact ⟨_, rfl, rfl, _, rfl, iteT q⟩
    | some i, q =>
      rw [hasV_eq] at q
      obtain ⟨p, rfl, s⟩ := hv
      refine ⟨_, rfl, rfl, _, rfl, iteF ?_⟩
      refine ⟨_, rfl, p, _, 0, _, rfl, rfl, s, atI_nat (j := 0) rfl, rfl, ?_⟩
      match l, s, q with
      | none, s, q =>
        rw [show loB none i = true from rfl, Bool.true_and] at q
        refine ⟨true, rfl, iteT ⟨true, rfl, iteT ?_⟩⟩
        refine ⟨_, rfl, p, _, 1, _, rfl, rfl, s, atI_nat (j := 1) rfl, rfl, ?_⟩
        match u, s, q with
        | none, s, q => exact ⟨true, rfl, iteT q⟩
        | some u, s, q => exact ⟨false, rfl, iteF ⟨_, rfl, _, rfl, p, _, 1, _, rfl, rfl, s, atI_nat (j := 1) rfl, _, _, rfl, rfl, q⟩⟩
      | some l, s, q =>
        refine ⟨false, rfl, iteF ⟨_, rfl, p, _, 0, _, rfl, rfl, s, atI_nat (j := 0) rfl, _, rfl, _, _, rfl, rfl, ?_⟩⟩
        have q2 : Q (.bl (decide (l ≤ i) && hiB u i)) H := q
        cases c : decide (l ≤ i) with
        | false =>
          rw [c, Bool.false_and] at q2
          exact ⟨false, congrArg V.bl c, iteF q2⟩
        | true =>
          rw [c, Bool.true_and] at q2
          refine ⟨true, congrArg V.bl c, iteT ?_⟩
          refine ⟨_, rfl, p, _, 1, _, rfl, rfl, s, atI_nat (j := 1) rfl, rfl, ?_⟩
          match u, s, q2 with
          | none, s, q2 => exact ⟨true, rfl, iteT q2⟩
          | some u, s, q2 => exact ⟨false, rfl, iteF ⟨_, rfl, _, rfl, p, _, 1, _, rfl, rfl, s, atI_nat (j := 1) rfl, _, _, rfl, rfl, q2⟩⟩
end

end Pk36
namespace Pk36
open PySem PySem.Spec PyProof.Rows L2 Gd
section
variable {P : Program} {w : World} {K : PySem.W.Frag} {mg : Str → Option Value} {base : Heap}
set_option maxHeartbeats 8000000 in
-- _law_next: level 2; builtins ['len']; cells ['held']; slots: 0 rows, 1 held, 2 move, 3 number, 4 spot, 5 row, 6 part, 7 given
theorem ok__law_next (h : At K mg "_law_next" s__law_next ["rows", "held", "move"]) (D__law_inside : Dn P w K mg base 1 "_law_inside" s__law_inside ["given", "spot"] (sp__law_inside K)) (m_len : mg "len" = none) : Dn P w K mg base 2 "_law_next" s__law_next ["rows", "held", "move"] (sp__law_next K) := by
  refine .mk' h fun f fd F => F.ok sc__law_next (fun vs H Q E h => ?_) (fun cdv A outer s H vs Q E hr h => ?_)
  · obtain ⟨b, a, v, rs, xs, ns, g, m, bb, rfl, hb, dr, ok, hd, dm, sz, lk, q⟩ := h
    rfl
  · obtain ⟨b, a, v, rs, xs, ns, g, m, bb, rfl, hb, dr, ok, hd, dm, sz, lk, q⟩ := h
    refine ⟨_, (pss_cons (ps_asg (pv 2) (pg_tup (by rfl) (pgs_cons (pg_name (i := 3) sc__law_next.nd rfl (.inl rfl)) (pgs_cons (pg_name (i := 4) sc__law_next.nd rfl (.inl rfl)) pgs_nil))))
      (pss_cons (ps_if (pt_not (pt_chain op_le op_lt pe_int (pv 3) (pe_callB call_len_seq (by rfl) m_len PySem.boot_len (pa_cons (pv 0) pa_nil))))
        (pss_one (ps_ret pe_non))
        pss_nil)
      (pss_cons (ps_set (i := 5) sc__law_next.nd rfl (.inl rfl) (pe_ix ix_list (pv 0) (pv 3) (fun _ _ => rfl)))
      (pss_cons (ps_if (pt_cmpR (op_neD hr.units) (pe_lc (own := [("part", 6), ("given", 7)]) (g := (gTup K 2 (gCons (gName 6) (gCons (gName 7) gNil)))) rfl sc__law_next.nd (pi_tup (pe_ix ix_tup (pv 5) (pe_un un_neg pe_int) (fun _ _ => rfl))) (blkOk_by (N := ["rows", "held", "move", "number", "spot", "row", "part", "given"]) (sc := defScope s__law_next) (by decide +kernel)) (fun _ _ _ _ _ => (pg_tup (by rfl) (pgs_cons (pg_name (i := 6) sc__law_next.nd rfl (.inl rfl)) (pgs_cons (pg_name (i := 7) sc__law_next.nd rfl (.inl rfl)) pgs_nil)))) (fun _ _ _ _ _ => pts_one (pt_not (pt_val (pe_c D__law_inside hr (by rfl) (pa_cons (pv 7) (pa_cons (pe_dget (hu_of hr) (pv 1) (pv 6) (fun _ _ => rfl)) pa_nil)))))) (fun _ _ _ _ _ => pe_int)) (pe_lst pa_nil) (nomark _))
        (pss_one (ps_ret pe_non))
        pss_nil)
      (pss_cons (ps_if (pt_cmpR op_eq (pe_ix ix_tup (pv 5) pe_int (fun _ _ => rfl)) pe_str (nomark _))
        (pss_one (ps_ret (pe_ifExp (pt_val (pe_c D__law_inside hr (by rfl) (pa_cons (pe_ix ix_tup (pv 5) pe_int (fun _ _ => rfl)) (pa_cons (pv 4) pa_nil)))) (pv 4) pe_non)))
        pss_nil)
      (pss_cons (ps_if (PW.pt (pw_or (pt_cmpR op_notN (pv 4) pe_non (nomark _)) (pw_or1 (pt_not (pt_val (pe_c D__law_inside hr (by rfl) (pa_cons (pe_ix ix_tup (pv 5) pe_int (fun _ _ => rfl)) (pa_cons (pe_dget (hu_of hr) (pv 1) (pe_ix ix_tup (pv 5) pe_int (fun _ _ => rfl)) (fun _ _ => rfl)) pa_nil))))))))
        (pss_one (ps_ret pe_non))
        pss_nil)
      (pss_one (ps_ret (pe_op op_add (pe_op op_mulW (pe_ix ix_tup (pv 5) pe_int (fun _ _ => rfl)) (pe_dget (hu_of hr) (pv 1) (pe_ix ix_tup (pv 5) pe_int (fun _ _ => rfl)) (fun _ _ => rfl))) (pe_ix ix_tup (pv 5) pe_int (fun _ _ => rfl))))))))))), ?_⟩
    obtain ⟨pm, rfl, spm⟩ := mv_inv dm
    have lx : xs.length = rs.length := by rw [dpa_len dr, List.length_map]
    have lr := ok.lr
    refine ⟨_, rfl, pm, _, rfl, spm, rfl, _, _, rfl, _, _, rfl, rfl, ?_⟩
    refine ⟨_, rfl, _, _, rfl, rfl, decide (0 ≤ m.1), rfl, ?_⟩
    by_cases c0 : 0 ≤ m.1
    · rw [decide_eq_true c0]
      refine iteT ⟨_, rfl, b, _, rfl, .inl hb, _, _, rfl, rfl, decide (m.1 < (xs.length : Int)), rfl, ?_⟩
      by_cases c1 : m.1 < (xs.length : Int)
      · rw [decide_eq_true c1]
        refine iteF ?_
        obtain ⟨k, r, ek, er⟩ := rn_at (rs := rs) ⟨c0, by omega⟩
        have lk2 : k < xs.length := by
          have := (List.getElem?_eq_some_iff.mp er).1
          omega
        have exk : xs[k]? = some xs[k] := List.getElem?_eq_getElem lk2
        obtain ⟨r', er', dv⟩ := dpa_map_get dr exk
        obtain rfl : r' = r := Option.some.inj (er'.symm.trans er)
        have mr := List.mem_of_getElem? er
        have eq1 := next_at (f := g) ek er
        refine ⟨_, rfl, _, rfl, b, _, (k : Int), _, rfl, congrArg V.int ek, hb, atI_nat exk, ?_⟩
        obtain ⟨p, xr, vr, c, ys, rr, e_, s, e2, e1, hr2, s2, a2, er2⟩ := rl_last dv
        have ly : ys.length = r'.cs.length := by rw [dpa_len a2, List.length_map]
        have lc := ok.cs r' mr
        have cdn : ∀ c ∈ r'.cs, c.1 ∈ ns ∧ ∃ l u, c.2 = some (l, u) := by
          have nm := ok.nm r' mr
          have nz := ok.nz r' mr
          have key : ∀ rg : Rg, rg ≠ none → ∃ l u, rg = some (l, u) := fun rg n => by
            match rg, n with
            | none, n => exact absurd rfl n
            | some (l, u), _ => exact ⟨l, u, rfl⟩
          match r', nm, nz with
          | .set x rr cs, nm, nz => exact fun c m => ⟨nm _ (List.mem_cons_of_mem _ (List.mem_map.mpr ⟨c, m, rfl⟩)), key _ (nz _ (List.mem_cons_of_mem _ (List.mem_map.mpr ⟨c, m, rfl⟩)))⟩
          | .stp x y f a rr cs, nm, nz => exact fun c m => ⟨nm _ (List.mem_cons_of_mem _ (List.mem_cons_of_mem _ (List.mem_map.mpr ⟨c, m, rfl⟩))), key _ (nz _ (List.mem_cons_of_mem _ (List.mem_map.mpr ⟨c, m, rfl⟩)))⟩
        refine ⟨_, rfl, _, rfl, p, _, -1, .ref c, e_, rfl, s, e1, c, rfl, ⟨_, s2⟩, fun D nD => ?_⟩
        refine lc_tup (K := K) (a := c) (xs := ys) (fun i G => Same H G ∧ G D = some (.lst (((r'.cs.take i).filter fun c => !hasV c.2 (g c.1)).map fun _ => V.int 1))) ⟨Same.new nD, upd_same⟩ (fun i G _ h => SqT.same h.1 s2) ?_ ?_
        · rintro i z G ez ⟨sm, oD⟩
          obtain ⟨cd, ec, dz⟩ := dpa_map_get (dpa_same sm a2) ez
          obtain ⟨pc, vr2, rfl, sc, hr3⟩ := cd_inv dz
          obtain ⟨mn, l, u, elu⟩ := cdn cd (List.mem_of_getElem? ec)
          rw [elu] at hr3
          refine ⟨pc, _, rfl, sc, rfl, _, _, rfl, _, _, rfl, rfl, rfl, ?_⟩
          refine ⟨_, rfl, _, rfl, _, rfl, a, ov (g cd.1), rfl, (hd.same sm).get mn, vr2, l, u, g cd.1, rfl, hr3, ?_⟩
          rw [← elu]
          have al : (((r'.cs.take i).filter fun c => !hasV c.2 (g c.1)).map fun _ => V.int 1).length < sizeLine := by
            rw [List.length_map]
            exact Nat.lt_of_le_of_lt (Nat.le_trans (List.length_filter_le _ _) (by rw [List.length_take]; exact Nat.le_trans (Nat.min_le_right _ _) lc)) (by decide : 1000 < sizeLine)
          rw [take_succ1 ec, List.filter_append, List.map_append]
          cases hh : hasV cd.2 (g cd.1) with
          | true =>
            have f1 : ([cd].filter fun c => !hasV c.2 (g c.1)) = [] := by simp [hh]
            rw [f1]
            refine ⟨true, rfl, iteF ⟨sm, ?_⟩⟩
            rw [List.map_nil, List.append_nil]
            exact oD
          | false =>
            have f1 : ([cd].filter fun c => !hasV c.2 (g c.1)) = [cd] := by simp [hh]
            rw [f1]
            exact ⟨false, rfl, iteT ⟨_, oD, al, fun b o e => by rw [upd_ne (ne_of_none e nD)]; exact sm _ _ e, upd_same⟩⟩
        rintro G ⟨sm, oD⟩
        rw [ly, List.take_length] at oD
        refine ⟨by show 0 ≤ sizeLine; decide, fun L nL => ?_⟩
        have sL := Same.new (o := .lst []) nL
        have oL : upd G L (.lst []) L = some (.lst []) := upd_same
        generalize upd G L (HO.lst ([] : List V)) = G2 at sL oL
        have s02 := sm.trans sL
        have oD2 := sL _ _ oD
        have dones : ∀ l : List Cd, DpAll K G2 (l.map fun _ => V.int 1) (l.map fun _ => PyData.int 1) := fun l => by
          induction l with
          | nil => exact .nil
          | cons c l ih => exact .cons (.int _) ih
        have lyo : ∀ l : List Cd, Ly 2 (.list (l.map fun _ => PyData.int 1)) := fun l => Ly.list (lyA_of fun d m => by
          obtain ⟨_, _, rfl⟩ := List.mem_map.mp m
          exact Ly.int 1)
        refine ⟨_, .list [], .lst (.inl (.inl oD2)) (dones _), .lst (.inl (.inl oL)) .nil, (lyo _).shaped, rfl, !(r'.cs.all fun c => hasV c.2 (g c.1)), ?_, ?_⟩
        · rw [eqv_nilR, filter_emptyR, any_not, Bool.not_not]
        cases hc0 : r'.cs.all fun c => hasV c.2 (g c.1) with
        | false =>
          have z : possR g m.2 r' = false := poss_no hc0
          rw [z, if_neg (by decide)] at eq1
          rw [eq1] at q
          exact iteT (q _ s02)
        | true =>
        refine iteF ?_
        match r', dv, mr, eq1, hc0 with
        | .set x rg cs, dv, mr, eq1, hc0 =>
          obtain ⟨p', vr', q', ys', e2_, s', hrg, _, _⟩ := set_inv dv
          have pq : possR g m.2 (.set x rg cs) = ((cs.all fun c => hasV c.2 (g c.1)) && hasV rg m.2) := rfl
          rw [pq] at eq1
          have hc : (cs.all fun c => hasV c.2 (g c.1)) = true := hc0
          rw [hc, Bool.true_and] at eq1
          obtain ⟨l, u, elu⟩ : ∃ l u, rg = some (l, u) := by
            have := ok.nz _ mr rg List.mem_cons_self
            match rg, this with
            | none, n => exact absurd rfl n
            | some (l, u), _ => exact ⟨l, u, rfl⟩
          rw [elu] at hrg
          refine ⟨_, rfl, p', _, 0, _, e2_, rfl, SqT.same s02 s', atI_nat (j := 0) rfl, rfl, true, sEqT, iteT ?_⟩
          refine ⟨_, rfl, p', _, 2, _, e2_, rfl, SqT.same s02 s', atI_nat (j := 2) rfl, _, rfl, vr', l, u, m.2, rfl, hrg.same s02, ?_⟩
          rw [← elu]
          cases hh : hasV rg m.2 with
          | true =>
            rw [hh, if_pos rfl] at eq1
            rw [eq1] at q
            exact ⟨true, rfl, iteT ⟨_, rfl, q _ s02⟩⟩
          | false =>
            rw [hh, if_neg (by decide)] at eq1
            rw [eq1] at q
            exact ⟨false, rfl, iteF (q _ s02)⟩
        | .stp x y fa ad rg cs, dv, mr, eq1, hc0 =>
          obtain ⟨p', vr', q', ys', e2_, s', hrg, _, _⟩ := stp_inv dv
          have pq : possR g m.2 (.stp x y fa ad rg cs) = ((cs.all fun c => hasV c.2 (g c.1)) && (m.2.isNone && hasV rg (g y))) := rfl
          rw [pq] at eq1
          have hc : (cs.all fun c => hasV c.2 (g c.1)) = true := hc0
          rw [hc, Bool.true_and] at eq1
          obtain ⟨l, u, elu⟩ : ∃ l u, rg = some (l, u) := by
            have := ok.nz _ mr rg List.mem_cons_self
            match rg, this with
            | none, n => exact absurd rfl n
            | some (l, u), _ => exact ⟨l, u, rfl⟩
          rw [elu] at hrg
          have my : y ∈ ns := ok.nm _ mr y (List.mem_cons_of_mem _ List.mem_cons_self)
          have nb : fa.natAbs ≤ 10 ^ 32 ∧ ad.natAbs ≤ 10 ^ 32 := ok.nb _ mr
          have sS := SqT.same s02 s'
          have hd2 := hd.same s02
          refine ⟨_, rfl, p', _, 0, _, e2_, rfl, sS, atI_nat (j := 0) rfl, rfl, false, (by decide +kernel), iteF ?_⟩
          cases em : m.2 with
          | some i =>
            rw [em, show (some i : Option Int).isNone = false from rfl, Bool.false_and, if_neg (by decide)] at eq1
            rw [eq1] at q
            exact ⟨_, rfl, rfl, _, rfl, iteT (q _ s02)⟩
          | none =>
            rw [em, show (none : Option Int).isNone = true from rfl, Bool.true_and] at eq1
            refine ⟨_, rfl, rfl, _, rfl, iteF ?_⟩
            refine ⟨_, rfl, p', _, 5, _, e2_, rfl, sS, atI_nat (j := 5) rfl, _, rfl, _, rfl, p', _, 2, _, e2_, rfl, sS, atI_nat (j := 2) rfl, a, ov (g y), rfl, hd2.get my, vr', l, u, g y, rfl, hrg.same s02, ?_⟩
            rw [← elu]
            cases hh : hasV rg (g y) with
            | false =>
              rw [hh, if_neg (by decide)] at eq1
              rw [eq1] at q
              exact ⟨false, rfl, iteT (q _ s02)⟩
            | true =>
              rw [hh, if_pos rfl] at eq1
              obtain ⟨xv, ey⟩ := hasV_some hh
              have e2 : nextV rs g m = some (fa * xv + ad) := by
                rw [eq1]
                show (g y).map _ = _
                rw [ey]
                rfl
              rw [e2] at q
              have gy := hd2.get my
              rw [show ovF g y = .int xv from by unfold ovF; rw [ey]; rfl] at gy
              have wm : CMulW fa xv := wide_mul (Nat.lt_of_le_of_lt nb.1 (by decide : 10 ^ 32 < 2 ^ 107)) (sz_mono (sz y xv ey) (Nat.le_succ bb)) (by decide) (by omega) (by omega)
              refine ⟨true, rfl, iteF ?_⟩
              exact ⟨_, rfl, p', _, 3, _, e2_, rfl, sS, atI_nat (j := 3) rfl, _, rfl, _, rfl, p', _, 2, _, e2_, rfl, sS, atI_nat (j := 2) rfl, a, _, rfl, gy, _, _, rfl, rfl, wm, _, rfl, p', _, 4, _, e2_, rfl, sS, atI_nat (j := 4) rfl, _, _, rfl, rfl, q _ s02⟩
      · rw [decide_eq_false c1]
        rw [next_out (fun z => c1 (by omega))] at q
        exact iteT (q _ (Same.refl _))
    · rw [decide_eq_false c0]
      rw [next_out (fun z => c0 z.1)] at q
      exact iteF ⟨_, rfl, iteT (q _ (Same.refl _))⟩
end

end Pk36
namespace Pk36
open PySem PySem.Spec PyProof.Rows L2 Gd
section
variable {P : Program} {w : World} {K : PySem.W.Frag} {mg : Str → Option Value} {base : Heap}
set_option maxHeartbeats 8000000 in
-- _law_spot: level 2; builtins ['len']; cells []; slots: 0 rng, 1 given, 2 ends, 3 some, 4 end
theorem ok__law_spot (h : At K mg "_law_spot" s__law_spot ["rng", "given"]) (D__law_draw : Dn P w K mg base 1 "_law_draw" s__law_draw ["rng", "limit"] (sp__law_draw K)) (m_len : mg "len" = none) : Dn P w K mg base 2 "_law_spot" s__law_spot ["rng", "given"] (sp__law_spot K) := by
  refine .mk' h fun f fd F => F.ok sc__law_spot (fun vs H Q E h => ?_) (fun cdv A outer s H vs Q E hr h => ?_)
  · obtain ⟨g, v, l, u, n, rfl, rs, hn, hv, ir, q⟩ := h
    rfl
  · obtain ⟨g, v, l, u, n, rfl, rs, hn, hv, ir, q⟩ := h
    refine ⟨_, (pss_cons (ps_setLc (i := 2) (own := [("end", 4)]) (g := gName 4) rfl sc__law_spot.nd rfl rfl (sw_true rfl rfl rfl (by decide +kernel)) (pi_tup (pv 1)) (blkOk_by (N := ["rng", "given", "ends", "some", "end"]) (sc := defScope s__law_spot) (by decide +kernel)) (fun _ _ _ _ _ => pg_name (i := 4) sc__law_spot.nd rfl (Or.inl rfl)) (fun _ _ _ _ _ => pts_one (pt_cmpR op_notN (pv 4) pe_non (nomark _))) (fun _ _ _ _ _ => (pv 4)))
      (pss_cons (ps_set (i := 3) sc__law_spot.nd rfl (.inl rfl) (pe_op op_cat (pe_op op_cat (pe_op op_cat (pv 2) (pe_lc (own := [("end", 4)]) (g := gName 4) rfl sc__law_spot.nd (pi_list (pv 2)) (blkOk_by (N := ["rng", "given", "ends", "some", "end"]) (sc := defScope s__law_spot) (by decide +kernel)) (fun _ _ _ _ _ => pg_name (i := 4) sc__law_spot.nd rfl (Or.inl rfl)) (fun _ _ _ _ _ => pts_nil) (fun _ _ _ _ _ => (pe_op op_add (pv 4) pe_int)))) (pe_lc (own := [("end", 4)]) (g := gName 4) rfl sc__law_spot.nd (pi_list (pv 2)) (blkOk_by (N := ["rng", "given", "ends", "some", "end"]) (sc := defScope s__law_spot) (by decide +kernel)) (fun _ _ _ _ _ => pg_name (i := 4) sc__law_spot.nd rfl (Or.inl rfl)) (fun _ _ _ _ _ => pts_nil) (fun _ _ _ _ _ => (pe_op op_sub (pv 4) pe_int)))) (pe_lst (pa_cons pe_int (pa_cons pe_int (pa_cons (pe_un un_neg pe_int) (pa_cons (pe_op op_sub (pe_c D__law_draw hr (by rfl) (pa_cons (pv 0) (pa_cons pe_int pa_nil))) pe_int) (pa_cons pe_non pa_nil))))))))
      (pss_one (ps_ret (pe_ix ix_list (pv 3) (pe_c D__law_draw hr (by rfl) (pa_cons (pv 0) (pa_cons (pe_callB call_len_seq (by rfl) m_len PySem.boot_len (pa_cons (pv 3) pa_nil)) pa_nil))) (fun _ _ => rfl)))))), ?_⟩
    obtain ⟨p, rfl, s⟩ := hv
    refine ⟨_, rfl, p, rfl, ⟨_, s⟩, fun D nD => ?_⟩
    have en : ∀ k, k ≤ 2 → ∃ es : List Int, (([l, u] : List (Option Int)).take k).filterMap id = es := fun k _ => ⟨_, rfl⟩
    refine lc_tup (K := K) (a := p) (xs := [ov l, ov u]) (fun i G => Same H G ∧ G D = some (.lst (((([l, u] : List (Option Int)).take i).filterMap id).map V.int))) ⟨Same.new nD, upd_same⟩ (fun i G _ h => SqT.same h.1 s) ?_ ?_
    · rintro i z G ez ⟨sm, oD⟩
      have st : ∃ o : Option Int, z = ov o ∧ ([l, u] : List (Option Int)).take (i + 1) = ([l, u] : List (Option Int)).take i ++ [o] := by
        match i, ez with
        | 0, ez => cases ez; exact ⟨l, rfl, rfl⟩
        | 1, ez => cases ez; exact ⟨u, rfl, rfl⟩
        | i + 2, ez => simp at ez
      obtain ⟨o, rfl, et⟩ := st
      have al : (((([l, u] : List (Option Int)).take i).filterMap id).map V.int).length < sizeLine := by
        rw [List.length_map]
        exact Nat.lt_of_le_of_lt (Nat.le_trans (List.length_filterMap_le _ _) (by rw [List.length_take]; exact Nat.min_le_right _ _)) (by show 2 < sizeLine; decide)
      rw [et, List.filterMap_append, List.map_append]
      cases o with
      | none => exact ⟨rfl, _, rfl, rfl, _, rfl, iteF ⟨sm, by rw [show ([none] : List (Option Int)).filterMap id = [] from rfl, List.map_nil, List.append_nil]; exact oD⟩⟩
      | some x => exact ⟨rfl, _, rfl, rfl, _, rfl, iteT ⟨_, rfl, _, oD, al, fun b o e => by rw [upd_ne (ne_of_none e nD)]; exact sm _ _ e, upd_same⟩⟩
    rintro G ⟨sm, oD⟩
    have e0 : (([l, u] : List (Option Int)).take [ov l, ov u].length).filterMap id = endsOf l u := by cases l <;> cases u <;> rfl
    rw [e0] at oD
    have l2 := ends_le l u
    have ei := ends_in ir
    generalize endsOf l u = es at oD l2 ei
    refine ⟨_, rfl, _, rfl, D, rfl, ⟨_, .inl (.inl oD)⟩, fun D2 nD2 => ?_⟩
    refine lc_list (K := K) (a := D) (xs := es.map V.int) (fun i G' => Same G G' ∧ G' D2 = some (.lst ((es.take i).map fun x => V.int (x + 1)))) ⟨Same.new nD2, upd_same⟩ (fun i G' _ h => .inl (.inl (h.1 _ _ oD))) ?_ ?_
    · rintro i z G' ez ⟨sm, oD2⟩
      obtain ⟨x, ex, rfl⟩ := map_get ez
      have al : ((es.take i).map fun x => V.int (x + 1)).length < sizeLine := by
        rw [List.length_map, List.length_take]
        exact Nat.lt_of_le_of_lt (Nat.le_trans (Nat.min_le_right _ _) l2) (by decide)
      rw [take_succ1 ex, List.map_append]
      exact ⟨rfl, _, rfl, _, _, rfl, rfl, _, oD2, al, fun b o e => by rw [upd_ne (ne_of_none e nD2)]; exact sm _ _ e, upd_same⟩
    rintro G2 ⟨sm2, oD2⟩
    rw [List.length_map, List.take_length] at oD2
    refine catL (sm2 _ _ oD) oD2 (by rw [List.length_map, List.length_map]; omega) fun c1 G3 k3 n3 o3 => ?_
    refine ⟨_, rfl, D, rfl, ⟨_, .inl (.inl (k3 _ _ (sm2 _ _ oD)))⟩, fun D4 nD4 => ?_⟩
    have oD3 := k3 _ _ (sm2 _ _ oD)
    refine lc_list (K := K) (a := D) (xs := es.map V.int) (fun i G' => Same G3 G' ∧ G' D4 = some (.lst ((es.take i).map fun x => V.int (x - 1)))) ⟨Same.new nD4, upd_same⟩ (fun i G' _ h => .inl (.inl (h.1 _ _ oD3))) ?_ ?_
    · rintro i z G' ez ⟨sm, oD4⟩
      obtain ⟨x, ex, rfl⟩ := map_get ez
      have al : ((es.take i).map fun x => V.int (x - 1)).length < sizeLine := by
        rw [List.length_map, List.length_take]
        exact Nat.lt_of_le_of_lt (Nat.le_trans (Nat.min_le_right _ _) l2) (by decide)
      rw [take_succ1 ex, List.map_append]
      exact ⟨rfl, _, rfl, _, _, rfl, rfl, _, oD4, al, fun b o e => by rw [upd_ne (ne_of_none e nD4)]; exact sm _ _ e, upd_same⟩
    rintro G4 ⟨sm4, oD4⟩
    rw [List.length_map, List.take_length] at oD4
    refine catL (sm4 _ _ o3) oD4 (by rw [List.length_append, List.length_map, List.length_map, List.length_map]; omega) fun c2 G5 k5 n5 o5 => ?_
    have k05 := (((sm.trans sm2).trans k3).trans sm4).trans k5
    have c2g : c2 ≠ g := (rs.same (((sm.trans sm2).trans k3).trans sm4)).fresh n5
    refine ⟨_, rfl, _, rfl, g, 99, n, rfl, rs.same k05, by omega, by decide, by decide, fun d G6 d0 d1 k6 rs6 => ⟨_, _, rfl, rfl, ?_⟩⟩
    refine ⟨by show 5 ≤ sizeLine; decide, fun c3 nc3 => ?_⟩
    have sc3 := Same.new (o := .lst [.int 0, .int 3, .int (-3), .int (d - 49), .non]) nc3
    have oc3 : upd G6 c3 (.lst [.int 0, .int 3, .int (-3), .int (d - 49), .non]) c3 = some (.lst [.int 0, .int 3, .int (-3), .int (d - 49), .non]) := upd_same
    generalize upd G6 c3 (HO.lst ([.int 0, .int 3, .int (-3), .int (d - 49), .non] : List V)) = G7 at sc3 oc3
    have o7 := sc3 _ _ (k6 _ _ c2g o5)
    have rs7 := rs6.same sc3
    refine catL o7 oc3 (by rw [List.length_append, List.length_append, List.length_map, List.length_map, List.length_map]; show _ + 5 ≤ 100000; omega) fun c4 G8 k8 n8 o8 => ?_
    have c4g : c4 ≠ g := rs7.fresh n8
    have rs8 := rs7.same k8
    have p200 : (2 : Nat) ^ 200 = 1606938044258990275541962092341162602522202993782792835301376 := by decide
    have ll : (((es.map V.int ++ es.map fun x => V.int (x + 1)) ++ es.map fun x => V.int (x - 1)) ++ [V.int 0, .int 3, .int (-3), .int (d - 49), .non]).length = es.length + es.length + es.length + 5 := by
      rw [List.length_append, List.length_append, List.length_append, List.length_map, List.length_map, List.length_map]
      rfl
    have all : ∀ v ∈ (((es.map V.int ++ es.map fun x => V.int (x + 1)) ++ es.map fun x => V.int (x - 1)) ++ [V.int 0, .int 3, .int (-3), .int (d - 49), .non]), ∃ o, v = ov o ∧ Sp110 o := by
      have t31 : (10 : Nat) ^ 31 = 10000000000000000000000000000000 := by decide
      have t32 : (10 : Nat) ^ 32 = 100000000000000000000000000000000 := by decide
      intro v m
      rcases List.mem_append.mp m with m | m
      · rcases List.mem_append.mp m with m | m
        · rcases List.mem_append.mp m with m | m
          · obtain ⟨x, mx, rfl⟩ := List.mem_map.mp m
            have := ei x mx
            exact ⟨some x, rfl, sp_some (by omega)⟩
          · obtain ⟨x, mx, rfl⟩ := List.mem_map.mp m
            have := ei x mx
            exact ⟨some (x + 1), rfl, sp_some (by omega)⟩
        · obtain ⟨x, mx, rfl⟩ := List.mem_map.mp m
          have := ei x mx
          exact ⟨some (x - 1), rfl, sp_some (by omega)⟩
      · simp only [List.mem_cons, List.not_mem_nil, or_false] at m
        rcases m with rfl | rfl | rfl | rfl | rfl
        · exact ⟨some 0, rfl, sp_some (by decide)⟩
        · exact ⟨some 3, rfl, sp_some (by decide)⟩
        · exact ⟨some (-3), rfl, sp_some (by decide)⟩
        · exact ⟨some (d - 49), rfl, sp_some (by omega)⟩
        · exact ⟨none, rfl, sp_none⟩
    generalize (((es.map V.int ++ es.map fun x => V.int (x + 1)) ++ es.map fun x => V.int (x - 1)) ++ [V.int 0, .int 3, .int (-3), .int (d - 49), .non]) = W at o8 ll all
    refine ⟨_, rfl, _, rfl, _, rfl, c4, _, rfl, .inl (.inl (.inl o8)), g, _, n + 1, rfl, rs8, by omega, by omega, by rw [p200]; omega, fun d2 G9 e0 e1 k9 rs9 => ?_⟩
    obtain ⟨v, ev, mv⟩ := pick_mem (xs := W) e0 e1
    obtain ⟨o, rfl, so⟩ := all v mv
    exact ⟨c4, _, d2, _, rfl, rfl, .inl (.inl (k9 _ _ c4g o8)), ev, q o _ so (((Kp.of k05).trans k6).trans ((Kp.of (sc3.trans k8)).trans k9)) rs9⟩
end

end Pk36
namespace Pk36
open PySem PySem.Spec PyProof.Rows L2 Gd
section
variable {P : Program} {w : World} {K : PySem.W.Frag} {mg : Str → Option Value} {base : Heap}
set_option maxHeartbeats 8000000 in
-- _law_moves: level 3; builtins ['abs', 'dict', 'int', 'len', 'range']; cells []; slots: 0 rng, 1 words, 2 rows, 3 many, 4 held, 5 some, 6 turn, 7 number, 8 spot, 9 later, 10 word
theorem ok__law_moves (h : At K mg "_law_moves" s__law_moves ["rng", "words", "rows", "many"]) (D__law_draw : Dn P w K mg base 1 "_law_draw" s__law_draw ["rng", "limit"] (sp__law_draw K)) (D__law_next : Dn P w K mg base 2 "_law_next" s__law_next ["rows", "held", "move"] (sp__law_next K)) (D__law_spot : Dn P w K mg base 2 "_law_spot" s__law_spot ["rng", "given"] (sp__law_spot K)) (m_abs : mg "abs" = none) (m_dict : mg "dict" = none) (m_int : mg "int" = none) (m_len : mg "len" = none) (m_range : mg "range" = none) : Dn P w K mg base 3 "_law_moves" s__law_moves ["rng", "words", "rows", "many"] (sp__law_moves K) := by
  refine .mk' h fun f fd F => F.ok sc__law_moves (fun vs H Q E h => ?_) (fun cdv A outer s H vs Q E hr h => ?_)
  · obtain ⟨g, w, b, many, n, ws, rs, xs, rfl, hrs, hn, m0, m1, wg, bg, ow, ob, dr, gd, nd, hok, lw, lr, q⟩ := h
    rfl
  · obtain ⟨g, w, b, many, n, ws, rs, xs, rfl, hrs, hn, m0, m1, wg, bg, ow, ob, dr, gd, nd, hok, lw, lr, q⟩ := h
    refine ⟨_, (pss_cons (ps_par (i := 4) (j := 5) rfl sc__law_moves.nd rfl rfl (by decide) rfl rfl (pa_cons (pe_callTy (call_dictP rfl) (by rfl) m_dict (by decide +kernel) (pa_cons (pe_lc (own := [("word", 10)]) (g := gName 10) rfl sc__law_moves.nd (pi_list (pv 1)) (blkOk_by (N := ["rng", "words", "rows", "many", "held", "some", "turn", "number", "spot", "later", "word"]) (sc := defScope s__law_moves) (by decide +kernel)) (fun _ _ _ _ _ => pg_name (i := 10) sc__law_moves.nd rfl (Or.inl rfl)) (fun _ _ _ _ _ => pts_nil) (fun _ _ _ _ _ => (pe_tup (pa_cons (pv 10) (pa_cons pe_non pa_nil))))) pa_nil)) (pa_cons (pe_lst pa_nil) pa_nil)) (by rfl))
      (pss_cons (ps_for PassesOwn.never rfl (pi_range1 (by rfl) m_range (pa_cons (pe_op op_mulW (pv 3) (pe_callTy call_int1 (by rfl) m_int (by decide +kernel) (pa_cons (pe_cmpR (op_neD hr.units) (pv 2) (pe_lst pa_nil) (nomark _)) pa_nil))) pa_nil)) (pg_name (i := 6) sc__law_moves.nd rfl (.inl rfl))
        (pss_cons (ps_set (i := 7) sc__law_moves.nd rfl (.inl rfl) (pe_c D__law_draw hr (by rfl) (pa_cons (pv 0) (pa_cons (pe_callB call_len_seq (by rfl) m_len PySem.boot_len (pa_cons (pv 2) pa_nil)) pa_nil))))
        (C8.pss_cut (ps_set (i := 8) sc__law_moves.nd rfl (.inl rfl) (pe_ifExp (pt_cmpR op_eq (pe_ix ix_tup (pe_ix ix_list (pv 2) (pv 7) (fun _ _ => rfl)) pe_int (fun _ _ => rfl)) pe_str (nomark _)) (pe_c D__law_spot hr (by rfl) (pa_cons (pv 0) (pa_cons (pe_ix ix_tup (pe_ix ix_list (pv 2) (pv 7) (fun _ _ => rfl)) pe_int (fun _ _ => rfl)) pa_nil))) pe_non))
        (pss_cons (ps_set (i := 9) sc__law_moves.nd rfl (.inl rfl) (pe_c D__law_next hr (by rfl) (pa_cons (pv 2) (pa_cons (pv 4) (pa_cons (pe_tup (pa_cons (pv 7) (pa_cons (pv 8) pa_nil))) pa_nil)))))
        (pss_one (ps_if (PW.pt (pw_and (pt_cmpR op_notN (pv 9) pe_non (nomark _)) (pw_and1 (pt_cmpR op_lt (pe_callB call_abs (by rfl) m_abs (by decide +kernel) (pa_cons (pv 9) pa_nil)) (pe_op op_sub (pe_op op_powW pe_int pe_int) pe_int) (nomark _)))))
          (pss_cons (ps_expr (pe_bm PySem.F.plainAttrs_list PySem.F.slot_list_append PySem.F.type_list_append mt_append (pv 5) (pa_cons (pe_tup (pa_cons (pv 7) (pa_cons (pv 8) pa_nil))) pa_nil)))
          (pss_one (ps_dput (hu_of hr) (pv 4) (pe_ix ix_tup (pe_ix ix_list (pv 2) (pv 7) (fun _ _ => rfl)) pe_int (fun _ _ => rfl)) (pv 9) rfl)))
          pss_nil))))))
      (pss_one (ps_ret (pe_tup (pa_cons (pv 5) (pa_cons (pv 4) pa_nil))))))), ?_⟩
    have ok := rn_of gd lw lr
    have lyr := ly_rows hok gd
    have lx : xs.length = rs.length := by rw [dpa_len dr, List.length_map]
    have p200 : (2 : Nat) ^ 200 = 1606938044258990275541962092341162602522202993782792835301376 := by decide
    refine ⟨_, rfl, w, rfl, ⟨_, .inl (.inl ow)⟩, fun L nL => ?_⟩
    refine lc_rel (xs := ws.map V.str) (fun i G y => ∃ p x, ws[i]? = some x ∧ y = .ref p ∧ SqT K G p [.str x, .non]) (.inl (.inl ow)) (by rw [List.length_map]; omega) nL (fun i G G' y acc k e h => by
      obtain ⟨p, x, e1, e2, s⟩ := h
      exact ⟨p, x, e1, e2, SqT.kpl k e s⟩) (fun _ => rfl) ?_ ?_
    · intro i z G R ez sm k
      obtain ⟨x, ex, rfl⟩ := map_get ez
      exact ⟨_, rfl, by show 2 ≤ sizeLine; decide, fun p np => k _ _ (Same.new np) ⟨p, x, ex, rfl, .inl (.inl upd_same)⟩⟩
    intro G ys sm eL ly hy
    obtain ⟨ps, rfl, pr⟩ := pairs_mk (fun _ => .non) (ly.trans (List.length_map _)) hy
    refine ⟨L, ps, fK ws (fun _ => .non), rfl, .inl (.inl eL), pr, fun D nD => ?_⟩
    rw [merge0 nd]
    have sD := Same.new (o := .dK (fK ws (fun _ => .non))) nD
    have oD : DF (upd G D (.dK (fK ws (fun _ => .non)))) D ws (ovF noV) := upd_same
    generalize upd G D (.dK (fK ws (fun _ => .non))) = G1 at sD oD
    refine ⟨by show 0 ≤ sizeLine; decide, fun S nS => ?_⟩
    have sS := Same.new (o := .lst []) nS
    have oS : upd G1 S (.lst []) S = some (.lst []) := upd_same
    generalize upd G1 S (HO.lst ([] : List V)) = G2 at sS oS
    have nD0 : H D = none := sm.free nD
    have nS0 : H S = none := (sm.trans sD).free nS
    have k02 := (sm.trans sD).trans sS
    have Dg : D ≠ g := hrs.fresh nD0
    have Sg : S ≠ g := hrs.fresh nS0
    have oD := sS _ _ oD
    have DS : D ≠ S := ne_of oD oS (fun z => by cases z)
    clear sD sS nL eL pr hy ly
    refine ⟨_, _, rfl, ?_⟩
    refine ⟨_, rfl, _, rfl, by show 0 ≤ sizeLine; decide, fun L0 nL0 => ?_⟩
    have sL0 := Same.new (o := .lst []) nL0
    have oL0 : upd G2 L0 (.lst []) L0 = some (.lst []) := upd_same
    generalize upd G2 L0 (HO.lst ([] : List V)) = G3 at sL0 oL0
    have k03 := k02.trans sL0
    refine ⟨.list (rs.map Rl.d), .list [], .lst (.inl (.inl (k03 _ _ ob))) (dpa_same k03 dr), .lst (.inl (.inl oL0)) .nil, lyr.shaped, rfl, .inr ⟨_, rfl, many, _, rfl, rfl, ?_, ?_⟩⟩
    · exact wide_mul (a := 9) (b := 1) (by omega) (by split <;> decide) (by decide) (by decide) (by decide)
    obtain ⟨e0, e1, ep⟩ := times_ok (rs := rs) m0
    refine ⟨_, rfl, Int.le_trans (show (-2 ^ 62 : Int) ≤ 0 by decide) e0, Int.lt_of_le_of_lt (Int.le_trans e1 m1) (show (200 : Int) < 2 ^ 62 by decide), ?_⟩
    refine for_range (fun j σ G => ∃ zs ms f y6 y7 y8 y9, σ = [some (.ref g), some (.ref w), some (.ref b), some (.int many), some (.ref D), some (.ref S), y6, y7, y8, y9, none] ∧ Kp g H G ∧ RS (n + 4 * j) G g ∧ G S = some (.lst zs) ∧ DpAll K G zs (ms.map mvD) ∧ DF G D ws (ovF f) ∧
      playV rs noV ms = some f ∧ ms.length ≤ j ∧ (∀ x ∈ ms, SzM x) ∧ SzF 110 f) ⟨[], [], noV, none, none, none, none, rfl, .of k03, (hrs.same k03).mono (by omega), sL0 _ _ oS, .nil, sL0 _ _ oD, rfl, Nat.le_refl _, fun _ m => absurd m (by simp), SzF.no⟩ ?_ ?_
    · rintro j σ Ga hj ⟨zs, ms, f, y6, y7, y8, y9, rfl, ka, rsa, oSa, dma, oDa, pl, lm, szm, szf⟩
      have hj2 : j < 200 := by omega
      have rpos : 0 < rs.length := ep (by omega)
      have oBa := ka _ _ bg ob
      refine ⟨_, rfl, _, rfl, b, _, rfl, .inl (.inl (.inl oBa)), g, _, n + 4 * j, rfl, rsa, by omega, by omega, by rw [p200]; omega, fun d Gb d0 d1 kb rsb => ?_⟩
      obtain ⟨k, rfl⟩ := Int.eq_ofNat_of_zero_le d0
      have lk : k < xs.length := by omega
      have ex : xs[k]? = some xs[k] := List.getElem?_eq_getElem lk
      have kab := ka.trans kb
      have oBb := kab _ _ bg ob
      obtain ⟨r, er, dv⟩ := dpa_map_get (dpa_kl (hrs.kl kab) dr (noL_rls rs)) ex
      have mr := List.mem_of_getElem? er
      have noM : ∀ l : List Mv, ∀ z ∈ l.map mvD, NoL z := fun l z m => by
        obtain ⟨y, _, rfl⟩ := List.mem_map.mp m
        exact noL_mv y
      refine ⟨fun σ' Gc => ∃ o : Option Int, Sp110 o ∧ Kp g Gb Gc ∧ RS (n + 4 * j + 3) Gc g ∧ σ' = [some (.ref g), some (.ref w), some (.ref b), some (.int many), some (.ref D), some (.ref S), some (.int (0 + (j : Nat))), some (.int (k : Int)), some (ov o), y9, none], ?_, ?_⟩
      · match r, dv, mr with
        | .set x rg cs, dv, mr =>
          obtain ⟨p, vr, c, ys, e_, s0, hr2, s2, a2⟩ := set_inv dv
          have gr := (gd _ mr).rg rg List.mem_cons_self
          refine ⟨_, rfl, _, rfl, b, _, (k : Int), _, rfl, rfl, .inl (.inl oBb), atI_nat ex, p, _, 0, _, e_, rfl, s0, atI_nat (j := 0) rfl, rfl, true, sEqT, iteT ?_⟩
          match rg, gr, hr2 with
          | none, gr, _ => exact absurd gr.1 (by decide)
          | some (l, u), gr, hr2 =>
            refine ⟨_, rfl, _, rfl, _, rfl, b, _, (k : Int), _, rfl, rfl, .inl (.inl oBb), atI_nat ex, p, _, 2, _, e_, rfl, s0, atI_nat (j := 2) rfl, ?_⟩
            exact ⟨g, vr, l, u, n + 4 * j + 1, rfl, rsb, by omega, hr2, gr.2, fun o Gc so kc rsc => ⟨o, so, kc, rsc, rfl⟩⟩
        | .stp x y fa ad rg cs, dv, mr =>
          obtain ⟨p, vr, c, ys, e_, s0, hr2, s2, a2⟩ := stp_inv dv
          refine ⟨_, rfl, _, rfl, b, _, (k : Int), _, rfl, rfl, .inl (.inl oBb), atI_nat ex, p, _, 0, _, e_, rfl, s0, atI_nat (j := 0) rfl, rfl, false, (by decide +kernel), iteF ?_⟩
          exact ⟨none, sp_none, Kp.refl, rsb.mono (by omega), rfl⟩
      rintro σ Gc ⟨o, so, kc, rsc, rfl⟩
      have kac := kab.trans kc
      have k2 := kb.trans kc
      refine ⟨_, rfl, _, rfl, _, rfl, _, rfl, by show 2 ≤ sizeLine; decide, fun pm npm => ?_⟩
      have spm := Same.new (o := .tup [.int (k : Int), ov o]) npm
      have opm : upd Gc pm (.tup [.int (k : Int), ov o]) pm = some (.tup [.int (k : Int), ov o]) := upd_same
      generalize upd Gc pm (HO.tup ([.int (k : Int), ov o] : List V)) = Gd at spm opm
      have kad := kac.trans (.of spm)
      have oBd := kad _ _ bg ob
      have drd := dpa_kl (hrs.kl kad) dr (noL_rls rs)
      have oDd : DF Gd D ws (ovF f) := spm _ _ (k2 _ _ Dg oDa)
      refine ⟨b, D, .ref pm, rs, xs, ws, f, ((k : Int), o), 110, rfl, .inl (.inl oBd), drd, ok, oDd, .tup (.inl (.inl opm)) (.cons (.int _) (.cons (dp_ov o) .nil)), szf, by decide, fun Ge ke => ?_⟩
      have kae := kad.trans (.of ke)
      have rse := (rsc.same spm).same ke
      have k2e := (k2.trans (.of spm)).trans (.of ke)
      have oSe := k2e _ _ Sg oSa
      have oDe : DF Ge D ws (ovF f) := k2e _ _ Dg oDa
      have dme := dpa_kl (rsa.kl k2e) dma (noM ms)
      cases en : nextV rs f ((k : Int), o) with
      | none =>
        refine ⟨_, rfl, rfl, _, rfl, iteF ⟨zs, ms, f, _, _, _, _, rfl, kae, rse.mono (by omega), oSe, dme, oDe, pl, by omega, szm, szf⟩⟩
      | some v =>
        refine ⟨_, rfl, rfl, _, rfl, iteT ⟨_, rfl, _, rfl, _, _, rfl, rfl, ten31, _, _, rfl, rfl, _, _, rfl, rfl, _, rfl, ite2 (fun c => ?_) (fun c => ?_)⟩⟩
        · have c' : (if v < 0 then -v else v) < 10 ^ (31 : Int).toNat - 99 := of_decide_eq_true c
          have vb : v.natAbs < 2 ^ 110 := by
            have big : (10 : Int) ^ (31 : Int).toNat = 10000000000000000000000000000000 := by decide
            have b110 : (2 : Nat) ^ 110 = 1298074214633706907132624082305024 := by decide
            rw [big] at c'
            rw [b110]
            split at c' <;> omega
          refine ⟨_, rfl, ty_lst oSe, _, rfl, _, rfl, by show 2 ≤ sizeLine; decide, fun pt npt => ?_⟩
          have spt := Same.new (o := .tup [.int (k : Int), ov o]) npt
          have opt : upd Ge pt (.tup [.int (k : Int), ov o]) pt = some (.tup [.int (k : Int), ov o]) := upd_same
          generalize upd Ge pt (HO.tup ([.int (k : Int), ov o] : List V)) = Gf at spt opt
          have lz : zs.length = ms.length := by rw [dpa_len dma, List.length_map]
          refine ⟨S, _, _, rfl, rfl, spt _ _ oSe, Nat.lt_of_le_of_lt (by omega : zs.length ≤ 1000) (by decide), ?_⟩
          have kS : Kl S Gf (upd Gf S (.lst (zs ++ [.ref pt]))) := ⟨⟨_, spt _ _ oSe⟩, Kp.at⟩
          have oSg : upd Gf S (.lst (zs ++ [.ref pt])) S = some (.lst (zs ++ [.ref pt])) := upd_same
          generalize upd Gf S (HO.lst (zs ++ [V.ref pt])) = Gg at kS oSg
          have bS : b ≠ S := fun z => by rw [z, nS0] at ob; cases ob
          have oBg := kS.2 _ _ bS (spt _ _ (ke _ _ oBd))
          have kaf := kae.trans (.of spt)
          have drg := dpa_kl kS (dpa_kl (hrs.kl kaf) dr (noL_rls rs)) (noL_rls rs)
          obtain ⟨r', er', dv'⟩ := dpa_map_get drg ex
          obtain rfl : r' = r := Option.some.inj (er'.symm.trans er)
          obtain ⟨p, xr, e_, s0, e1⟩ : ∃ p xr, xs[k] = .ref p ∧ SqT K Gg p xr ∧ atI xr 1 = some (.str (xOf r')) := by
            match r', dv' with
            | .set x rg cs, dv' =>
              obtain ⟨p, vr, c, ys, e_, s0, _⟩ := set_inv dv'
              exact ⟨p, _, e_, s0, rfl⟩
            | .stp x y fa ad rg cs, dv' =>
              obtain ⟨p, vr, c, ys, e_, s0, _⟩ := stp_inv dv'
              exact ⟨p, _, e_, s0, rfl⟩
          have mx : xOf r' ∈ ws := by
            have := (gd _ mr).nm
            match r', this with
            | .set x rg cs, nm => exact nm x List.mem_cons_self
            | .stp x y fa ad rg cs, nm => exact nm x List.mem_cons_self
          have oDg : DF Gg D ws (ovF f) := kS.2 _ _ DS (spt _ _ oDe)
          have eg := go_at (f := f) (m := ((k : Int), o)) rfl er
          rw [en] at eg
          have dp := DF.put (v := ov (some v)) oDg mx lw
          have kD : Kp D Gg (upd Gg D (.dK (fK ws (put1 (ovF f) (xOf r') (ov (some v)))))) := Kp.at
          have oDh : DF (upd Gg D (.dK (fK ws (put1 (ovF f) (xOf r') (ov (some v)))))) D ws (ovF (goV rs f ((k : Int), o))) := by
            show upd Gg D _ D = _
            rw [upd_same, ovF_put, ← eg]
          refine ⟨_, rfl, _, rfl, _, rfl, _, rfl, b, _, (k : Int), _, rfl, rfl, .inl (.inl oBg), atI_nat ex, p, _, 1, _, e_, rfl, s0, e1, D, _, rfl, dp, ?_⟩
          generalize upd Gg D (HO.dK (fK ws (put1 (ovF f) (xOf r') (ov (some v))))) = Gh at kD oDh
          have dmh : DpAll K Gh (zs ++ [.ref pt]) ((ms ++ [((k : Int), o)]).map mvD) := by
            rw [List.map_append]
            refine dpa_app ?_ (dpa_one ?_)
            · exact dpa_kd kD oDg (dpa_kl kS (dpa_same spt dme) (noM ms)) (noM ms)
            · exact dp_kd kD oDg (dp_kl kS (.tup (.inl (.inl opt)) (.cons (.int _) (.cons (dp_ov o) .nil))) (noL_mv _)) (noL_mv _)
          have rsh : RS (n + 4 * j + 3) Gh g := by
            obtain ⟨d, sd, tt, e, rest⟩ := (rse.same spt).ok
            exact ⟨d, sd, tt, kD _ _ (Ne.symm Dg) (kS.2 _ _ (Ne.symm Sg) e), rest⟩
          have kah : Kp g H Gh := fun c o hc e => by
            have cS : c ≠ S := ne_of_none e nS0
            have cD : c ≠ D := ne_of_none e nD0
            exact kD _ _ cD (kS.2 _ _ cS (kaf _ _ hc e))
          have pl2 : playV rs noV (ms ++ [((k : Int), o)]) = some (goV rs f ((k : Int), o)) := by
            rw [play_app pl]
            have : (nextV rs f ((k : Int), o)).isSome = true := by rw [en]; rfl
            rw [play_cons this]
            rfl
          refine ⟨_, ms ++ [((k : Int), o)], goV rs f ((k : Int), o), _, _, _, _, rfl, kah, rsh.mono (by omega), kD _ _ (Ne.symm DS) oSg, dmh, oDh, pl2, by rw [List.length_append]; show ms.length + 1 ≤ j + 1; omega, fun z mz => ?_, fun z i ei => ?_⟩
          · rcases List.mem_append.mp mz with mz | mz
            · exact szm z mz
            · obtain rfl := List.mem_singleton.mp mz
              exact so
          · rw [eg] at ei
            unfold put1 at ei
            by_cases cz : z = xOf r'
            · rw [if_pos cz] at ei
              cases ei
              exact vb
            · rw [if_neg cz] at ei
              exact szf z i ei
        · exact ⟨zs, ms, f, _, _, _, _, rfl, kae, rse.mono (by omega), oSe, dme, oDe, pl, by omega, szm, szf⟩
    · rintro σ Ga ⟨zs, ms, f, y6, y7, y8, y9, rfl, ka, rsa, oSa, dma, oDa, pl, lm, szm, szf⟩
      refine ⟨_, rfl, _, rfl, by show 2 ≤ sizeLine; decide, fun t nt => ?_⟩
      have st := Same.new (o := .tup [.ref S, .ref D]) nt
      have lm2 : ms.length ≤ 200 := by omega
      exact q t S D zs ms f _ (ka.trans (.of st)) ((rsa.same st).mono (by omega)) nS0 nD0 upd_same (st _ _ oSa) (dpa_same st dma) (st _ _ oDa) pl lm2 szm szf
end

end Pk36
namespace Pk36
open PySem PySem.Spec PyProof.Rows L2 Gd
section
variable {P : Program} {w : World} {K : PySem.W.Frag} {mg : Str → Option Value} {base : Heap}
set_option maxHeartbeats 8000000 in
-- RangeError.__init__: level 1; builtins []; cells []; slots: 0 self, 1 value
theorem ok_RangeError___init__ {fI : Addr} (h : AtI K fI "RangeError.__init__" s_RangeError___init__ ["self", "value"]) : DnI P w K mg base 1 fI "RangeError.__init__" s_RangeError___init__ ["self", "value"] (spIni K) := by
  refine .mk' h fun f fd F => F.ok sc_RangeError___init__ (fun vs H Q E h => ?_) (fun cdv A outer s H vs Q E hr h => ?_)
  · obtain ⟨a, c, v, rfl, ox, nv, ea, q⟩ := h
    rfl
  · obtain ⟨a, c, v, rfl, ox, nv, ea, q⟩ := h
    refine ⟨_, (pss_one (ps_ost (pv 0) (pv 1) rfl)), ?_⟩
    exact ⟨_, rfl, _, rfl, a, c, rfl, ox, nv, .inl ⟨ea, fun dx n ne => q dx n ne⟩⟩
end

end Pk36
namespace Pk36
open PySem PySem.Spec PyProof.Rows L2 Gd
section
variable {P : Program} {w : World} {K : PySem.W.Frag} {mg : Str → Option Value} {base : Heap}
set_option maxHeartbeats 8000000 in
-- is_run: level 8; builtins []; cells []; slots: 0 system, 1 moves
theorem ok_is_run {C : Addr} (T : SysT K mg C) {c0 c1 c2 c3 c4 c5 c6 c7 c8 c9 fI : Addr} (X : ErrT K mg [c0, c1, c2, c3, c4, c5, c6, c7, c8, c9] ["RangeError", "InvalidRange", "InvalidName", "InvalidSystem", "InvalidRule", "UnknownName", "InvalidNumber", "InvalidMove", "NothingToUndo", "Unreadable"] fI) (h : At K mg "is_run" s_is_run ["system", "moves"]) (D_values_behind : DnN P w K mg base 7 "values_behind" s_values_behind ["system", "moves"] (sp_values_behind K C [c0, c1, c2, c3, c4, c5, c6, c7, c8, c9])) : Dn P w K mg base 8 "is_run" s_is_run ["system", "moves"] (sp_is_run K C [c0, c1, c2, c3, c4, c5, c6, c7, c8, c9]) := by
  refine .mk' h fun f fd F => F.ok sc_is_run (fun vs H Q E h => ?_) (fun cdv A outer s H vs Q E hr h => ?_)
  · obtain ⟨a, p, b, m, ns, rs, zs, ms, rfl, sy, ok, nd, hm, dm, lm, sz, q⟩ := h
    rfl
  · obtain ⟨a, p, b, m, ns, rs, zs, ms, rfl, sy, ok, nd, hm, dm, lm, sz, q⟩ := h
    refine ⟨_, (pss_cons (L2N.ps_try_many rfl rfl takes0N (fun W pn xe tk own =>
        (pss_one (ps_expr (pe_cN tk D_values_behind hr (by rfl) (pa_cons (pv 0) (pa_cons (pv 1) pa_nil)))))) (.cons ⟨rfl, by decide, .inl (X.t 7 _ _ rfl rfl).mg_⟩ (fun a oe cls d pn zn fl =>
        (pss_one (ps_ret pe_bl))) .nil))
      (pss_one (ps_ret pe_bl))), ?_⟩
    have xm := exm_same (i := 7) X rfl (by decide)
    refine ⟨_, rfl, _, rfl, a, p, b, m, ns, rs, zs, ms, rfl, sy, ok, nd, hm, dm, lm, sz, fun f pl d H' k n o => ?_, fun i bad => ⟨c7, rfl, fun d H1 k1 nd ed => ⟨true, xm, fun _ a na => ?_, fun q => nomatch q⟩⟩⟩
    · rw [pl] at q
      exact q _ k
    · rw [bad_none bad] at q
      exact q _ k1
end

end Pk36
namespace Pk36
open PySem PySem.Spec PyProof.Rows L2 Gd
section
variable {P : Program} {w : World} {K : PySem.W.Frag} {mg : Str → Option Value} {base : Heap}
set_option maxHeartbeats 8000000 in
-- _law_bent: level 2; builtins ['len']; cells []; slots: 0 rng, 1 rows, 2 some, 3 spot, 4 number, 5 value_here, 6 odd, 7 way
theorem ok__law_bent (h : At K mg "_law_bent" s__law_bent ["rng", "rows", "some"]) (D__law_draw : Dn P w K mg base 1 "_law_draw" s__law_draw ["rng", "limit"] (sp__law_draw K)) (m_len : mg "len" = none) : Dn P w K mg base 2 "_law_bent" s__law_bent ["rng", "rows", "some"] (sp__law_bent K) := by
  refine .mk' h fun f fd F => F.ok sc__law_bent (fun vs H Q E h => ?_) (fun cdv A outer s H vs Q E hr h => ?_)
  · obtain ⟨g, b, m, n, xs, zs, ms, rfl, rs, hn, bg, mg_, ob, lxs, om, dm, lm, sz, q⟩ := h
    rfl
  · obtain ⟨g, b, m, n, xs, zs, ms, rfl, rs, hn, bg, mg_, ob, lxs, om, dm, lm, sz, q⟩ := h
    refine ⟨_, (pss_cons (ps_if (pt_cmpR (op_eqD hr.units) (pv 2) (pe_lst pa_nil) (nomark _))
        (pss_one (ps_ret (pe_lst (pa_cons (pe_tup (pa_cons pe_int (pa_cons pe_non pa_nil))) pa_nil))))
        pss_nil)
      (pss_cons (ps_set (i := 3) sc__law_bent.nd rfl (.inl rfl) (pe_c D__law_draw hr (by rfl) (pa_cons (pv 0) (pa_cons (pe_callB call_len_seq (by rfl) m_len PySem.boot_len (pa_cons (pv 2) pa_nil)) pa_nil))))
      (pss_cons (ps_asg (pe_ix ix_list (pv 2) (pv 3) (fun _ _ => rfl)) (pg_tup (by rfl) (pgs_cons (pg_name (i := 4) sc__law_bent.nd rfl (.inl rfl)) (pgs_cons (pg_name (i := 5) sc__law_bent.nd rfl (.inl rfl)) pgs_nil))))
      (pss_cons (ps_set (i := 6) sc__law_bent.nd rfl (.inl rfl) (pe_lst (pa_cons (pe_tup (pa_cons (pv 4) (pa_cons pe_non pa_nil))) (pa_cons (pe_tup (pa_cons (pv 4) (pa_cons pe_int pa_nil))) (pa_cons (pe_tup (pa_cons (pe_op op_add (pv 4) pe_int) (pa_cons (pv 5) pa_nil))) (pa_cons (pe_tup (pa_cons (pe_un un_neg pe_int) (pa_cons (pv 5) pa_nil))) (pa_cons (pe_tup (pa_cons (pe_callB call_len_seq (by rfl) m_len PySem.boot_len (pa_cons (pv 1) pa_nil)) (pa_cons pe_int pa_nil))) (pa_cons (pe_tup (pa_cons (pv 4) (pa_cons (pe_op op_powW pe_int pe_int) pa_nil))) pa_nil))))))))
      (pss_cons (ps_set (i := 7) sc__law_bent.nd rfl (.inl rfl) (pe_c D__law_draw hr (by rfl) (pa_cons (pv 0) (pa_cons pe_int pa_nil))))
      (pss_cons (ps_if (pt_cmpR op_lt (pv 7) pe_int (nomark _))
        (pss_one (ps_ret (pe_op op_cat (pe_op op_cat (pe_slice sl_list (pv 2) po_none (po_some (pv 3))) (pe_lst (pa_cons (pe_ix ix_list (pv 6) (pv 7) (fun _ _ => rfl)) pa_nil))) (pe_slice sl_list (pv 2) (po_some (pe_op op_add (pv 3) pe_int)) po_none))))
        pss_nil)
      (pss_one (ps_ret (pe_ifExp (pt_cmpR op_eq (pv 7) pe_int (nomark _)) (pe_op op_cat (pe_slice sl_list (pv 2) po_none (po_some (pv 3))) (pe_slice sl_list (pv 2) (po_some (pe_op op_add (pv 3) pe_int)) po_none)) (pe_op op_cat (pe_op op_cat (pe_slice sl_list (pv 2) po_none (po_some (pv 3))) (pe_lst (pa_cons (pe_ix ix_list (pv 2) (pe_un un_neg pe_int) (fun _ _ => rfl)) pa_nil))) (pe_slice sl_list (pv 2) (po_some (pv 3)) po_none))))))))))), ?_⟩
    have p200 : (2 : Nat) ^ 200 = 1606938044258990275541962092341162602522202993782792835301376 := by decide
    have lz : zs.length = ms.length := by rw [dpa_len dm, List.length_map]
    have lym := ly_mvs ms
    refine ⟨_, rfl, by show 0 ≤ sizeLine; decide, fun L0 nL0 => ?_⟩
    have sL0 := Same.new (o := .lst []) nL0
    have oL0 : upd H L0 (.lst []) L0 = some (.lst []) := upd_same
    generalize upd H L0 (HO.lst ([] : List V)) = Ha at sL0 oL0
    refine ⟨_, .list [], .lst (.inl (.inl (sL0 _ _ om))) (dpa_same sL0 dm), .lst (.inl (.inl oL0)) .nil, lym.shaped, rfl, ms.isEmpty, ?_, ?_⟩
    · rw [eqv_nilR]
    cases ms with
    | nil =>
      refine iteT ?_
      refine ⟨by show 2 ≤ sizeLine; decide, fun p1 np1 => ?_⟩
      have sp1 := Same.new (o := .tup [.int 0, .non]) np1
      have op1 : upd Ha p1 (.tup [.int 0, .non]) p1 = some (.tup [.int 0, .non]) := upd_same
      generalize upd Ha p1 (HO.tup ([.int 0, .non] : List V)) = Hb at sp1 op1
      refine ⟨by show 1 ≤ sizeLine; decide, fun p np => ?_⟩
      have sp := Same.new (o := .lst [.ref p1]) np
      have k := (sL0.trans sp1).trans sp
      exact q p _ [(0, none)] _ (.of k) ((rs.same k).mono (by omega)) ((sL0.trans sp1).free np) upd_same (.cons (.tup (.inl (.inl (sp _ _ op1))) (.cons (.int _) (.cons .non .nil))) .nil) (by decide) (fun x mx i e => by
        obtain rfl := List.mem_singleton.mp mx
        cases e)
    | cons m0 mt =>
    refine iteF ?_
    generalize hms : m0 :: mt = ms at *
    have lpos : 0 < ms.length := by rw [← hms]; exact Nat.succ_pos _
    have omA := sL0 _ _ om
    have obA := sL0 _ _ ob
    refine ⟨_, rfl, _, rfl, m, _, rfl, .inl (.inl (.inl omA)), g, _, n, rfl, rs.same sL0, by omega, by omega, by rw [p200]; omega, fun d H1 d0 d1 k1 rs1 => ?_⟩
    obtain ⟨k, rfl⟩ := Int.eq_ofNat_of_zero_le d0
    have lk : k < zs.length := by omega
    have ez : zs[k]? = some zs[k] := List.getElem?_eq_getElem lk
    have k01 : Kp g H H1 := (Kp.of sL0).trans k1
    have om1 := k01 _ _ mg_ om
    have ob1 := k01 _ _ bg ob
    have dm1 := dpa_kl (rs.kl k01) dm (noL_mvs ms)
    obtain ⟨mv, em, dv⟩ := dpa_map_get dm1 ez
    obtain ⟨pm, epm, spm⟩ := mv_inv dv
    have szmv := sz mv (List.mem_of_getElem? em)
    refine ⟨_, rfl, _, rfl, m, _, (k : Int), _, rfl, rfl, .inl (.inl om1), atI_nat ez, pm, _, epm, spm, rfl, _, _, rfl, _, _, rfl, rfl, ?_⟩
    refine ⟨_, rfl, by show 2 ≤ sizeLine; decide, fun p1 np1 => ?_⟩
    have sp1 := Same.new (o := .tup [.int mv.1, .non]) np1
    have op1 : upd H1 p1 (.tup [.int mv.1, .non]) p1 = some (.tup [.int mv.1, .non]) := upd_same
    generalize upd H1 p1 (HO.tup ([.int mv.1, .non] : List V)) = Ha1 at sp1 op1
    refine ⟨_, rfl, by show 2 ≤ sizeLine; decide, fun p2 np2 => ?_⟩
    have sp2 := Same.new (o := .tup [.int mv.1, .int 0]) np2
    have op2 : upd Ha1 p2 (.tup [.int mv.1, .int 0]) p2 = some (.tup [.int mv.1, .int 0]) := upd_same
    generalize upd Ha1 p2 (HO.tup ([.int mv.1, .int 0] : List V)) = Ha2 at sp2 op2
    refine ⟨_, rfl, _, _, rfl, rfl, _, rfl, by show 2 ≤ sizeLine; decide, fun p3 np3 => ?_⟩
    have sp3 := Same.new (o := .tup [.int (mv.1 + 1), ov mv.2]) np3
    have op3 : upd Ha2 p3 (.tup [.int (mv.1 + 1), ov mv.2]) p3 = some (.tup [.int (mv.1 + 1), ov mv.2]) := upd_same
    generalize upd Ha2 p3 (HO.tup ([.int (mv.1 + 1), ov mv.2] : List V)) = Ha3 at sp3 op3
    refine ⟨_, rfl, _, rfl, by show 2 ≤ sizeLine; decide, fun p4 np4 => ?_⟩
    have sp4 := Same.new (o := .tup [.int (-1), ov mv.2]) np4
    have op4 : upd Ha3 p4 (.tup [.int (-1), ov mv.2]) p4 = some (.tup [.int (-1), ov mv.2]) := upd_same
    generalize upd Ha3 p4 (HO.tup ([.int (-1), ov mv.2] : List V)) = Ha4 at sp4 op4
    have t4 := ((sp1.trans sp2).trans sp3).trans sp4
    refine ⟨_, rfl, b, _, rfl, .inl (.inl (.inl (t4 _ _ ob1))), by show 2 ≤ sizeLine; decide, fun p5 np5 => ?_⟩
    have sp5 := Same.new (o := .tup [.int (xs.length : Nat), .int 0]) np5
    have op5 : upd Ha4 p5 (.tup [.int (xs.length : Nat), .int 0]) p5 = some (.tup [.int (xs.length : Nat), .int 0]) := upd_same
    generalize upd Ha4 p5 (HO.tup ([.int (xs.length : Nat), .int 0] : List V)) = Ha5 at sp5 op5
    refine ⟨_, rfl, _, _, rfl, rfl, ten31, by show 2 ≤ sizeLine; decide, fun p6 np6 => ?_⟩
    have sp6 := Same.new (o := .tup [.int mv.1, .int ((10 : Int) ^ (31 : Int).toNat)]) np6
    have op6 : upd Ha5 p6 (.tup [.int mv.1, .int ((10 : Int) ^ (31 : Int).toNat)]) p6 = some (.tup [.int mv.1, .int ((10 : Int) ^ (31 : Int).toNat)]) := upd_same
    generalize upd Ha5 p6 (HO.tup ([.int mv.1, .int ((10 : Int) ^ (31 : Int).toNat)] : List V)) = Ha6 at sp6 op6
    refine ⟨by show 6 ≤ sizeLine; decide, fun L nL => ?_⟩
    have sL := Same.new (o := .lst [.ref p1, .ref p2, .ref p3, .ref p4, .ref p5, .ref p6]) nL
    have oL : upd Ha6 L (.lst [.ref p1, .ref p2, .ref p3, .ref p4, .ref p5, .ref p6]) L = some (.lst [.ref p1, .ref p2, .ref p3, .ref p4, .ref p5, .ref p6]) := upd_same
    generalize upd Ha6 L (HO.lst ([.ref p1, .ref p2, .ref p3, .ref p4, .ref p5, .ref p6] : List V)) = H2 at sL oL
    have k12 := ((t4.trans sp5).trans sp6).trans sL
    have Lg : L ≠ g := (rs1.same ((t4.trans sp5).trans sp6)).fresh nL
    have six : ∀ v ∈ [V.ref p1, .ref p2, .ref p3, .ref p4, .ref p5, .ref p6], ∃ mo, Dp K H2 v (mvD mo) ∧ SzM mo := fun v mm => by
      have fin := sL
      simp only [List.mem_cons, List.not_mem_nil, or_false] at mm
      rcases mm with rfl | rfl | rfl | rfl | rfl | rfl
      · exact ⟨(mv.1, none), .tup (.inl (.inl (sL _ _ (sp6 _ _ (sp5 _ _ (sp4 _ _ (sp3 _ _ (sp2 _ _ op1)))))))) (.cons (.int _) (.cons .non .nil)), fun i e => by cases e⟩
      · exact ⟨(mv.1, some 0), .tup (.inl (.inl (sL _ _ (sp6 _ _ (sp5 _ _ (sp4 _ _ (sp3 _ _ op2))))))) (.cons (.int _) (.cons (.int _) .nil)), fun i e => by cases e; decide⟩
      · exact ⟨(mv.1 + 1, mv.2), .tup (.inl (.inl (sL _ _ (sp6 _ _ (sp5 _ _ (sp4 _ _ op3)))))) (.cons (.int _) (.cons (dp_ov _) .nil)), szmv⟩
      · exact ⟨(-1, mv.2), .tup (.inl (.inl (sL _ _ (sp6 _ _ (sp5 _ _ op4))))) (.cons (.int _) (.cons (dp_ov _) .nil)), szmv⟩
      · exact ⟨((xs.length : Nat), some 0), .tup (.inl (.inl (sL _ _ (sp6 _ _ op5)))) (.cons (.int _) (.cons (.int _) .nil)), fun i e => by cases e; decide⟩
      · exact ⟨(mv.1, some ((10 : Int) ^ (31 : Int).toNat)), .tup (.inl (.inl (sL _ _ op6))) (.cons (.int _) (.cons (.int _) .nil)), fun i e => by cases e; decide⟩
    have k02 : Kp g H H2 := k01.trans (.of k12)
    have rs2 := rs1.same k12
    clear sp1 sp2 sp3 sp4 sp5 sp6 op1 op2 op3 op4 op5 op6 t4 np1 np2 np3 np4 np5 np6 nL sL
    refine ⟨_, rfl, g, 8, n + 1, rfl, rs2, by omega, by decide, by decide, fun way H3 w0 w1 k3 rs3 => ?_⟩
    have k03 := k02.trans k3
    have om3 := k03 _ _ mg_ om
    have dm3 := dpa_kl (rs.kl k03) dm (noL_mvs ms)
    have oL3 := k3 _ _ Lg oL
    have tk : ∀ {G : Hp}, Same H3 G → DpAll K G (zs.take k) ((ms.take k).map mvD) := fun s => by
      rw [List.map_take]
      exact dpa_take k (dpa_same s dm3)
    have dr : ∀ {G : Hp} (j : Nat), Same H3 G → DpAll K G (zs.drop j) ((ms.drop j).map mvD) := fun j s => by
      rw [List.map_drop]
      exact dpa_drop j (dpa_same s dm3)
    have fin : ∀ (p : Addr) (zs' : List V) (ms' : List Mv) (G : Hp), Same H3 G → H3 p = none → G p = some (.lst zs') → DpAll K G zs' (ms'.map mvD) → ms'.length ≤ ms.length + 1 → (∀ x ∈ ms', SzM x) → Q (.ref p) G := fun p zs' ms' G s np o d l h =>
      q p zs' ms' G (k03.trans (.of s)) (rs3.same s) (by
        cases e : H p with
        | none => rfl
        | some o' => rw [k03 _ _ (rs3.fresh np) e] at np; cases np) o d l h
    refine ⟨_, rfl, _, _, rfl, rfl, _, rfl, ite2 (fun c => ?_) (fun _ => ?_)⟩
    · have c' : way < 6 := of_decide_eq_true c
      obtain ⟨v, ev, mv6⟩ := pick_mem (xs := [V.ref p1, .ref p2, .ref p3, .ref p4, .ref p5, .ref p6]) w0 c'
      obtain ⟨mo, dmo, szo⟩ := six v mv6
      have dmo := dp_kl (rs2.kl k3) dmo (noL_mv mo)
      refine ⟨_, rfl, _, rfl, _, rfl, slL (.inl (.inl om3)) fun b1 G1 k1' n1 o1 => ?_⟩
      rw [cutV_take] at o1
      refine ⟨_, rfl, _, rfl, L, _, way, _, rfl, rfl, .inl (.inl (k1' _ _ oL3)), ev, by show 1 ≤ sizeLine; decide, fun b2 nb2 => ?_⟩
      have sb2 := Same.new (o := .lst [v]) nb2
      have ob2 : upd G1 b2 (.lst [v]) b2 = some (.lst [v]) := upd_same
      generalize upd G1 b2 (HO.lst ([v] : List V)) = G2 at sb2 ob2
      refine catL (sb2 _ _ o1) ob2 (by rw [List.length_take]; show min k zs.length + 1 ≤ 100000; omega) fun b3 G3 k3' n3 o3 => ?_
      have s3 := (k1'.trans sb2).trans k3'
      refine ⟨_, rfl, _, rfl, _, _, rfl, rfl, _, rfl, slLn (.inl (.inl (s3 _ _ om3))) fun b4 G4 k4 n4 o4 => ?_⟩
      rw [show cutV zs (some ((k : Int) + 1)) none = zs.drop (k + 1) from cutV_drop zs (k + 1)] at o4
      refine catL (k4 _ _ o3) o4 (by rw [List.length_append, List.length_take, List.length_drop]; show min k zs.length + 1 + _ ≤ 100000; omega) fun b5 G5 k5 n5 o5 => ?_
      have s5 := (s3.trans k4).trans k5
      refine fin b5 _ (ms.take k ++ [mo] ++ ms.drop (k + 1)) G5 s5 ((s3.trans k4).free n5) o5 ?_ ?_ fun x mx => ?_
      · rw [List.map_append, List.map_append]
        exact dpa_app (dpa_app (tk s5) (dpa_one (dp_same s5 dmo))) (dr (k + 1) s5)
      · rw [List.length_append, List.length_append, List.length_take, List.length_drop]
        show min k ms.length + 1 + _ ≤ _
        omega
      · rcases List.mem_append.mp mx with mx | mx
        · rcases List.mem_append.mp mx with mx | mx
          · exact sz x (List.mem_of_mem_take mx)
          · obtain rfl := List.mem_singleton.mp mx
            exact szo
        · exact sz x (List.mem_of_mem_drop mx)
    · refine ⟨_, rfl, rfl, _, rfl, ite2 (fun _ => ?_) (fun _ => ?_)⟩
      · refine ⟨_, rfl, _, rfl, _, rfl, slL (.inl (.inl om3)) fun b1 G1 k1' n1 o1 => ?_⟩
        rw [cutV_take] at o1
        refine ⟨_, rfl, _, rfl, _, _, rfl, rfl, _, rfl, slLn (.inl (.inl (k1' _ _ om3))) fun b4 G4 k4 n4 o4 => ?_⟩
        rw [show cutV zs (some ((k : Int) + 1)) none = zs.drop (k + 1) from cutV_drop zs (k + 1)] at o4
        refine catL (k4 _ _ o1) o4 (by rw [List.length_take, List.length_drop]; omega) fun b5 G5 k5 n5 o5 => ?_
        have s5 := (k1'.trans k4).trans k5
        refine fin b5 _ (ms.take k ++ ms.drop (k + 1)) G5 s5 ((k1'.trans k4).free n5) o5 ?_ ?_ fun x mx => ?_
        · rw [List.map_append]
          exact dpa_app (tk s5) (dr (k + 1) s5)
        · rw [List.length_append, List.length_take, List.length_drop]
          omega
        · rcases List.mem_append.mp mx with mx | mx
          · exact sz x (List.mem_of_mem_take mx)
          · exact sz x (List.mem_of_mem_drop mx)
      · refine ⟨_, rfl, _, rfl, _, rfl, slL (.inl (.inl om3)) fun b1 G1 k1' n1 o1 => ?_⟩
        rw [cutV_take] at o1
        obtain ⟨vl, el, e2l⟩ := at_last (xs := zs) (by omega)
        obtain ⟨ml, eml, dml⟩ := dpa_map_get dm3 e2l
        refine ⟨_, rfl, _, rfl, m, _, -1, _, rfl, rfl, .inl (.inl (k1' _ _ om3)), el, by show 1 ≤ sizeLine; decide, fun b2 nb2 => ?_⟩
        have sb2 := Same.new (o := .lst [vl]) nb2
        have ob2 : upd G1 b2 (.lst [vl]) b2 = some (.lst [vl]) := upd_same
        generalize upd G1 b2 (HO.lst ([vl] : List V)) = G2 at sb2 ob2
        refine catL (sb2 _ _ o1) ob2 (by rw [List.length_take]; show min k zs.length + 1 ≤ 100000; omega) fun b3 G3 k3' n3 o3 => ?_
        have s3 := (k1'.trans sb2).trans k3'
        refine ⟨_, rfl, _, rfl, _, rfl, slLn (.inl (.inl (s3 _ _ om3))) fun b4 G4 k4 n4 o4 => ?_⟩
        rw [cutV_drop] at o4
        refine catL (k4 _ _ o3) o4 (by rw [List.length_append, List.length_take, List.length_drop]; show min k zs.length + 1 + _ ≤ 100000; omega) fun b5 G5 k5 n5 o5 => ?_
        have s5 := (s3.trans k4).trans k5
        refine fin b5 _ (ms.take k ++ [ml] ++ ms.drop k) G5 s5 ((s3.trans k4).free n5) o5 ?_ ?_ fun x mx => ?_
        · rw [List.map_append, List.map_append]
          exact dpa_app (dpa_app (tk s5) (dpa_one (dp_same s5 dml))) (dr k s5)
        · rw [List.length_append, List.length_append, List.length_take, List.length_drop]
          show min k ms.length + 1 + _ ≤ _
          omega
        · rcases List.mem_append.mp mx with mx | mx
          · rcases List.mem_append.mp mx with mx | mx
            · exact sz x (List.mem_of_mem_take mx)
            · obtain rfl := List.mem_singleton.mp mx
              exact sz x (List.mem_of_getElem? eml)
          · exact sz x (List.mem_of_mem_drop mx)
end

end Pk36
namespace Pk36
open PySem PySem.Spec PyProof.Rows L2 Gd
section
variable {P : Program} {w : World} {K : PySem.W.Frag} {mg : Str → Option Value} {base : Heap}
set_option maxHeartbeats 8000000 in
-- _law_caught: level 1; builtins ['ValueError', 'isinstance', 'len']; cells []; slots: 0 e, 1 some, 2 words, 3 word, 4 so
theorem ok__law_caught {c0 c1 c2 c3 c4 c5 c6 c7 c8 c9 fI : Addr} (X : ErrT K mg [c0, c1, c2, c3, c4, c5, c6, c7, c8, c9] ["RangeError", "InvalidRange", "InvalidName", "InvalidSystem", "InvalidRule", "UnknownName", "InvalidNumber", "InvalidMove", "NothingToUndo", "Unreadable"] fI) (h : At K mg "_law_caught" s__law_caught ["e"]) (m_ValueError : mg "ValueError" = none) (m_isinstance : mg "isinstance" = none) (m_len : mg "len" = none) : DnE P w K mg base 1 "_law_caught" s__law_caught ["e"] (sp__law_caught K [c0, c1, c2, c3, c4, c5, c6, c7, c8, c9]) := by
  refine .mk' h fun f fd F => okE F sc__law_caught (fun a cls d vs H Q E h => ?_) (fun cdv A outer s H vs Q E p hot hr h => ?_)
  · obtain ⟨i, c, dd, v, rfl, hc, hd, i1, i9, ec, hv, q⟩ := h
    rfl
  · obtain ⟨i, c, dd, v, rfl, hc, hd, i1, i9, ec, hv, q⟩ := h
    refine ⟨_, (pss_cons (ps_set (i := 1) sc__law_caught.nd rfl (.inl rfl) (pe_lst (pa_cons (pe_tup (pa_cons pe_str (pa_cons (pe_callB (call_isXP List.mem_cons_self hot X.all) (by rfl) m_isinstance (by decide +kernel) (pa_cons (pv 0) (pa_cons (pe_glob (v := .ref c1) rfl (X.t 1 _ _ rfl rfl).mg_ rfl) pa_nil))) pa_nil))) (pa_cons (pe_tup (pa_cons pe_str (pa_cons (pe_callB (call_isXP List.mem_cons_self hot X.all) (by rfl) m_isinstance (by decide +kernel) (pa_cons (pv 0) (pa_cons (pe_glob (v := .ref c2) rfl (X.t 2 _ _ rfl rfl).mg_ rfl) pa_nil))) pa_nil))) pa_nil))))
      (pss_cons (ps_set (i := 1) sc__law_caught.nd rfl (.inl rfl) (pe_op op_cat (pv 1) (pe_lst (pa_cons (pe_tup (pa_cons pe_str (pa_cons (pe_callB (call_isXP List.mem_cons_self hot X.all) (by rfl) m_isinstance (by decide +kernel) (pa_cons (pv 0) (pa_cons (pe_glob (v := .ref c3) rfl (X.t 3 _ _ rfl rfl).mg_ rfl) pa_nil))) pa_nil))) (pa_cons (pe_tup (pa_cons pe_str (pa_cons (pe_callB (call_isXP List.mem_cons_self hot X.all) (by rfl) m_isinstance (by decide +kernel) (pa_cons (pv 0) (pa_cons (pe_glob (v := .ref c4) rfl (X.t 4 _ _ rfl rfl).mg_ rfl) pa_nil))) pa_nil))) pa_nil)))))
      (pss_cons (ps_set (i := 1) sc__law_caught.nd rfl (.inl rfl) (pe_op op_cat (pv 1) (pe_lst (pa_cons (pe_tup (pa_cons pe_str (pa_cons (pe_callB (call_isXP List.mem_cons_self hot X.all) (by rfl) m_isinstance (by decide +kernel) (pa_cons (pv 0) (pa_cons (pe_glob (v := .ref c5) rfl (X.t 5 _ _ rfl rfl).mg_ rfl) pa_nil))) pa_nil))) (pa_cons (pe_tup (pa_cons pe_str (pa_cons (pe_callB (call_isXP List.mem_cons_self hot X.all) (by rfl) m_isinstance (by decide +kernel) (pa_cons (pv 0) (pa_cons (pe_glob (v := .ref c7) rfl (X.t 7 _ _ rfl rfl).mg_ rfl) pa_nil))) pa_nil))) pa_nil)))))
      (pss_cons (ps_set (i := 1) sc__law_caught.nd rfl (.inl rfl) (pe_op op_cat (pv 1) (pe_lst (pa_cons (pe_tup (pa_cons pe_str (pa_cons (pe_callB (call_isXP List.mem_cons_self hot X.all) (by rfl) m_isinstance (by decide +kernel) (pa_cons (pv 0) (pa_cons (pe_glob (v := .ref c8) rfl (X.t 8 _ _ rfl rfl).mg_ rfl) pa_nil))) pa_nil))) (pa_cons (pe_tup (pa_cons pe_str (pa_cons (pe_callB (call_isXP List.mem_cons_self hot X.all) (by rfl) m_isinstance (by decide +kernel) (pa_cons (pv 0) (pa_cons (pe_glob (v := .ref c9) rfl (X.t 9 _ _ rfl rfl).mg_ rfl) pa_nil))) pa_nil))) pa_nil)))))
      (pss_cons (ps_set (i := 1) sc__law_caught.nd rfl (.inl rfl) (pe_op op_cat (pv 1) (pe_lst (pa_cons (pe_tup (pa_cons pe_str (pa_cons (pe_callB (call_isXP List.mem_cons_self hot X.all) (by rfl) m_isinstance (by decide +kernel) (pa_cons (pv 0) (pa_cons (pe_glob (v := .ref c6) rfl (X.t 6 _ _ rfl rfl).mg_ rfl) pa_nil))) pa_nil))) pa_nil))))
      (pss_cons (ps_setLcH (i := 2) (own := [("word", 3), ("so", 4)]) (g := (gTup K 2 (gCons (gName 3) (gCons (gName 4) gNil)))) hot List.mem_cons_self sc__law_caught.nd rfl rfl (sw_true rfl rfl rfl (by decide +kernel)) (pv 1) (blkOk_by (N := ["e", "some", "words", "word", "so"]) (sc := defScope s__law_caught) (by decide +kernel)) (fun _ _ _ _ _ hb => (pg_tupH hb (pgs_cons (pg_name (i := 3) sc__law_caught.nd rfl (.inl rfl)) (pgs_cons (pg_name (i := 4) sc__law_caught.nd rfl (.inl rfl)) pgs_nil)))) (fun _ _ _ _ _ => pts_one (pt_val (pv 4))) (fun _ _ _ _ _ => (pv 3)))
      (pss_one (ps_ret (pe_ifExp (PW.pt (pw_and (pt_cmpR op_eq (pe_callB call_len_seq (by rfl) m_len PySem.boot_len (pa_cons (pv 2) pa_nil)) pe_int (nomark _)) (pw_and1 (pt_val (pe_callB (call_isXP List.mem_cons_self hot X.all) (by rfl) m_isinstance (by decide +kernel) (pa_cons (pv 0) (pa_cons (pe_bltn (v := .ty "ValueError") (u := .type "ValueError") (by rfl) m_ValueError (by decide +kernel) rfl) pa_nil))))))) (pe_tup (pa_cons (pe_ix ix_list (pv 2) pe_int (fun _ _ => rfl)) (pa_cons (pe_valP List.mem_cons_self hot X.all (pv 0)) pa_nil))) pe_str))))))))), ?_⟩
    have ep : ErrP H p c v := ⟨dd, hc, hd, hv⟩
    have mc : c ∈ [c0, c1, c2, c3, c4, c5, c6, c7, c8, c9] := List.mem_of_getElem? ec
    have kP : ∀ (j : Nat) D, 1 ≤ j → [c0, c1, c2, c3, c4, c5, c6, c7, c8, c9][j]? = some D → PySem.W.kitOne K (.ref c) (.ref D) = some (decide (i = j)) := fun j D j1 eD => by
      rw [X.sub i j _ _ ec eD]
      exact congrArg some (decide_eq_decide.mpr ⟨fun z => z.elim id (fun q => absurd q (by omega)), .inl⟩)
    have k0 : Same H H := Same.refl H
    refine ⟨_, rfl, c, v, _, _, _, rfl, mc, ep.same k0, fun u hu => hu, kP 1 _ (by decide) rfl, by show 2 ≤ sizeLine; decide, fun t1 n1 => ?_⟩
    have s1 := Same.new (o := .tup [.str "range", .bl (decide (i = 1))]) n1
    have o1 : upd H t1 (.tup [.str "range", .bl (decide (i = 1))]) t1 = some (.tup [.str "range", .bl (decide (i = 1))]) := upd_same
    generalize upd H t1 (.tup [V.str "range", .bl (decide (i = 1))]) = G1 at s1 o1
    have k1 : Same H G1 := k0.trans s1
    have P1 : PrsAt G1 [t1] [("range", decide (i = 1))] := .cons o1 .nil
    refine ⟨_, rfl, c, v, _, _, _, rfl, mc, ep.same k1, fun u hu => hu, kP 2 _ (by decide) rfl, by show 2 ≤ sizeLine; decide, fun t2 n2 => ?_⟩
    have s2 := Same.new (o := .tup [.str "name", .bl (decide (i = 2))]) n2
    have o2 : upd G1 t2 (.tup [.str "name", .bl (decide (i = 2))]) t2 = some (.tup [.str "name", .bl (decide (i = 2))]) := upd_same
    generalize upd G1 t2 (.tup [V.str "name", .bl (decide (i = 2))]) = G2 at s2 o2
    have k2 : Same H G2 := k1.trans s2
    have P2 := PrsAt.same s2 P1
    replace P2 := P2.app (show PrsAt G2 [t2] [("name", decide (i = 2))] from .cons o2 .nil)
    refine ⟨by show 2 ≤ sizeLine; decide, fun l0 nl0 => ?_⟩
    have s3 := Same.new (o := .lst [.ref t1, .ref t2]) nl0
    have ol0 : upd G2 l0 (.lst [.ref t1, .ref t2]) l0 = some (.lst [.ref t1, .ref t2]) := upd_same
    generalize upd G2 l0 (.lst [V.ref t1, .ref t2]) = G3 at s3 ol0
    have k3 : Same H G3 := k2.trans s3
    have P3 := PrsAt.same s3 P2
    refine ⟨_, rfl, _, rfl, c, v, _, _, _, rfl, mc, ep.same k3, fun u hu => hu, kP 3 _ (by decide) rfl, by show 2 ≤ sizeLine; decide, fun t3 n3 => ?_⟩
    have s4 := Same.new (o := .tup [.str "system", .bl (decide (i = 3))]) n3
    have o3 : upd G3 t3 (.tup [.str "system", .bl (decide (i = 3))]) t3 = some (.tup [.str "system", .bl (decide (i = 3))]) := upd_same
    generalize upd G3 t3 (.tup [V.str "system", .bl (decide (i = 3))]) = G4 at s4 o3
    have k4 : Same H G4 := k3.trans s4
    have P4 := PrsAt.same s4 P3
    replace P4 := P4.app (show PrsAt G4 [t3] [("system", decide (i = 3))] from .cons o3 .nil)
    have w4 := s4 _ _ ol0
    refine ⟨_, rfl, c, v, _, _, _, rfl, mc, ep.same k4, fun u hu => hu, kP 4 _ (by decide) rfl, by show 2 ≤ sizeLine; decide, fun t4 n4 => ?_⟩
    have s5 := Same.new (o := .tup [.str "rule", .bl (decide (i = 4))]) n4
    have o4 : upd G4 t4 (.tup [.str "rule", .bl (decide (i = 4))]) t4 = some (.tup [.str "rule", .bl (decide (i = 4))]) := upd_same
    generalize upd G4 t4 (.tup [V.str "rule", .bl (decide (i = 4))]) = G5 at s5 o4
    have k5 : Same H G5 := k4.trans s5
    have P5 := PrsAt.same s5 P4
    replace P5 := P5.app (show PrsAt G5 [t4] [("rule", decide (i = 4))] from .cons o4 .nil)
    have w5 := s5 _ _ w4
    refine ⟨by show 2 ≤ sizeLine; decide, fun l1 nl1 => ?_⟩
    have s6 := Same.new (o := .lst [.ref t3, .ref t4]) nl1
    have ol1 : upd G5 l1 (.lst [.ref t3, .ref t4]) l1 = some (.lst [.ref t3, .ref t4]) := upd_same
    generalize upd G5 l1 (.lst [V.ref t3, .ref t4]) = G6 at s6 ol1
    have k6 : Same H G6 := k5.trans s6
    have P6 := PrsAt.same s6 P5
    have w6 := s6 _ _ w5
    refine ⟨_, _, _, _, rfl, rfl, w6, ol1, by show 4 ≤ sizeLine; decide, fun m1 nm1 => ?_⟩
    have s7 := Same.new (o := .lst [.ref t1, .ref t2, .ref t3, .ref t4]) nm1
    have om1 : upd G6 m1 (.lst [.ref t1, .ref t2, .ref t3, .ref t4]) m1 = some (.lst [.ref t1, .ref t2, .ref t3, .ref t4]) := upd_same
    change gName 1 (V.ref m1) _ (upd G6 m1 (.lst [V.ref t1, .ref t2, .ref t3, .ref t4])) _
    generalize upd G6 m1 (.lst [V.ref t1, .ref t2, .ref t3, .ref t4]) = G7 at s7 om1 ⊢
    have k7 : Same H G7 := k6.trans s7
    have P7 := PrsAt.same s7 P6
    refine ⟨_, rfl, _, rfl, c, v, _, _, _, rfl, mc, ep.same k7, fun u hu => hu, kP 5 _ (by decide) rfl, by show 2 ≤ sizeLine; decide, fun t5 n5 => ?_⟩
    have s8 := Same.new (o := .tup [.str "unknown", .bl (decide (i = 5))]) n5
    have o5 : upd G7 t5 (.tup [.str "unknown", .bl (decide (i = 5))]) t5 = some (.tup [.str "unknown", .bl (decide (i = 5))]) := upd_same
    generalize upd G7 t5 (.tup [V.str "unknown", .bl (decide (i = 5))]) = G8 at s8 o5
    have k8 : Same H G8 := k7.trans s8
    have P8 := PrsAt.same s8 P7
    replace P8 := P8.app (show PrsAt G8 [t5] [("unknown", decide (i = 5))] from .cons o5 .nil)
    have w8 := s8 _ _ om1
    refine ⟨_, rfl, c, v, _, _, _, rfl, mc, ep.same k8, fun u hu => hu, kP 7 _ (by decide) rfl, by show 2 ≤ sizeLine; decide, fun t6 n6 => ?_⟩
    have s9 := Same.new (o := .tup [.str "move", .bl (decide (i = 7))]) n6
    have o6 : upd G8 t6 (.tup [.str "move", .bl (decide (i = 7))]) t6 = some (.tup [.str "move", .bl (decide (i = 7))]) := upd_same
    generalize upd G8 t6 (.tup [V.str "move", .bl (decide (i = 7))]) = G9 at s9 o6
    have k9 : Same H G9 := k8.trans s9
    have P9 := PrsAt.same s9 P8
    replace P9 := P9.app (show PrsAt G9 [t6] [("move", decide (i = 7))] from .cons o6 .nil)
    have w9 := s9 _ _ w8
    refine ⟨by show 2 ≤ sizeLine; decide, fun l2 nl2 => ?_⟩
    have s10 := Same.new (o := .lst [.ref t5, .ref t6]) nl2
    have ol2 : upd G9 l2 (.lst [.ref t5, .ref t6]) l2 = some (.lst [.ref t5, .ref t6]) := upd_same
    generalize upd G9 l2 (.lst [V.ref t5, .ref t6]) = G10 at s10 ol2
    have k10 : Same H G10 := k9.trans s10
    have P10 := PrsAt.same s10 P9
    have w10 := s10 _ _ w9
    refine ⟨_, _, _, _, rfl, rfl, w10, ol2, by show 6 ≤ sizeLine; decide, fun m2 nm2 => ?_⟩
    have s11 := Same.new (o := .lst [.ref t1, .ref t2, .ref t3, .ref t4, .ref t5, .ref t6]) nm2
    have om2 : upd G10 m2 (.lst [.ref t1, .ref t2, .ref t3, .ref t4, .ref t5, .ref t6]) m2 = some (.lst [.ref t1, .ref t2, .ref t3, .ref t4, .ref t5, .ref t6]) := upd_same
    change gName 1 (V.ref m2) _ (upd G10 m2 (.lst [V.ref t1, .ref t2, .ref t3, .ref t4, .ref t5, .ref t6])) _
    generalize upd G10 m2 (.lst [V.ref t1, .ref t2, .ref t3, .ref t4, .ref t5, .ref t6]) = G11 at s11 om2 ⊢
    have k11 : Same H G11 := k10.trans s11
    have P11 := PrsAt.same s11 P10
    refine ⟨_, rfl, _, rfl, c, v, _, _, _, rfl, mc, ep.same k11, fun u hu => hu, kP 8 _ (by decide) rfl, by show 2 ≤ sizeLine; decide, fun t7 n7 => ?_⟩
    have s12 := Same.new (o := .tup [.str "undo", .bl (decide (i = 8))]) n7
    have o7 : upd G11 t7 (.tup [.str "undo", .bl (decide (i = 8))]) t7 = some (.tup [.str "undo", .bl (decide (i = 8))]) := upd_same
    generalize upd G11 t7 (.tup [V.str "undo", .bl (decide (i = 8))]) = G12 at s12 o7
    have k12 : Same H G12 := k11.trans s12
    have P12 := PrsAt.same s12 P11
    replace P12 := P12.app (show PrsAt G12 [t7] [("undo", decide (i = 8))] from .cons o7 .nil)
    have w12 := s12 _ _ om2
    refine ⟨_, rfl, c, v, _, _, _, rfl, mc, ep.same k12, fun u hu => hu, kP 9 _ (by decide) rfl, by show 2 ≤ sizeLine; decide, fun t8 n8 => ?_⟩
    have s13 := Same.new (o := .tup [.str "text", .bl (decide (i = 9))]) n8
    have o8 : upd G12 t8 (.tup [.str "text", .bl (decide (i = 9))]) t8 = some (.tup [.str "text", .bl (decide (i = 9))]) := upd_same
    generalize upd G12 t8 (.tup [V.str "text", .bl (decide (i = 9))]) = G13 at s13 o8
    have k13 : Same H G13 := k12.trans s13
    have P13 := PrsAt.same s13 P12
    replace P13 := P13.app (show PrsAt G13 [t8] [("text", decide (i = 9))] from .cons o8 .nil)
    have w13 := s13 _ _ w12
    refine ⟨by show 2 ≤ sizeLine; decide, fun l3 nl3 => ?_⟩
    have s14 := Same.new (o := .lst [.ref t7, .ref t8]) nl3
    have ol3 : upd G13 l3 (.lst [.ref t7, .ref t8]) l3 = some (.lst [.ref t7, .ref t8]) := upd_same
    generalize upd G13 l3 (.lst [V.ref t7, .ref t8]) = G14 at s14 ol3
    have k14 : Same H G14 := k13.trans s14
    have P14 := PrsAt.same s14 P13
    have w14 := s14 _ _ w13
    refine ⟨_, _, _, _, rfl, rfl, w14, ol3, by show 8 ≤ sizeLine; decide, fun m3 nm3 => ?_⟩
    have s15 := Same.new (o := .lst [.ref t1, .ref t2, .ref t3, .ref t4, .ref t5, .ref t6, .ref t7, .ref t8]) nm3
    have om3 : upd G14 m3 (.lst [.ref t1, .ref t2, .ref t3, .ref t4, .ref t5, .ref t6, .ref t7, .ref t8]) m3 = some (.lst [.ref t1, .ref t2, .ref t3, .ref t4, .ref t5, .ref t6, .ref t7, .ref t8]) := upd_same
    change gName 1 (V.ref m3) _ (upd G14 m3 (.lst [V.ref t1, .ref t2, .ref t3, .ref t4, .ref t5, .ref t6, .ref t7, .ref t8])) _
    generalize upd G14 m3 (.lst [V.ref t1, .ref t2, .ref t3, .ref t4, .ref t5, .ref t6, .ref t7, .ref t8]) = G15 at s15 om3 ⊢
    have k15 : Same H G15 := k14.trans s15
    have P15 := PrsAt.same s15 P14
    refine ⟨_, rfl, _, rfl, c, v, _, _, _, rfl, mc, ep.same k15, fun u hu => hu, kP 6 _ (by decide) rfl, by show 2 ≤ sizeLine; decide, fun t9 n9 => ?_⟩
    have s16 := Same.new (o := .tup [.str "number", .bl (decide (i = 6))]) n9
    have o9 : upd G15 t9 (.tup [.str "number", .bl (decide (i = 6))]) t9 = some (.tup [.str "number", .bl (decide (i = 6))]) := upd_same
    generalize upd G15 t9 (.tup [V.str "number", .bl (decide (i = 6))]) = G16 at s16 o9
    have k16 : Same H G16 := k15.trans s16
    have P16 := PrsAt.same s16 P15
    replace P16 := P16.app (show PrsAt G16 [t9] [("number", decide (i = 6))] from .cons o9 .nil)
    have w16 := s16 _ _ om3
    refine ⟨by show 1 ≤ sizeLine; decide, fun l4 nl4 => ?_⟩
    have s17 := Same.new (o := .lst [.ref t9]) nl4
    have ol4 : upd G16 l4 (.lst [.ref t9]) l4 = some (.lst [.ref t9]) := upd_same
    generalize upd G16 l4 (.lst [V.ref t9]) = G17 at s17 ol4
    have k17 : Same H G17 := k16.trans s17
    have P17 := PrsAt.same s17 P16
    have w17 := s17 _ _ w16
    refine ⟨_, _, _, _, rfl, rfl, w17, ol4, by show 9 ≤ sizeLine; decide, fun m4 nm4 => ?_⟩
    have s18 := Same.new (o := .lst [.ref t1, .ref t2, .ref t3, .ref t4, .ref t5, .ref t6, .ref t7, .ref t8, .ref t9]) nm4
    have om4 : upd G17 m4 (.lst [.ref t1, .ref t2, .ref t3, .ref t4, .ref t5, .ref t6, .ref t7, .ref t8, .ref t9]) m4 = some (.lst [.ref t1, .ref t2, .ref t3, .ref t4, .ref t5, .ref t6, .ref t7, .ref t8, .ref t9]) := upd_same
    change gName 1 (V.ref m4) _ (upd G17 m4 (.lst [V.ref t1, .ref t2, .ref t3, .ref t4, .ref t5, .ref t6, .ref t7, .ref t8, .ref t9])) _
    generalize upd G17 m4 (.lst [V.ref t1, .ref t2, .ref t3, .ref t4, .ref t5, .ref t6, .ref t7, .ref t8, .ref t9]) = G18 at s18 om4 ⊢
    have k18 : Same H G18 := k17.trans s18
    have P18 := PrsAt.same s18 P17
    have PZ : PrsAt G18 [t1, t2, t3, t4, t5, t6, t7, t8, t9] (askedOf i) := P18
    refine ⟨_, rfl, m4, rfl, ⟨_, .inl (.inl om4)⟩, fun D nD => ?_⟩
    refine lc_list (K := K) (a := m4) (xs := [t1, t2, t3, t4, t5, t6, t7, t8, t9].map V.ref) (fun k G => Same G18 G ∧ G D = some (.lst (((((askedOf i).take k).filter (·.2)).map (·.1)).map V.str))) ⟨Same.new nD, upd_same⟩ (fun k G _ h => .inl (.inl (h.1 _ _ om4))) ?_ ?_
    · rintro k z G ez ⟨sm, oD⟩
      obtain ⟨t, et, rfl⟩ := map_get ez
      obtain ⟨pr, epr, ot⟩ := PZ.get et
      refine ⟨t, _, rfl, .inl (.inl (sm _ _ ot)), rfl, _, _, rfl, _, _, rfl, rfl, rfl, ?_⟩
      have tk1 : (askedOf i).take (k + 1) = (askedOf i).take k ++ [pr] := by rw [List.take_succ, epr]; rfl
      refine ⟨_, rfl, pr.2, rfl, ?_⟩
      have al : (((((askedOf i).take k).filter (·.2)).map (·.1)).map V.str).length < sizeLine := by
        rw [List.length_map, List.length_map]
        exact Nat.lt_of_le_of_lt (Nat.le_trans (List.length_filter_le _ _) (by rw [List.length_take]; exact Nat.min_le_right _ _)) (by show 9 < sizeLine; decide)
      rw [tk1, List.filter_append, List.map_append, List.map_append]
      cases e2 : pr.2 with
      | true =>
        have f1 : [pr].filter (·.2) = [pr] := by simp [e2]
        rw [f1]
        exact iteT ⟨_, rfl, _, oD, al, fun b o e => by rw [upd_ne (ne_of_none e nD)]; exact sm _ _ e, upd_same⟩
      | false =>
        have f1 : [pr].filter (·.2) = [] := by simp [e2]
        rw [f1]
        refine iteF ⟨sm, ?_⟩
        rw [List.map_nil, List.map_nil, List.append_nil]
        exact oD
    · rintro G ⟨sm, oD⟩
      have e9 : ((askedOf i).take ([t1, t2, t3, t4, t5, t6, t7, t8, t9].map V.ref).length) = askedOf i := rfl
      rw [e9, asked_one i1 i9] at oD
      have kz := k18.trans sm
      refine ⟨_, rfl, D, _, rfl, .inl (.inl (.inl oD)), rfl, true, rfl, iteT ?_⟩
      refine ⟨_, rfl, c, v, _, _, _, rfl, mc, ep.same kz, fun u hu => hu, X.subV i c ec, true, rfl, iteT ?_⟩
      refine ⟨_, rfl, D, _, 0, _, rfl, rfl, .inl (.inl oD), atI_nat (j := 0) rfl, _, rfl, c, v, rfl, mc, ep.same kz, by show 2 ≤ sizeLine; decide, fun t nt => ?_⟩
      exact q t _ (kz.trans (Same.new nt)) (by
        cases z : H t with
        | none => rfl
        | some o => rw [kz _ _ z] at nt; cases nt) upd_same
end

end Pk36
namespace Pk36
open PySem PySem.Spec PyProof.Rows L2 Gd
section
variable {P : Program} {w : World} {K : PySem.W.Frag} {mg : Str → Option Value} {base : Heap}
set_option maxHeartbeats 8000000 in
-- _law_raised: level 8; builtins []; cells []; slots: 0 made, 1 some, 2 e
theorem ok__law_raised {C : Addr} (T : SysT K mg C) {c0 c1 c2 c3 c4 c5 c6 c7 c8 c9 fI : Addr} (X : ErrT K mg [c0, c1, c2, c3, c4, c5, c6, c7, c8, c9] ["RangeError", "InvalidRange", "InvalidName", "InvalidSystem", "InvalidRule", "UnknownName", "InvalidNumber", "InvalidMove", "NothingToUndo", "Unreadable"] fI) (h : At K mg "_law_raised" s__law_raised ["made", "some"]) (D__law_caught : DnE P w K mg base 1 "_law_caught" s__law_caught ["e"] (sp__law_caught K [c0, c1, c2, c3, c4, c5, c6, c7, c8, c9])) (D_values_behind : DnN P w K mg base 7 "values_behind" s_values_behind ["system", "moves"] (sp_values_behind K C [c0, c1, c2, c3, c4, c5, c6, c7, c8, c9])) : Dn P w K mg base 8 "_law_raised" s__law_raised ["made", "some"] (sp__law_raised K C [c0, c1, c2, c3, c4, c5, c6, c7, c8, c9]) := by
  refine .mk' h fun f fd F => F.ok sc__law_raised (fun vs H Q E h => ?_) (fun cdv A outer s H vs Q E hr h => ?_)
  · obtain ⟨a, p, b, m, ns, rs, zs, ms, rfl, sy, ok, nd, hm, dm, lm, sz, q⟩ := h
    rfl
  · obtain ⟨a, p, b, m, ns, rs, zs, ms, rfl, sy, ok, nd, hm, dm, lm, sz, q⟩ := h
    refine ⟨_, (pss_cons (L2N.ps_try_as (i := 2) rfl rfl sc__law_raised.nd rfl rfl ⟨rfl, by decide, .inl (X.t 0 _ _ rfl rfl).mg_⟩ takes0N (fun W pn xe tk own =>
        (pss_one (ps_expr (pe_cN tk D_values_behind hr (by rfl) (pa_cons (pv 0) (pa_cons (pv 1) pa_nil)))))) (fun a oe cls d pn zn fl =>
        (pss_one (ps_ret (pe_cE rfl List.mem_cons_self zn fl D__law_caught (roomS hr) (by rfl) (pa_cons (pv 2) pa_nil))))))
      (pss_one (ps_ret pe_str))), ?_⟩
    have xm := errT_exm (i := 7) X rfl rfl (by decide)
    refine ⟨_, rfl, _, rfl, a, p, b, m, ns, rs, zs, ms, rfl, sy, ok, nd, hm, dm, lm, sz, fun f pl d H' k n o => ?_, fun i bad => ?_⟩
    · refine q _ _ k ?_
      rw [bad_some pl]
      exact rfl
    · refine ⟨c7, rfl, fun d H1 k1 nd' ed => ⟨true, xm, fun _ e ne' => ⟨_, rfl, 7, c7, d, _, rfl, rfl, rfl, by decide, by decide, rfl, ed, fun t H2 k2 nt et => q _ _ (k1.trans k2) ?_⟩, fun q => nomatch q⟩⟩
      rw [bad]
      exact ⟨t, rfl, same_none k1 nt, et⟩
end

end Pk36
namespace Pk36
open PySem PySem.Spec PyProof.Rows L2 Gd
section
variable {P : Program} {w : World} {K : PySem.W.Frag} {mg : Str → Option Value} {base : Heap}
set_option maxHeartbeats 8000000 in
-- _law_due: level 3; builtins ['dict', 'enumerate']; cells []; slots: 0 words, 1 rows, 2 some, 3 held, 4 spot, 5 move, 6 later, 7 word
theorem ok__law_due (h : At K mg "_law_due" s__law_due ["words", "rows", "some"]) (D__law_next : Dn P w K mg base 2 "_law_next" s__law_next ["rows", "held", "move"] (sp__law_next K)) (m_dict : mg "dict" = none) (m_enumerate : mg "enumerate" = none) : Dn P w K mg base 3 "_law_due" s__law_due ["words", "rows", "some"] (sp__law_due K) := by
  refine .mk' h fun f fd F => F.ok sc__law_due (fun vs H Q E h => ?_) (fun cdv A outer s H vs Q E hr h => ?_)
  · obtain ⟨w, b, m, ws, rs, xs, zs, ms, rfl, hw, hb, dr, ok, nd, hm, dm, lm, sz, q⟩ := h
    rfl
  · obtain ⟨w, b, m, ws, rs, xs, zs, ms, rfl, hw, hb, dr, ok, nd, hm, dm, lm, sz, q⟩ := h
    refine ⟨_, (pss_cons (ps_set (i := 3) sc__law_due.nd rfl (.inl rfl) (pe_callTy (call_dictP rfl) (by rfl) m_dict (by decide +kernel) (pa_cons (pe_lc (own := [("word", 7)]) (g := gName 7) rfl sc__law_due.nd (pi_list (pv 0)) (blkOk_by (N := ["words", "rows", "some", "held", "spot", "move", "later", "word"]) (sc := defScope s__law_due) (by decide +kernel)) (fun _ _ _ _ _ => pg_name (i := 7) sc__law_due.nd rfl (Or.inl rfl)) (fun _ _ _ _ _ => pts_nil) (fun _ _ _ _ _ => (pe_tup (pa_cons (pv 7) (pa_cons pe_non pa_nil))))) pa_nil)))
      (pss_cons (ps_for PassesOwn.never rfl (pi_enum (by rfl) m_enumerate (pa_cons (pv 2) pa_nil)) (pg_tup (by rfl) (pgs_cons (pg_name (i := 4) sc__law_due.nd rfl (.inl rfl)) (pgs_cons (pg_name (i := 5) sc__law_due.nd rfl (.inl rfl)) pgs_nil)))
        (pss_cons (ps_set (i := 6) sc__law_due.nd rfl (.inl rfl) (pe_c D__law_next hr (by rfl) (pa_cons (pv 1) (pa_cons (pv 3) (pa_cons (pv 5) pa_nil)))))
        (pss_cons (ps_if (pt_cmpR op_isN (pv 6) pe_non (nomark _))
          (pss_one (ps_ret (pe_tup (pa_cons pe_str (pa_cons (pv 4) pa_nil)))))
          pss_nil)
        (pss_one (ps_dput (hu_of hr) (pv 3) (pe_ix ix_tup (pe_ix ix_list (pv 1) (pe_ix ix_tup (pv 5) pe_int (fun _ _ => rfl)) (fun _ _ => rfl)) pe_int (fun _ _ => rfl)) (pv 6) rfl)))))
      (pss_one (ps_ret pe_str)))), ?_⟩
    have lw := ok.ln
    have lx : xs.length = rs.length := by rw [dpa_len dr, List.length_map]
    have lz : zs.length = ms.length := by rw [dpa_len dm, List.length_map]
    refine ⟨_, rfl, w, rfl, ⟨_, hw⟩, fun L nL => ?_⟩
    refine lc_rel (xs := ws.map V.str) (fun i G y => ∃ p x, ws[i]? = some x ∧ y = .ref p ∧ SqT K G p [.str x, .non]) hw (by rw [List.length_map]; omega) nL (fun i G G' y acc k e h => by
      obtain ⟨p, x, e1, e2, s⟩ := h
      exact ⟨p, x, e1, e2, SqT.kpl k e s⟩) (fun _ => rfl) ?_ ?_
    · intro i z G R ez sm k
      obtain ⟨x, ex, rfl⟩ := map_get ez
      exact ⟨_, rfl, by show 2 ≤ sizeLine; decide, fun p np => k _ _ (Same.new np) ⟨p, x, ex, rfl, .inl (.inl upd_same)⟩⟩
    intro G ys sm eL ly hy
    obtain ⟨ps, rfl, pr⟩ := pairs_mk (fun _ => .non) (ly.trans (List.length_map _)) hy
    refine ⟨L, ps, fK ws (fun _ => .non), rfl, .inl (.inl eL), pr, fun D nD => ?_⟩
    rw [merge0 nd]
    have sD := Same.new (o := .dK (fK ws (fun _ => .non))) nD
    have oD : DF (upd G D (.dK (fK ws (fun _ => .non)))) D ws (ovF noV) := upd_same
    generalize upd G D (.dK (fK ws (fun _ => .non))) = G1 at sD oD
    have k1 := sm.trans sD
    have nD0 : H D = none := sm.free nD
    clear sm sD eL pr hy ly nL nD
    refine ⟨_, rfl, m, zs, rfl, k1.seq hm, for_it walk_enum (fun i σ G => Same H G ∧ ∃ g y4 y5 y6, σ = [some (.ref w), some (.ref b), some (.ref m), some (.ref D), y4, y5, y6, none] ∧ DF G D ws (ovF g) ∧ SzF (110 * (i + 1)) g ∧ badV rs g i (ms.drop i) = badV rs noV 0 ms) ⟨k1, noV, none, none, none, rfl, oD, SzF.no, rfl⟩ (fun i σ G _ h => h.1.seq hm) ?_ ?_⟩
    · rintro i z σ G G' hi ⟨k, g, y4, y5, y6, rfl, oD, szg, plg⟩ ⟨T, u, wv, rfl, nT, rfl, eu, ew⟩
      obtain rfl := Option.some.inj eu
      obtain ⟨mv, em, dw⟩ := dpa_map_get (dpa_same k dm) ew
      obtain ⟨pm, rfl, spm⟩ := mv_inv dw
      have sT := Same.new (o := .tup [.int (i : Nat), .ref pm]) nT
      have oT : upd G T (.tup [.int (i : Nat), .ref pm]) T = some (.tup [.int (i : Nat), .ref pm]) := upd_same
      generalize upd G T (HO.tup ([.int (i : Nat), .ref pm] : List V)) = G1' at sT oT ⊢
      have li : i < ms.length := (List.getElem?_eq_some_iff.mp em).1
      have md : ms.drop i = mv :: ms.drop (i + 1) := by
        rw [List.drop_eq_getElem_cons li, (List.getElem?_eq_some_iff.mp em).2]
      rw [md] at plg
      have k2 := k.trans sT
      refine ⟨T, _, rfl, .inl (.inl oT), rfl, _, _, rfl, _, _, rfl, rfl, ?_⟩
      have oD1 : DF G1' D ws (ovF g) := sT _ _ oD
      refine ⟨_, rfl, _, rfl, _, rfl, b, D, .ref pm, rs, xs, ws, g, mv, 110 * (i + 1), rfl, k2.seq hb, dpa_same k2 dr, ok, oD1, dp_same sT dw, szg, by omega, fun G2 k3 => ?_⟩
      have k4 := k2.trans k3
      have oD2 : DF G2 D ws (ovF g) := k3 _ _ oD1
      have plg' : (if (nextV rs g mv).isSome = true then badV rs (goV rs g mv) (i + 1) (ms.drop (i + 1)) else some i) = badV rs noV 0 ms := plg
      cases en : nextV rs g mv with
      | none =>
        rw [en] at plg'
        replace plg' : some i = badV rs noV 0 ms := plg'
        rw [← plg'] at q
        refine ⟨_, rfl, rfl, _, rfl, iteT ⟨_, rfl, by show 2 ≤ sizeLine; decide, fun t nt => ?_⟩⟩
        exact q _ _ (k4.trans (Same.new nt)) ⟨t, rfl, same_none k4 nt, upd_same⟩
      | some v =>
        replace plg' : badV rs (goV rs g mv) (i + 1) (ms.drop (i + 1)) = badV rs noV 0 ms := by
          rw [en] at plg'
          exact plg'
        refine ⟨_, rfl, rfl, _, rfl, iteF ?_⟩
        have hin : 0 ≤ mv.1 ∧ mv.1 < (rs.length : Int) := by
          refine Classical.byContradiction fun c => ?_
          rw [next_out c] at en
          cases en
        obtain ⟨kk, r, ek, er⟩ := rn_at hin
        have lk : kk < xs.length := by
          have := (List.getElem?_eq_some_iff.mp er).1
          omega
        have exk : xs[kk]? = some xs[kk] := List.getElem?_eq_getElem lk
        obtain ⟨r', er', dr'⟩ := dpa_map_get (dpa_same k4 dr) exk
        obtain rfl : r' = r := Option.some.inj (er'.symm.trans er)
        obtain ⟨p, xr, e_, s0, e1⟩ : ∃ p xr, xs[kk] = .ref p ∧ SqT K G2 p xr ∧ atI xr 1 = some (.str (xOf r')) := by
          match r', dr' with
          | .set x rg cs, dr' =>
            obtain ⟨p, vr, c, ys, e_, s0, _⟩ := set_inv dr'
            exact ⟨p, _, e_, s0, rfl⟩
          | .stp x y fa ad rg cs, dr' =>
            obtain ⟨p, vr, c, ys, e_, s0, _⟩ := stp_inv dr'
            exact ⟨p, _, e_, s0, rfl⟩
        have mx : xOf r' ∈ ws := by
          have := ok.nm _ (List.mem_of_getElem? er)
          match r', this with
          | .set x rg cs, nm => exact nm x List.mem_cons_self
          | .stp x y fa ad rg cs, nm => exact nm x List.mem_cons_self
        have eg := go_at (f := g) ek er
        rw [en] at eg
        have dp := DF.put (v := ov (some v)) oD2 mx lw
        refine ⟨_, rfl, _, rfl, _, rfl, _, rfl, pm, _, 0, _, rfl, rfl, SqT.same (sT.trans k3) spm, atI_nat (j := 0) rfl, b, _, (kk : Int), _, rfl, congrArg V.int ek, k4.seq hb, atI_nat exk, p, _, 1, _, e_, rfl, s0, e1, D, _, rfl, dp, ?_⟩
        refine ⟨fun c o e => ?_, goV rs g mv, _, _, _, rfl, ?_, go_sz ok.nb (show 110 ≤ 110 * (i + 1) from by omega) szg (sz mv (List.mem_of_getElem? em)), plg'⟩
        · rw [upd_ne (ne_of_none e nD0)]
          exact k4 _ _ e
        · show upd G2 D _ D = _
          rw [upd_same, ovF_put, ← eg]
    · rintro σ G ⟨k, g, y4, y5, y6, rfl, oD, szg, plg⟩
      rw [lz, List.drop_length] at plg
      refine q _ _ k ?_
      rw [← plg]
      exact rfl
end

end Pk36
namespace Pk36
open PySem PySem.Spec PyProof.Rows L2 Gd
section
variable {P : Program} {w : World} {K : PySem.W.Frag} {mg : Str → Option Value} {base : Heap}
set_option maxHeartbeats 8000000 in
-- law: level 9; builtins ['int', 'len', 'list', 'min', 'range']; cells []; slots: 0 script, 1 rng, 2 lap, 3 words, 4 rows, 5 made, 6 some, 7 held, 8 turn, 9 given, 10 kept, 11 due, 12 bare
theorem ok_law {C : Addr} (T : SysT K mg C) {c0 c1 c2 c3 c4 c5 c6 c7 c8 c9 fI : Addr} (X : ErrT K mg [c0, c1, c2, c3, c4, c5, c6, c7, c8, c9] ["RangeError", "InvalidRange", "InvalidName", "InvalidSystem", "InvalidRule", "UnknownName", "InvalidNumber", "InvalidMove", "NothingToUndo", "Unreadable"] fI) (h : At K mg "law" s_law ["script"]) (D_System___eq__ : Mt P w K mg base 1 C "__eq__" "System.__eq__" s_System___eq__ ["self", "other"] (sp_System___eq__ K C)) (D_System___init__ : Mt P w K mg base 4 C "__init__" "System.__init__" s_System___init__ ["self", "names", "rules"] (sp_System___init__ K C)) (D__law_bent : Dn P w K mg base 2 "_law_bent" s__law_bent ["rng", "rows", "some"] (sp__law_bent K)) (D__law_draw : Dn P w K mg base 1 "_law_draw" s__law_draw ["rng", "limit"] (sp__law_draw K)) (D__law_due : Dn P w K mg base 3 "_law_due" s__law_due ["words", "rows", "some"] (sp__law_due K)) (D__law_moves : Dn P w K mg base 3 "_law_moves" s__law_moves ["rng", "words", "rows", "many"] (sp__law_moves K)) (D__law_raised : Dn P w K mg base 8 "_law_raised" s__law_raised ["made", "some"] (sp__law_raised K C [c0, c1, c2, c3, c4, c5, c6, c7, c8, c9])) (D__law_rng : Dn P w K mg base 1 "_law_rng" s__law_rng ["script"] (sp__law_rng K)) (D__law_rows : Dn P w K mg base 5 "_law_rows" s__law_rows ["rng", "words", "most"] (sp__law_rows K)) (D__law_words : Dn P w K mg base 2 "_law_words" s__law_words ["rng", "many"] (sp__law_words K)) (D_is_run : Dn P w K mg base 8 "is_run" s_is_run ["system", "moves"] (sp_is_run K C [c0, c1, c2, c3, c4, c5, c6, c7, c8, c9])) (m_int : mg "int" = none) (m_len : mg "len" = none) (m_list : mg "list" = none) (m_min : mg "min" = none) (m_range : mg "range" = none) : DnG P w K mg base 9 "law" s_law ["script"] (sp_law K) := by
  refine .mk' h fun f fd F => okG F sc_law (fun vs H Q E h => ?_) (fun cdv A outer s H vs Q E hgd hr h => ?_)
  · obtain ⟨a, ns, rfl, hS, hn, q⟩ := h
    rfl
  · obtain ⟨a, ns, rfl, hS, hn, q⟩ := h
    refine ⟨_, (pss_cons (ps_set (i := 1) sc_law.nd rfl (.inl rfl) (pe_c D__law_rng hr (by rfl) (pa_cons (pv 0) pa_nil)))
      (pss_cons (ps_for PassesOwn.never rfl (pi_range1 (by rfl) m_range (pa_cons (pe_op op_add pe_int (pe_callB (call_min2 rfl) (by rfl) m_min (by decide +kernel) (pa_cons pe_int (pa_cons (pe_callB call_len_seq (by rfl) m_len PySem.boot_len (pa_cons (pv 0) pa_nil)) pa_nil)))) pa_nil)) (pg_name (i := 2) sc_law.nd rfl (.inl rfl))
        (pss_cons (ps_set (i := 3) sc_law.nd rfl (.inl rfl) (pe_c D__law_words hr (by rfl) (pa_cons (pv 1) (pa_cons (pe_op op_add pe_int (pe_c D__law_draw hr (by rfl) (pa_cons (pv 1) (pa_cons pe_int pa_nil)))) pa_nil))))
        (pss_cons (ps_set (i := 4) sc_law.nd rfl (.inl rfl) (pe_c D__law_rows hr (by rfl) (pa_cons (pv 1) (pa_cons (pv 3) (pa_cons pe_int pa_nil)))))
        (pss_cons (ps_set (i := 5) sc_law.nd rfl (.inl rfl) (pe_new T.ck D_System___init__ hr (by rfl) (pa_cons (pv 3) (pa_cons (pv 4) pa_nil))))
        (pss_cons (ps_asg (pe_c D__law_moves hr (by rfl) (pa_cons (pv 1) (pa_cons (pv 3) (pa_cons (pv 4) (pa_cons (pe_ix ix_list (pe_lst (pa_cons pe_int (pa_cons pe_int pa_nil))) (pe_callTy call_int1 (by rfl) m_int (by decide +kernel) (pa_cons (pe_cmpR op_eq (pv 2) pe_int (nomark _)) pa_nil)) (fun _ _ => rfl)) pa_nil))))) (pg_tup (by rfl) (pgs_cons (pg_name (i := 6) sc_law.nd rfl (.inl rfl)) (pgs_cons (pg_name (i := 7) sc_law.nd rfl (.inl rfl)) pgs_nil))))
        (pss_cons (ps_for PassesOwn.never rfl (pi_range1 (by rfl) m_range (pa_cons pe_int pa_nil)) (pg_name (i := 8) sc_law.nd rfl (.inl rfl))
          (C8.pss_cut (ps_set (i := 9) sc_law.nd rfl (.inl rfl) (pe_c D__law_bent hr (by rfl) (pa_cons (pv 1) (pa_cons (pv 4) (pa_cons (pv 6) pa_nil)))))
          (C8.pss_cut (ps_if (pt_cmpR op_eq (pv 8) pe_int (nomark _))
            (pss_one (ps_set (i := 9) sc_law.nd rfl (.inl rfl) (pe_op op_cat (pe_op op_cat (pe_slice sl_list (pv 6) po_none (po_some (pe_un un_neg pe_int))) (pe_lst (pa_cons (pe_tup (pa_cons (pe_callB call_len_seq (by rfl) m_len PySem.boot_len (pa_cons (pv 4) pa_nil)) (pa_cons pe_int pa_nil))) pa_nil))) (pe_slice sl_list (pv 6) (po_some (pe_un un_neg pe_int)) po_none))))
            pss_nil)
          (C8.pss_cut (ps_set (i := 9) sc_law.nd rfl (.inl rfl) (pe_ifExp (pt_cmpR op_gt (pv 8) pe_int (nomark _)) (pe_c D__law_bent hr (by rfl) (pa_cons (pv 1) (pa_cons (pv 4) (pa_cons (pv 9) pa_nil)))) (pv 9)))
          (pss_cons (ps_par (i := 10) (j := 11) rfl sc_law.nd rfl rfl (by decide) rfl rfl (pa_cons (pe_callTy call_list_of (by rfl) m_list (by decide +kernel) (pa_cons (pv 9) pa_nil)) (pa_cons (pe_c D__law_due hr (by rfl) (pa_cons (pv 3) (pa_cons (pv 4) (pa_cons (pv 9) pa_nil)))) pa_nil)) (by rfl))
          (pss_one (ps_if (PW.pt (pw_or (pt_cmpR (op_neD hr.units) (pe_c D__law_raised hr (by rfl) (pa_cons (pv 5) (pa_cons (pv 9) pa_nil))) (pv 11) (nomark _)) (pw_or (pt_cmpR (op_neD hr.units) (pv 9) (pv 10) (nomark _)) (pw_or1 (pt_cmpR op_ne (pe_c D_is_run hr (by rfl) (pa_cons (pv 5) (pa_cons (pv 9) pa_nil))) (pe_cmpR (op_eqD hr.units) (pv 11) pe_str (nomark _)) (nomark _))))))
            (pss_one (ps_ret pe_bl))
            pss_nil)))))))
        (pss_one (ps_if (PW.pt (pw_or (pt_cmpR (op_neD hr.units) (pe_c D__law_raised hr (by rfl) (pa_cons (pv 5) (pa_cons (pv 6) pa_nil))) pe_str (nomark _)) (pw_or (pt_cmpR (op_neD hr.units) (pe_c D__law_raised hr (by rfl) (pa_cons (pv 5) (pa_cons (pe_lst pa_nil) pa_nil))) pe_str (nomark _)) (pw_or1 (pt_not (pt_cmpR (op_eqO D_System___eq__ hr) (pv 5) (pe_new T.ck D_System___init__ hr (by rfl) (pa_cons (pv 3) (pa_cons (pv 4) pa_nil))) (nomark _)))))))
          (pss_one (ps_ret pe_bl))
          pss_nil))))))))
      (pss_cons (ps_set (i := 12) sc_law.nd rfl (.inl rfl) (pe_new T.ck D_System___init__ hr (by rfl) (pa_cons (pe_lst (pa_cons pe_str pa_nil)) (pa_cons (pe_lst pa_nil) pa_nil))))
      (pss_one (ps_ret (pe_cmpR (op_eqD hr.units) (pe_lst (pa_cons (pe_c D__law_raised hr (by rfl) (pa_cons (pv 12) (pa_cons (pe_lst (pa_cons (pe_tup (pa_cons pe_int (pa_cons pe_int pa_nil))) pa_nil)) pa_nil))) (pa_cons (pe_c D__law_raised hr (by rfl) (pa_cons (pv 12) (pa_cons (pe_lst (pa_cons (pe_tup (pa_cons (pe_un un_neg pe_int) (pa_cons pe_non pa_nil))) pa_nil)) pa_nil))) pa_nil))) (pe_lst (pa_cons (pe_tup (pa_cons pe_str (pa_cons pe_int pa_nil))) (pa_cons (pe_tup (pa_cons pe_str (pa_cons pe_int pa_nil))) pa_nil))) (nomark _))))))), ?_⟩
    have big : ((10 : Int) + (if (((ns.map V.int).length : Nat) : Int) < 12 then (((ns.map V.int).length : Nat) : Int) else 12)) ≤ 22 ∧ 0 ≤ ((10 : Int) + (if (((ns.map V.int).length : Nat) : Int) < 12 then (((ns.map V.int).length : Nat) : Int) else 12)) := by
      rw [List.length_map]
      split <;> omega
    refine ⟨_, rfl, a, ns, rfl, hS, hn, fun g H1 sm1 ng rs => ?_⟩
    refine ⟨_, rfl, a, _, rfl, .inl (sm1.seq hS), _, _, rfl, _, _, rfl, rfl, _, rfl, ?_, ?_, ?_⟩
    · exact Int.le_trans (by decide) big.2
    · exact Int.lt_of_le_of_lt big.1 (by decide)
    refine for_range (fun i σ H' => RS (4000 * i) H' g ∧ ∃ y2 y3 y4 y5 y6 y7 y8 y9 y10 y11 y12, σ = [some (.ref a), some (.ref g), y2, y3, y4, y5, y6, y7, y8, y9, y10, y11, y12])
      ⟨rs, _, _, _, _, _, _, _, _, _, _, _, rfl⟩ ?_ ?_
    · intro i σ H2 hi hw
      have hi2 : i < 22 := by
        have := big.1
        omega
      obtain ⟨rs2, y2, y3, y4, y5, y6, y7, y8, y9, y10, y11, y12, rfl⟩ := hw
      -- words, rows
      refine ⟨_, rfl, _, rfl, g, 6, 4000 * i, rfl, rs2, by omega, by decide, by decide, fun d H3 d0 d1 k3 rs3 => ⟨_, _, rfl, rfl, ?_⟩⟩
      refine ⟨g, _, 4000 * i + 1, rfl, rs3, by omega, by omega, by omega, fun W H4 ws k4 rs4 nW oW wok lw => ?_⟩
      have Wg : W ≠ g := rs3.fresh nW
      have w0 : ws ≠ [] := fun z => by
        rw [z, List.length_nil] at lw
        omega
      have wl : ws.length ≤ 6 := by omega
      refine ⟨_, rfl, _, rfl, g, W, 10, 4000 * i + 8, ws, rfl, rs4, by omega, by decide, by decide, Wg, .inl (.inl oW), w0, by omega, fun R H5 xs rr gd lr k5 rs5 nR oR dR => ?_⟩
      have Rg_ : R ≠ g := rs4.fresh nR
      have oW5 := k5 _ _ Wg oW
      have lr2 : rr.length ≤ 10 := by omega
      have lxs : xs.length = rr.length := by rw [dpa_len dR, List.length_map]
      -- made
      refine ⟨_, rfl, _, rfl, mk_sys (.inl (.inl oW5)) (.inl (.inl oR)) dR (sysOk_of wok gd (by omega) (by omega)) (fun O H6 P1 R1 ss pm so sm6 nO nP nR1 made => ?_)⟩
      have P1g : P1 ≠ g := rs5.fresh nP
      have R1g : R1 ≠ g := rs5.fresh nR1
      have rs6 : RS (4000 * i + 1600) H6 g := (rs5.same sm6).mono (by omega)
      have oW6 := sm6 _ _ oW5
      have oR6 := sm6 _ _ oR
      have dR6 := dpa_same sm6 dR
      clear sm6 oW5 oR dR rs5 nO nP nR1 nR rs4 k5 nW oW k4 rs3 k3 rs2
      -- the run
      refine ⟨_, rfl, _, rfl, _, rfl, by show 2 ≤ sizeLine; decide, fun L6 nL6 => ?_⟩
      have sL6 := Same.new (o := .lst [.int 60, .int 200]) nL6
      have oL6 : upd H6 L6 (.lst [.int 60, .int 200]) L6 = some (.lst [.int 60, .int 200]) := upd_same
      generalize upd H6 L6 (HO.lst ([.int 60, .int 200] : List V)) = H7 at sL6 oL6
      have p6 : ∀ b : Bool, ∃ m : Int, atI [V.int 60, .int 200] (if b = true then (1 : Int) else 0) = some (.int m) ∧ 0 ≤ m ∧ m ≤ 200 := fun b => by
        cases b
        · exact ⟨60, rfl, by decide, by decide⟩
        · exact ⟨200, rfl, by decide, by decide⟩
      obtain ⟨many, em, m0, m1⟩ := p6 (decide (V.int (0 + (i : Nat)) = V.int 0))
      refine ⟨_, rfl, rfl, .inr ⟨_, rfl, L6, _, _, _, rfl, rfl, .inl (.inl oL6), em, ?_⟩⟩
      refine ⟨g, W, R, many, 4000 * i + 1600, ws, rr, xs, rfl, rs6.same sL6, by omega, m0, m1, Wg, Rg_, sL6 _ _ oW6, sL6 _ _ oR6, dpa_same sL6 dR6, gd, wok.nd, wok.ok, by omega, by omega, fun t S D zs ms f H8 k8 rs8 nS nD ot oS dM oD pl lm szm szf => ?_⟩
      have k68 : Kp g H6 H8 := (Kp.of sL6).trans k8
      have Z : Zr K C W R O P1 R1 S D ws ss rr xs zs ms f H8 := ⟨k68 _ _ Wg oW6, k68 _ _ Rg_ oR6, dpa_kl (rs6.kl k68) dR6 (noL_rls rr), made.kl (rs6.kl k68) P1g R1g, oS, dM, oD⟩
      have rnk := rn_perm pm gd (by omega : ws.length ≤ 1000) (by omega : rr.length ≤ 1000)
      have rnw := rn_of gd (by omega : ws.length ≤ 1000) (by omega : rr.length ≤ 1000)
      have ssn := perm_nd pm wok
      have lz : zs.length = ms.length := by rw [dpa_len dM, List.length_map]
      refine ⟨t, _, rfl, .inl (.inl ot), rfl, _, _, rfl, _, _, rfl, rfl, ?_⟩
      have Sg : S ≠ g := fun z => by
        have e := rs6.ok
        obtain ⟨_, _, _, e, _⟩ := e
        rw [← z] at e
        have e2 : H6 S = none := sL6.free nS
        rw [e2] at e
        cases e
      have dis : W ≠ g ∧ R ≠ g ∧ P1 ≠ g ∧ R1 ≠ g ∧ S ≠ g := ⟨Wg, Rg_, P1g, R1g, Sg⟩
      clear k68 oW6 oR6 dR6 made oS dM oD k8 rs6 sL6 oL6 nL6 em m0 m1 p6 ot nS nD t
      have lzs : zs.length ≤ 200 := by omega
      -- four lists
      refine ⟨4, rfl, by decide, by decide, for_range (n := 4) (fun j σ G => Zr K C W R O P1 R1 S D ws ss rr xs zs ms f G ∧ RS (4000 * i + 2600 + 8 * j) G g ∧ ∃ z8 z9 z10 z11, σ = [some (.ref a), some (.ref g), some (.int (0 + (i : Nat))), some (.ref W), some (.ref R), some (.ref O), some (.ref S), some (.ref D), z8, z9, z10, z11, y12])
        ⟨Z, rs8, _, _, _, _, rfl⟩ ?_ ?_⟩
      · rintro j σ G hj ⟨Z, rsg, z8, z9, z10, z11, rfl⟩
        have hj4 : j < 4 := hj
        refine ⟨fun σ' G => Zr K C W R O P1 R1 S D ws ss rr xs zs ms f G ∧ RS (4000 * i + 2600 + 8 * j + 2) G g ∧ ∃ v, MvL K g G v ∧ σ' = [some (.ref a), some (.ref g), some (.int (0 + (i : Nat))), some (.ref W), some (.ref R), some (.ref O), some (.ref S), some (.ref D), some (.int (0 + (j : Nat))), some v, z10, z11, y12], ?_, ?_⟩
        · refine ⟨_, rfl, _, rfl, _, rfl, g, R, S, 4000 * i + 2600 + 8 * j, xs, zs, ms, rfl, rsg, by omega, Rg_, Sg, Z.oR, by omega, Z.oS, Z.dM, by omega, szm, fun p1 zs1 ms1 G1 k1 rs1 n1 o1 d1 l1 h1 => ?_⟩
          exact ⟨Z.kp dis (rsg.kl k1), rs1, _, ⟨p1, zs1, ms1, rfl, rsg.fresh n1, o1, d1, by omega, h1⟩, rfl⟩
        rintro σ G ⟨Z, rsg, v, hv, rfl⟩
        refine ⟨fun σ' G => Zr K C W R O P1 R1 S D ws ss rr xs zs ms f G ∧ RS (4000 * i + 2600 + 8 * j + 2) G g ∧ ∃ v, (∃ (b : Addr) (zb : List V) (mb : List Mv), v = .ref b ∧ b ≠ g ∧ G b = some (.lst zb) ∧ DpAll K G zb (mb.map mvD) ∧ mb.length ≤ 300 ∧ ∀ x ∈ mb, SzM x) ∧ σ' = [some (.ref a), some (.ref g), some (.int (0 + (i : Nat))), some (.ref W), some (.ref R), some (.ref O), some (.ref S), some (.ref D), some (.int (0 + (j : Nat))), some v, z10, z11, y12], ?_, ?_⟩
        · refine ⟨_, rfl, rfl, _, rfl, ite2 (fun _ => ?_) (fun _ => ⟨Z, rsg, v, hv, rfl⟩)⟩
          refine ⟨_, rfl, _, rfl, _, rfl, slL (.inl (.inl Z.oS)) fun b1 G1 k1 n1 o1 => ?_⟩
          rw [show cutV zs none (some (-1)) = zs.take (zs.length - 1) from cutV_init zs] at o1
          refine ⟨_, rfl, R, _, rfl, .inl (.inl (.inl (k1 _ _ Z.oR))), by show 2 ≤ sizeLine; decide, fun pt npt => ?_⟩
          have spt := Same.new (o := .tup [.int (xs.length : Nat), .int 0]) npt
          have opt : upd G1 pt (.tup [.int (xs.length : Nat), .int 0]) pt = some (.tup [.int (xs.length : Nat), .int 0]) := upd_same
          generalize upd G1 pt (HO.tup ([.int (xs.length : Nat), .int 0] : List V)) = G2 at spt opt
          refine ⟨by show 1 ≤ sizeLine; decide, fun b2 nb2 => ?_⟩
          have sb2 := Same.new (o := .lst [.ref pt]) nb2
          have ob2 : upd G2 b2 (.lst [.ref pt]) b2 = some (.lst [.ref pt]) := upd_same
          generalize upd G2 b2 (HO.lst ([.ref pt] : List V)) = G3 at sb2 ob2
          have s3 := (k1.trans spt).trans sb2
          refine catL ((spt.trans sb2) _ _ o1) ob2 (by rw [List.length_take]; show min _ zs.length + 1 ≤ 100000; omega) fun b3 G4 k4 n4 o4 => ?_
          have s4 := s3.trans k4
          refine ⟨_, rfl, _, rfl, _, rfl, slLn (.inl (.inl (s4 _ _ Z.oS))) fun b5 G5 k5 n5 o5 => ?_⟩
          rw [show cutV zs (some (-1)) none = zs.drop (zs.length - 1) from cutV_last zs] at o5
          refine catL (k5 _ _ o4) o5 (by rw [List.length_append, List.length_take, List.length_drop]; show min _ zs.length + 1 + _ ≤ 100000; omega) fun b6 G6 k6 n6 o6 => ?_
          have s6 := (s4.trans k5).trans k6
          have Z6 := Z.same s6
          refine ⟨Z6, rsg.same s6, _, ⟨b6, _, ms.take (zs.length - 1) ++ ([(((xs.length : Nat) : Int), some 0)] : List Mv) ++ ms.drop (zs.length - 1), rfl, (rsg.same (s4.trans k5)).fresh n6, o6, ?_, ?_, fun x mx => ?_⟩, rfl⟩
          · rw [List.map_append, List.map_append, List.map_take, List.map_drop]
            exact dpa_app (dpa_app (dpa_take _ Z6.dM) (dpa_one (.tup (.inl (.inl (k6 _ _ (k5 _ _ (k4 _ _ (sb2 _ _ opt)))))) (.cons (.int _) (.cons (.int _) .nil))))) (dpa_drop _ Z6.dM)
          · rw [List.length_append, List.length_append, List.length_take, List.length_drop]
            show min _ ms.length + 1 + _ ≤ 300
            omega
          · rcases List.mem_append.mp mx with mx | mx
            · rcases List.mem_append.mp mx with mx | mx
              · exact szm x (List.mem_of_mem_take mx)
              · obtain rfl := List.mem_singleton.mp mx
                exact fun i e => by cases e; decide
            · exact szm x (List.mem_of_mem_drop mx)
        clear hv
        rintro σ G ⟨Z, rsg, v, hv, rfl⟩
        refine ⟨fun σ' G => Zr K C W R O P1 R1 S D ws ss rr xs zs ms f G ∧ RS (4000 * i + 2600 + 8 * j + 4) G g ∧ ∃ v, (∃ (b : Addr) (zb : List V) (mb : List Mv), v = .ref b ∧ b ≠ g ∧ G b = some (.lst zb) ∧ DpAll K G zb (mb.map mvD) ∧ mb.length ≤ 301 ∧ ∀ x ∈ mb, SzM x) ∧ σ' = [some (.ref a), some (.ref g), some (.int (0 + (i : Nat))), some (.ref W), some (.ref R), some (.ref O), some (.ref S), some (.ref D), some (.int (0 + (j : Nat))), some v, z10, z11, y12], ?_, ?_⟩
        · obtain ⟨b, zb, mb, rfl, bg, ob, db, lb, sb⟩ := hv
          refine ⟨_, rfl, _, _, rfl, rfl, _, rfl, ite2 (fun _ => ?_) (fun _ => ⟨_, rfl, Z, rsg.mono (by omega), _, ⟨b, zb, mb, rfl, bg, ob, db, by omega, sb⟩, rfl⟩)⟩
          refine ⟨_, rfl, _, rfl, _, rfl, g, R, b, 4000 * i + 2600 + 8 * j + 2, xs, zb, mb, rfl, rsg, by omega, Rg_, bg, Z.oR, by omega, ob, db, by omega, sb, fun p1 zs1 ms1 G1 k1 rs1 n1 o1 d1 l1 h1 => ?_⟩
          exact ⟨Z.kp dis (rsg.kl k1), rs1, _, ⟨p1, zs1, ms1, rfl, rsg.fresh n1, o1, d1, by omega, h1⟩, rfl⟩
        clear hv
        rintro σ G ⟨Z, rsg, v, ⟨b, zb, mb, rfl, bg, ob, db, lb, sb⟩, rfl⟩
        have lym := ly_mvs mb
        refine ⟨_, rfl, b, zb, rfl, .inl (.inl (.inl ob)), fun Kb nK => ?_⟩
        have sK := Same.new (o := .lst zb) nK
        have oK : upd G Kb (.lst zb) Kb = some (.lst zb) := upd_same
        generalize upd G Kb (HO.lst zb) = Ga at sK oK
        have Za := Z.same sK
        refine ⟨_, rfl, _, rfl, _, rfl, W, R, b, ws, rr, xs, zb, mb, rfl, .inl (.inl Za.oW), .inl (.inl Za.oR), Za.dR, rnw, wok.nd, .inl (.inl (sK _ _ ob)), dpa_same sK db, by omega, sb, fun v1 Gb kb t1 => ⟨_, _, rfl, ?_⟩⟩
        have Zb := Za.same kb
        have sb_ := sK.trans kb
        refine ⟨_, rfl, _, rfl, O, P1, R1, b, ss, rr, zb, mb, rfl, Zb.made, rnk, ssn, .inl (.inl (sb_ _ _ ob)), dpa_same sb_ db, by omega, sb, fun v2 Gc kc t2 => ?_⟩
        have Zc := Zb.same kc
        have sc_ := sb_.trans kc
        have e1 := told_m (K := K) t1
        have e2 := told_m (K := K) t2
        have pb := play_bad (rs := rr) (ms := mb) (g := noV) (i := 0)
        generalize badV rr noV 0 mb = bo at e1 e2 pb
        have lyd := dueM_ly bo
        refine ⟨_, rfl, dueMD bo, dueMD bo, e2, dp_same kc e1, lyd.shaped, lyd.shaped, false, by rw [lyd.eqv]; rfl, iteF ?_⟩
        refine ⟨_, rfl, _, rfl, _, _, .lst (.inl (.inl (sc_ _ _ ob))) (dpa_same sc_ db), .lst (.inl (.inl ((kb.trans kc) _ _ oK))) (dpa_same sc_ db), lym.shaped, lym.shaped, false, by rw [lym.eqv]; rfl, iteF ?_⟩
        refine ⟨_, rfl, _, rfl, O, P1, R1, b, ss, rr, zb, mb, rfl, Zc.made, rnk, ssn, .inl (.inl (sc_ _ _ ob)), dpa_same sc_ db, by omega, sb, fun Gd kd => ?_⟩
        refine ⟨_, rfl, dueMD bo, .str "fine", dp_same (kc.trans kd) e1, .str _, lyd.shaped, by decide +kernel, ?_⟩
        rw [dueM_fine, pb]
        exact ⟨rfl, false, bNe, iteF ⟨Zc.same kd, (rsg.same (sc_.trans kd)).mono (by omega), _, _, _, _, rfl⟩⟩
      rintro σ G ⟨Z, rsg, z8, z9, z10, z11, rfl⟩
      -- the end of a lap
      refine ⟨_, rfl, _, rfl, O, P1, R1, S, ss, rr, zs, ms, rfl, Z.made, rnk, ssn, .inl (.inl Z.oS), Z.dM, by omega, szm, fun v1 G1 k1 t1 => ?_⟩
      rw [bad_some pl] at t1
      have Z := Z.same k1
      refine ⟨dueMD none, .str "fine", told_m t1, .str _, (dueM_ly none).shaped, by decide +kernel, false, by decide +kernel, iteF ?_⟩
      refine ⟨_, rfl, by show 0 ≤ sizeLine; decide, fun E0 nE0 => ?_⟩
      have sE0 := Same.new (o := .lst []) nE0
      have oE0 : upd G1 E0 (.lst []) E0 = some (.lst []) := upd_same
      generalize upd G1 E0 (HO.lst ([] : List V)) = G2 at sE0 oE0
      have Z := Z.same sE0
      refine ⟨O, P1, R1, E0, ss, rr, [], [], rfl, Z.made, rnk, ssn, .inl (.inl oE0), .nil, by decide, fun _ m => absurd m (by simp), fun v2 G3 k3 t2 => ?_⟩
      have Z := Z.same k3
      refine ⟨dueMD none, .str "fine", told_m t2, .str _, (dueM_ly none).shaped, by decide +kernel, false, by decide +kernel, iteF ?_⟩
      refine ⟨_, rfl, _, rfl, _, rfl, mk_sys (.inl (.inl Z.oW)) (.inl (.inl Z.oR)) Z.dR (sysOk_of wok gd (by omega) (by omega)) (fun O2 G4 P2 R2 ss2 pm2 so2 sm2 _ _ _ made2 => ?_)⟩
      have e_ := sorted_unique (pm2.trans pm.symm) so2 so
      subst e_
      have Z := Z.same sm2
      have laid := laid_of wok gd pm
      obtain ⟨dxO, fsO, eO⟩ := Z.made.ins
      exact ⟨O, dxO, fsO, .ref C, rfl, eO, made2.ty T, nfC, O, P1, R1, ss2, rr, .ref O2, rfl, Z.made, .inr ⟨O2, P2, R2, ss2, rr, rfl, made2, laid, laid, true, congrArg V.bl ((eqS_self laid).trans laid.rs.eqv), true, rfl, iteF ⟨((rsg.same ((k1.trans sE0).trans k3)).same sm2).mono (by omega), _, _, _, _, _, _, _, _, _, _, _, rfl⟩⟩⟩
    · intro σ H' hw
      obtain ⟨_, y2, y3, y4, y5, y6, y7, y8, y9, y10, y11, y12, rfl⟩ := hw
      clear big
      refine ⟨by show 1 ≤ sizeLine; decide, fun L1 nL1 => ?_⟩
      have sL1 := Same.new (o := .lst [.str "x"]) nL1
      have oL1 : upd H' L1 (.lst [.str "x"]) L1 = some (.lst [.str "x"]) := upd_same
      generalize upd H' L1 (HO.lst ([.str "x"] : List V)) = H1 at sL1 oL1
      refine ⟨by show 0 ≤ sizeLine; decide, fun L2 nL2 => ?_⟩
      have sL2 := Same.new (o := .lst []) nL2
      have oL2 : upd H1 L2 (.lst []) L2 = some (.lst []) := upd_same
      generalize upd H1 L2 (HO.lst ([] : List V)) = H2 at sL2 oL2
      refine mk_sys (ns := (["x"] : List Str)) (rs := []) (.inl (.inl (sL2 _ _ oL1))) (.inl (.inl oL2)) .nil ⟨by decide +kernel, by decide +kernel, fun _ m => absurd m (by simp), fun _ m => absurd m (by simp), by decide, by decide⟩ (fun O G P1 R1 ss pm so sm _ _ _ made => ?_)
      obtain rfl : ss = (["x"] : List Str) := sorted_unique pm so (by decide +kernel)
      have rn0 : RnOk ["x"] [] := ⟨fun _ m => absurd m (by simp), fun _ m => absurd m (by simp), fun _ m => absurd m (by simp), fun _ m => absurd m (by simp), fun _ m => absurd m (by simp), by decide, by decide⟩
      refine ⟨_, rfl, by show 2 ≤ sizeLine; decide, fun m1 nm1 => ?_⟩
      have sm1 := Same.new (o := .tup [.int 0, .int 1]) nm1
      have om1 : upd G m1 (.tup [.int 0, .int 1]) m1 = some (.tup [.int 0, .int 1]) := upd_same
      generalize upd G m1 (HO.tup ([.int 0, .int 1] : List V)) = G1 at sm1 om1
      refine ⟨by show 1 ≤ sizeLine; decide, fun M1 nM1 => ?_⟩
      have sM1 := Same.new (o := .lst [.ref m1]) nM1
      have oM1 : upd G1 M1 (.lst [.ref m1]) M1 = some (.lst [.ref m1]) := upd_same
      generalize upd G1 M1 (HO.lst ([.ref m1] : List V)) = G2 at sM1 oM1
      refine ⟨O, P1, R1, M1, _, [], _, [(0, some 1)], rfl, made.same (sm1.trans sM1), rn0, by decide +kernel, .inl (.inl oM1), .cons (.tup (.inl (.inl (sM1 _ _ om1))) (.cons (.int _) (.cons (.int _) .nil))) .nil, by decide, fun x m i e => by
        obtain rfl := List.mem_singleton.mp m
        cases e
        decide, fun v1 G3 k3 t1 => ?_⟩
      have u3 := (sm1.trans sM1).trans k3
      refine ⟨_, rfl, _, rfl, by show 2 ≤ sizeLine; decide, fun m2 nm2 => ?_⟩
      have sm2 := Same.new (o := .tup [.int (-1), .non]) nm2
      have om2 : upd G3 m2 (.tup [.int (-1), .non]) m2 = some (.tup [.int (-1), .non]) := upd_same
      generalize upd G3 m2 (HO.tup ([.int (-1), .non] : List V)) = G4 at sm2 om2
      refine ⟨by show 1 ≤ sizeLine; decide, fun M2 nM2 => ?_⟩
      have sM2 := Same.new (o := .lst [.ref m2]) nM2
      have oM2 : upd G4 M2 (.lst [.ref m2]) M2 = some (.lst [.ref m2]) := upd_same
      generalize upd G4 M2 (HO.lst ([.ref m2] : List V)) = G5 at sM2 oM2
      refine ⟨O, P1, R1, M2, _, [], _, [(-1, none)], rfl, made.same ((u3.trans sm2).trans sM2), rn0, by decide +kernel, .inl (.inl oM2), .cons (.tup (.inl (.inl (sM2 _ _ om2))) (.cons (.int _) (.cons .non .nil))) .nil, by decide, (fun x m i e => by
        obtain rfl := List.mem_singleton.mp m
        cases e), fun v2 G6 k6 t2 => ?_⟩
      refine ⟨by show 2 ≤ sizeLine; decide, fun L3 nL3 => ?_⟩
      have sL3 := Same.new (o := .lst [v1, v2]) nL3
      have oL3 : upd G6 L3 (.lst [v1, v2]) L3 = some (.lst [v1, v2]) := upd_same
      generalize upd G6 L3 (HO.lst ([v1, v2] : List V)) = G7 at sL3 oL3
      refine ⟨by show 2 ≤ sizeLine; decide, fun d1 nd1 => ?_⟩
      have sd1 := Same.new (o := .tup [.str "move", .int 0]) nd1
      have od1 : upd G7 d1 (.tup [.str "move", .int 0]) d1 = some (.tup [.str "move", .int 0]) := upd_same
      generalize upd G7 d1 (HO.tup ([.str "move", .int 0] : List V)) = G8 at sd1 od1
      refine ⟨by show 2 ≤ sizeLine; decide, fun d2 nd2 => ?_⟩
      have sd2 := Same.new (o := .tup [.str "move", .int 0]) nd2
      have od2 : upd G8 d2 (.tup [.str "move", .int 0]) d2 = some (.tup [.str "move", .int 0]) := upd_same
      generalize upd G8 d2 (HO.tup ([.str "move", .int 0] : List V)) = G9 at sd2 od2
      refine ⟨by show 2 ≤ sizeLine; decide, fun L4 nL4 => ?_⟩
      have sL4 := Same.new (o := .lst [.ref d1, .ref d2]) nL4
      have oL4 : upd G9 L4 (.lst [.ref d1, .ref d2]) L4 = some (.lst [.ref d1, .ref d2]) := upd_same
      generalize upd G9 L4 (HO.lst ([.ref d1, .ref d2] : List V)) = G10 at sL4 oL4
      have e1 : Dp K G3 v1 (dueMD (some 0)) := told_m t1
      have e2 : Dp K G6 v2 (dueMD (some 0)) := told_m t2
      have w6 := (((sL3.trans sd1).trans sd2).trans sL4)
      have w3 := ((sm2.trans sM2).trans k6).trans w6
      have lyd := dueM_ly (some 0)
      have ly2 : Ly 3 (.list [dueMD (some 0), dueMD (some 0)]) := Ly.list (lyA_of fun d md => by
        simp only [List.mem_cons, List.not_mem_nil, or_false] at md
        rcases md with rfl | rfl <;> exact lyd)
      refine ⟨.list [dueMD (some 0), dueMD (some 0)], .list [dueMD (some 0), dueMD (some 0)], .lst (.inl (.inl (((sd1.trans sd2).trans sL4) _ _ oL3))) (.cons (dp_same w3 e1) (.cons (dp_same w6 e2) .nil)), .lst (.inl (.inl oL4)) (.cons (.tup (.inl (.inl (sL4 _ _ (sd2 _ _ od1)))) (.cons (.str _) (.cons (.int _) .nil))) (.cons (.tup (.inl (.inl (sL4 _ _ od2))) (.cons (.str _) (.cons (.int _) .nil))) .nil)), ly2.shaped, ly2.shaped, ?_⟩
      rw [ly2.eqv]
      exact q _
end

end Pk36
namespace Pk36
open PySem PySem.Spec PyProof.Rows L2 Gd
set_option maxHeartbeats 8000000
variable {P : Program} {w : World} {K : PySem.W.Frag} {mg : Str → Option Value}
theorem at_mk {x : Str} {st : Stmt} {ps : List Str} {h : Heap} {f : Addr} {oc : Value} {od an : Option Addr} {sl : Array (Option Value)} {kV dc pm cd ct : Value} (X : K.In h) (G : h.Ns mainGlobals mg) (a : PySem.W.nsIn K mainGlobals x = some (some (.ref f))) (l : K.lookup f = some ⟨oc, od, .func (PySem.W.fnOf x x (defArgs st) (defBody st) (defScope st) .none kV dc pm an cd ct), sl⟩) (c : PySem.W.codeIn K cd x = true) (k : PySem.W.keepIn K (.ref f) = true)
    (b : ∀ (kV doc pm : Value) (an : Option Addr) (cdv ct : Value) (us : List Value), us.length = ps.length → bindArgs (PySem.W.fnOf x x (defArgs st) (defBody st) (defScope st) .none kV doc pm an cdv ct) ⟨us, []⟩ = pure (ps.zip us)) : At K mg x st ps :=
  ⟨f, _, fun_mk l c k, (fun_mk l c k).binds b, PySem.W.mg_of X G a⟩
theorem all_mk {l : PySem.W.OpenLaw} {h : Heap} {fa : Addr} (X : K.In h) (G : h.Ns mainGlobals mg) (hfa : mg "law" = some (.ref fa))
    {f0 f1 f2 f3 f4 f5 f6 f7 f8 f9 f10 f11 f12 f13 f14 f15 f16 f17 f18 f19 f20 f21 f22 f23 f24 f25 f26 f27 f28 f29 f30 f31 f32 f33 f34 f35 f36 : Addr} {od0 an0 od1 an1 od2 an2 od3 an3 od4 an4 od5 an5 od6 an6 od7 an7 od8 an8 od9 an9 od10 an10 od11 an11 od12 an12 od13 an13 od14 an14 od15 an15 od16 an16 od17 an17 od18 an18 od19 an19 od20 an20 od21 an21 od22 an22 od23 an23 od24 an24 od25 an25 od26 an26 od27 an27 od28 an28 od29 an29 od30 an30 od31 an31 od32 an32 od33 an33 od34 an34 od35 an35 od36 an36 : Option Addr} {sl0 sl1 sl2 sl3 sl4 sl5 sl6 sl7 sl8 sl9 sl10 sl11 sl12 sl13 sl14 sl15 sl16 sl17 sl18 sl19 sl20 sl21 sl22 sl23 sl24 sl25 sl26 sl27 sl28 sl29 sl30 sl31 sl32 sl33 sl34 sl35 sl36 : Array (Option Value)} {oc0 kV0 dc0 pm0 cd0 ct0 oc1 kV1 dc1 pm1 cd1 ct1 oc2 kV2 dc2 pm2 cd2 ct2 oc3 kV3 dc3 pm3 cd3 ct3 oc4 kV4 dc4 pm4 cd4 ct4 oc5 kV5 dc5 pm5 cd5 ct5 oc6 kV6 dc6 pm6 cd6 ct6 oc7 kV7 dc7 pm7 cd7 ct7 oc8 kV8 dc8 pm8 cd8 ct8 oc9 kV9 dc9 pm9 cd9 ct9 oc10 kV10 dc10 pm10 cd10 ct10 oc11 kV11 dc11 pm11 cd11 ct11 oc12 kV12 dc12 pm12 cd12 ct12 oc13 kV13 dc13 pm13 cd13 ct13 oc14 kV14 dc14 pm14 cd14 ct14 oc15 kV15 dc15 pm15 cd15 ct15 oc16 kV16 dc16 pm16 cd16 ct16 oc17 kV17 dc17 pm17 cd17 ct17 oc18 kV18 dc18 pm18 cd18 ct18 oc19 kV19 dc19 pm19 cd19 ct19 oc20 kV20 dc20 pm20 cd20 ct20 oc21 kV21 dc21 pm21 cd21 ct21 oc22 kV22 dc22 pm22 cd22 ct22 oc23 kV23 dc23 pm23 cd23 ct23 oc24 kV24 dc24 pm24 cd24 ct24 oc25 kV25 dc25 pm25 cd25 ct25 oc26 kV26 dc26 pm26 cd26 ct26 oc27 kV27 dc27 pm27 cd27 ct27 oc28 kV28 dc28 pm28 cd28 ct28 oc29 kV29 dc29 pm29 cd29 ct29 oc30 kV30 dc30 pm30 cd30 ct30 oc31 kV31 dc31 pm31 cd31 ct31 oc32 kV32 dc32 pm32 cd32 ct32 oc33 kV33 dc33 pm33 cd33 ct33 oc34 kV34 dc34 pm34 cd34 ct34 oc35 kV35 dc35 pm35 cd35 ct35 oc36 kV36 dc36 pm36 cd36 ct36 : Value}
    {C : Addr} {pp15 pp16 : Addr} {rest15 rest16 : List Value}
    {e0 eN0 e1 eN1 e2 eN2 e3 eN3 e4 eN4 e5 eN5 e6 eN6 e7 eN7 e8 eN8 e9 eN9 : Addr} {en0 eq0 en1 eq1 en2 eq2 en3 eq3 en4 eq4 en5 eq5 en6 eq6 en7 eq7 en8 eq8 en9 eq9 : Str} {ebs0 ebm0 esub0 ebs1 ebm1 esub1 ebs2 ebm2 esub2 ebs3 ebm3 esub3 ebs4 ebm4 esub4 ebs5 ebm5 esub5 ebs6 ebm6 esub6 ebs7 ebm7 esub7 ebs8 ebm8 esub8 ebs9 ebm9 esub9 : List Value} {esn0 esn1 esn2 esn3 esn4 esn5 esn6 esn7 esn8 esn9 : List Str} {eab0 eab1 eab2 eab3 eab4 eab5 eab6 eab7 eab8 eab9 : Bool} {ecol0 ecol1 ecol2 ecol3 ecol4 ecol5 ecol6 ecol7 ecol8 ecol9 : Option Bool} {edd0 edd1 edd2 edd3 edd4 edd5 edd6 edd7 edd8 edd9 : Option Addr} {ek00 ek10 ek20 ek30 ek50 ek01 ek11 ek21 ek31 ek51 ek02 ek12 ek22 ek32 ek52 ek03 ek13 ek23 ek33 ek53 ek04 ek14 ek24 ek34 ek54 ek05 ek15 ek25 ek35 ek55 ek06 ek16 ek26 ek36 ek56 ek07 ek17 ek27 ek37 ek57 ek08 ek18 ek28 ek38 ek58 ek09 ek19 ek29 ek39 ek59 : Option Value}
    (aC : PySem.W.nsIn K mainGlobals "System" = some (some (.ref C)))
    (pg : PySem.W.plainGet K C Str.empty = true)
    (hd : PySem.W.hasDictIn K C = true)
    (po : PySem.W.plainOver K C = true)
    (sa : PySem.W.findIn K (.ref C) "__setattr__" = some (some (.builtin "object.__setattr__")))
    (mk : PySem.W.makesIn K C = true)
    (kc : PySem.W.keepIn K (.ref C) = true)
    (nN : PySem.W.findIn K (.ref C) "_names" = some none)
    (nR : PySem.W.findIn K (.ref C) "_rules" = some none)
    (ha : PySem.W.findIn K (.ref C) "__class__" = some (some (.builtin "object.__class__")))
    (hn : PySem.W.specialIn K (.builtin "object.__class__") "__get__" = some (some (.builtin "getset_descriptor.__get__")))
    (ht : PySem.W.takesIn K (.builtin "object.__class__") = some true)
    (hm : PySem.W.mroIn K C (.type "object") = some true)
    (ki : PySem.W.isClsIn K C = true)
    (ty : PySem.W.typeIn K (.ref C) = some (.type "type"))
    (xn0 : PySem.W.nsIn K mainGlobals "RangeError" = some (some (.ref e0)))
    (xl0 : K.lookup e0 = some (excClassObj en0 eq0 e0 eN0 ebs0 ebm0 true esn0 esub0 eab0 ecol0 edd0 ek00 ek10 ek20 ek30 ek50 "ValueError.__new__"))
    (xr0 : PySem.HandSPX.refsVE ebm0 = true)
    (xn1 : PySem.W.nsIn K mainGlobals "InvalidRange" = some (some (.ref e1)))
    (xl1 : K.lookup e1 = some (excClassObj en1 eq1 e1 eN1 ebs1 ebm1 true esn1 esub1 eab1 ecol1 edd1 ek01 ek11 ek21 ek31 ek51 "ValueError.__new__"))
    (xr1 : PySem.HandSPX.refsVE ebm1 = true)
    (xn2 : PySem.W.nsIn K mainGlobals "InvalidName" = some (some (.ref e2)))
    (xl2 : K.lookup e2 = some (excClassObj en2 eq2 e2 eN2 ebs2 ebm2 true esn2 esub2 eab2 ecol2 edd2 ek02 ek12 ek22 ek32 ek52 "ValueError.__new__"))
    (xr2 : PySem.HandSPX.refsVE ebm2 = true)
    (xn3 : PySem.W.nsIn K mainGlobals "InvalidSystem" = some (some (.ref e3)))
    (xl3 : K.lookup e3 = some (excClassObj en3 eq3 e3 eN3 ebs3 ebm3 true esn3 esub3 eab3 ecol3 edd3 ek03 ek13 ek23 ek33 ek53 "ValueError.__new__"))
    (xr3 : PySem.HandSPX.refsVE ebm3 = true)
    (xn4 : PySem.W.nsIn K mainGlobals "InvalidRule" = some (some (.ref e4)))
    (xl4 : K.lookup e4 = some (excClassObj en4 eq4 e4 eN4 ebs4 ebm4 true esn4 esub4 eab4 ecol4 edd4 ek04 ek14 ek24 ek34 ek54 "ValueError.__new__"))
    (xr4 : PySem.HandSPX.refsVE ebm4 = true)
    (xn5 : PySem.W.nsIn K mainGlobals "UnknownName" = some (some (.ref e5)))
    (xl5 : K.lookup e5 = some (excClassObj en5 eq5 e5 eN5 ebs5 ebm5 true esn5 esub5 eab5 ecol5 edd5 ek05 ek15 ek25 ek35 ek55 "ValueError.__new__"))
    (xr5 : PySem.HandSPX.refsVE ebm5 = true)
    (xn6 : PySem.W.nsIn K mainGlobals "InvalidNumber" = some (some (.ref e6)))
    (xl6 : K.lookup e6 = some (excClassObj en6 eq6 e6 eN6 ebs6 ebm6 true esn6 esub6 eab6 ecol6 edd6 ek06 ek16 ek26 ek36 ek56 "ValueError.__new__"))
    (xr6 : PySem.HandSPX.refsVE ebm6 = true)
    (xn7 : PySem.W.nsIn K mainGlobals "InvalidMove" = some (some (.ref e7)))
    (xl7 : K.lookup e7 = some (excClassObj en7 eq7 e7 eN7 ebs7 ebm7 true esn7 esub7 eab7 ecol7 edd7 ek07 ek17 ek27 ek37 ek57 "ValueError.__new__"))
    (xr7 : PySem.HandSPX.refsVE ebm7 = true)
    (xn8 : PySem.W.nsIn K mainGlobals "NothingToUndo" = some (some (.ref e8)))
    (xl8 : K.lookup e8 = some (excClassObj en8 eq8 e8 eN8 ebs8 ebm8 true esn8 esub8 eab8 ecol8 edd8 ek08 ek18 ek28 ek38 ek58 "ValueError.__new__"))
    (xr8 : PySem.HandSPX.refsVE ebm8 = true)
    (xn9 : PySem.W.nsIn K mainGlobals "Unreadable" = some (some (.ref e9)))
    (xl9 : K.lookup e9 = some (excClassObj en9 eq9 e9 eN9 ebs9 ebm9 true esn9 esub9 eab9 ecol9 edd9 ek09 ek19 ek29 ek39 ek59 "ValueError.__new__"))
    (xr9 : PySem.HandSPX.refsVE ebm9 = true)
    (xi : PySem.W.findIn K (.ref e0) "__init__" = some (some (.ref f30)))
    (xb0 : errB K e0 f30 = true)
    (xk0 : kitB K e0 0 0 [e0, e1, e2, e3, e4, e5, e6, e7, e8, e9] = true)
    (xb1 : errB K e1 f30 = true)
    (xk1 : kitB K e1 1 0 [e0, e1, e2, e3, e4, e5, e6, e7, e8, e9] = true)
    (xb2 : errB K e2 f30 = true)
    (xk2 : kitB K e2 2 0 [e0, e1, e2, e3, e4, e5, e6, e7, e8, e9] = true)
    (xb3 : errB K e3 f30 = true)
    (xk3 : kitB K e3 3 0 [e0, e1, e2, e3, e4, e5, e6, e7, e8, e9] = true)
    (xb4 : errB K e4 f30 = true)
    (xk4 : kitB K e4 4 0 [e0, e1, e2, e3, e4, e5, e6, e7, e8, e9] = true)
    (xb5 : errB K e5 f30 = true)
    (xk5 : kitB K e5 5 0 [e0, e1, e2, e3, e4, e5, e6, e7, e8, e9] = true)
    (xb6 : errB K e6 f30 = true)
    (xk6 : kitB K e6 6 0 [e0, e1, e2, e3, e4, e5, e6, e7, e8, e9] = true)
    (xb7 : errB K e7 f30 = true)
    (xk7 : kitB K e7 7 0 [e0, e1, e2, e3, e4, e5, e6, e7, e8, e9] = true)
    (xb8 : errB K e8 f30 = true)
    (xk8 : kitB K e8 8 0 [e0, e1, e2, e3, e4, e5, e6, e7, e8, e9] = true)
    (xb9 : errB K e9 f30 = true)
    (xk9 : kitB K e9 9 0 [e0, e1, e2, e3, e4, e5, e6, e7, e8, e9] = true)
    (xj : initB K f30 = true)
    (a0 : PySem.W.nsIn K mainGlobals "is_upside_down" = some (some (.ref f0))) (l0 : K.lookup f0 = some ⟨oc0, od0, .func (PySem.W.fnOf "is_upside_down" "is_upside_down" (defArgs s_is_upside_down) (defBody s_is_upside_down) (defScope s_is_upside_down) .none kV0 dc0 pm0 an0 cd0 ct0), sl0⟩) (c0 : PySem.W.codeIn K cd0 "is_upside_down" = true) (k0 : PySem.W.keepIn K (.ref f0) = true)
    (a1 : PySem.W.nsIn K mainGlobals "check_range" = some (some (.ref f1))) (l1 : K.lookup f1 = some ⟨oc1, od1, .func (PySem.W.fnOf "check_range" "check_range" (defArgs s_check_range) (defBody s_check_range) (defScope s_check_range) .none kV1 dc1 pm1 an1 cd1 ct1), sl1⟩) (c1 : PySem.W.codeIn K cd1 "check_range" = true) (k1 : PySem.W.keepIn K (.ref f1) = true)
    (a2 : PySem.W.nsIn K mainGlobals "_least" = some (some (.ref f2))) (l2 : K.lookup f2 = some ⟨oc2, od2, .func (PySem.W.fnOf "_least" "_least" (defArgs s__least) (defBody s__least) (defScope s__least) .none kV2 dc2 pm2 an2 cd2 ct2), sl2⟩) (c2 : PySem.W.codeIn K cd2 "_least" = true) (k2 : PySem.W.keepIn K (.ref f2) = true)
    (a3 : PySem.W.nsIn K mainGlobals "_greatest" = some (some (.ref f3))) (l3 : K.lookup f3 = some ⟨oc3, od3, .func (PySem.W.fnOf "_greatest" "_greatest" (defArgs s__greatest) (defBody s__greatest) (defScope s__greatest) .none kV3 dc3 pm3 an3 cd3 ct3), sl3⟩) (c3 : PySem.W.codeIn K cd3 "_greatest" = true) (k3 : PySem.W.keepIn K (.ref f3) = true)
    (a4 : PySem.W.nsIn K mainGlobals "common" = some (some (.ref f4))) (l4 : K.lookup f4 = some ⟨oc4, od4, .func (PySem.W.fnOf "common" "common" (defArgs s_common) (defBody s_common) (defScope s_common) .none kV4 dc4 pm4 an4 cd4 ct4), sl4⟩) (c4 : PySem.W.codeIn K cd4 "common" = true) (k4 : PySem.W.keepIn K (.ref f4) = true)
    (a5 : PySem.W.nsIn K mainGlobals "lies_within" = some (some (.ref f5))) (l5 : K.lookup f5 = some ⟨oc5, od5, .func (PySem.W.fnOf "lies_within" "lies_within" (defArgs s_lies_within) (defBody s_lies_within) (defScope s_lies_within) .none kV5 dc5 pm5 an5 cd5 ct5), sl5⟩) (c5 : PySem.W.codeIn K cd5 "lies_within" = true) (k5 : PySem.W.keepIn K (.ref f5) = true)
    (a6 : PySem.W.nsIn K mainGlobals "_law_draw" = some (some (.ref f6))) (l6 : K.lookup f6 = some ⟨oc6, od6, .func (PySem.W.fnOf "_law_draw" "_law_draw" (defArgs s__law_draw) (defBody s__law_draw) (defScope s__law_draw) .none kV6 dc6 pm6 an6 cd6 ct6), sl6⟩) (c6 : PySem.W.codeIn K cd6 "_law_draw" = true) (k6 : PySem.W.keepIn K (.ref f6) = true)
    (a7 : PySem.W.nsIn K mainGlobals "_law_rng" = some (some (.ref f7))) (l7 : K.lookup f7 = some ⟨oc7, od7, .func (PySem.W.fnOf "_law_rng" "_law_rng" (defArgs s__law_rng) (defBody s__law_rng) (defScope s__law_rng) .none kV7 dc7 pm7 an7 cd7 ct7), sl7⟩) (c7 : PySem.W.codeIn K cd7 "_law_rng" = true) (k7 : PySem.W.keepIn K (.ref f7) = true)
    (a8 : PySem.W.nsIn K mainGlobals "_names_of" = some (some (.ref f8))) (l8 : K.lookup f8 = some ⟨oc8, od8, .func (PySem.W.fnOf "_names_of" "_names_of" (defArgs s__names_of) (defBody s__names_of) (defScope s__names_of) .none kV8 dc8 pm8 an8 cd8 ct8), sl8⟩) (c8 : PySem.W.codeIn K cd8 "_names_of" = true) (k8 : PySem.W.keepIn K (.ref f8) = true)
    (a9 : PySem.W.nsIn K mainGlobals "_ranges_of" = some (some (.ref f9))) (l9 : K.lookup f9 = some ⟨oc9, od9, .func (PySem.W.fnOf "_ranges_of" "_ranges_of" (defArgs s__ranges_of) (defBody s__ranges_of) (defScope s__ranges_of) .none kV9 dc9 pm9 an9 cd9 ct9), sl9⟩) (c9 : PySem.W.codeIn K cd9 "_ranges_of" = true) (k9 : PySem.W.keepIn K (.ref f9) = true)
    (a10 : PySem.W.nsIn K mainGlobals "is_faulty" = some (some (.ref f10))) (l10 : K.lookup f10 = some ⟨oc10, od10, .func (PySem.W.fnOf "is_faulty" "is_faulty" (defArgs s_is_faulty) (defBody s_is_faulty) (defScope s_is_faulty) .none kV10 dc10 pm10 an10 cd10 ct10), sl10⟩) (c10 : PySem.W.codeIn K cd10 "is_faulty" = true) (k10 : PySem.W.keepIn K (.ref f10) = true)
    (a11 : PySem.W.nsIn K mainGlobals "is_name" = some (some (.ref f11))) (l11 : K.lookup f11 = some ⟨oc11, od11, .func (PySem.W.fnOf "is_name" "is_name" (defArgs s_is_name) (defBody s_is_name) (defScope s_is_name) .none kV11 dc11 pm11 an11 cd11 ct11), sl11⟩) (c11 : PySem.W.codeIn K cd11 "is_name" = true) (k11 : PySem.W.keepIn K (.ref f11) = true)
    (a12 : PySem.W.nsIn K mainGlobals "_check_system" = some (some (.ref f12))) (l12 : K.lookup f12 = some ⟨oc12, od12, .func (PySem.W.fnOf "_check_system" "_check_system" (defArgs s__check_system) (defBody s__check_system) (defScope s__check_system) .none kV12 dc12 pm12 an12 cd12 ct12), sl12⟩) (c12 : PySem.W.codeIn K cd12 "_check_system" = true) (k12 : PySem.W.keepIn K (.ref f12) = true)
    (a13 : PySem.W.findIn K (.ref C) "__init__" = some (some (.ref f13))) (i13 : PySem.W.isFn K (.ref f13) = true) (l13 : K.lookup f13 = some ⟨oc13, od13, .func (PySem.W.fnOf "__init__" "System.__init__" (defArgs s_System___init__) (defBody s_System___init__) (defScope s_System___init__) .none kV13 dc13 pm13 an13 cd13 ct13), sl13⟩) (c13 : PySem.W.codeIn K cd13 "System.__init__" = true) (k13 : PySem.W.keepIn K (.ref f13) = true)
    (a14 : PySem.W.findIn K (.ref C) "__len__" = some (some (.ref f14))) (i14 : PySem.W.isFn K (.ref f14) = true) (l14 : K.lookup f14 = some ⟨oc14, od14, .func (PySem.W.fnOf "__len__" "System.__len__" (defArgs s_System___len__) (defBody s_System___len__) (defScope s_System___len__) .none kV14 dc14 pm14 an14 cd14 ct14), sl14⟩) (c14 : PySem.W.codeIn K cd14 "System.__len__" = true) (k14 : PySem.W.keepIn K (.ref f14) = true)
    (a15 : PySem.W.findIn K (.ref C) "names" = some (some (.ref pp15))) (g15 : PySem.W.specialIn K (.ref pp15) "__get__" = some (some (.builtin "property.__get__"))) (t15 : PySem.W.takesIn K (.ref pp15) = some true) (r15 : PySem.W.recIn K pp15 "property" = some (.ref f15 :: rest15)) (l15 : K.lookup f15 = some ⟨oc15, od15, .func (PySem.W.fnOf "names" "System.names" (defArgs s_System_names) (defBody s_System_names) (defScope s_System_names) .none kV15 dc15 pm15 an15 cd15 ct15), sl15⟩) (c15 : PySem.W.codeIn K cd15 "System.names" = true) (k15 : PySem.W.keepIn K (.ref f15) = true)
    (a16 : PySem.W.findIn K (.ref C) "rules" = some (some (.ref pp16))) (g16 : PySem.W.specialIn K (.ref pp16) "__get__" = some (some (.builtin "property.__get__"))) (t16 : PySem.W.takesIn K (.ref pp16) = some true) (r16 : PySem.W.recIn K pp16 "property" = some (.ref f16 :: rest16)) (l16 : K.lookup f16 = some ⟨oc16, od16, .func (PySem.W.fnOf "rules" "System.rules" (defArgs s_System_rules) (defBody s_System_rules) (defScope s_System_rules) .none kV16 dc16 pm16 an16 cd16 ct16), sl16⟩) (c16 : PySem.W.codeIn K cd16 "System.rules" = true) (k16 : PySem.W.keepIn K (.ref f16) = true)
    (a17 : PySem.W.findIn K (.ref C) "__eq__" = some (some (.ref f17))) (i17 : PySem.W.isFn K (.ref f17) = true) (l17 : K.lookup f17 = some ⟨oc17, od17, .func (PySem.W.fnOf "__eq__" "System.__eq__" (defArgs s_System___eq__) (defBody s_System___eq__) (defScope s_System___eq__) .none kV17 dc17 pm17 an17 cd17 ct17), sl17⟩) (c17 : PySem.W.codeIn K cd17 "System.__eq__" = true) (k17 : PySem.W.keepIn K (.ref f17) = true)
    (a18 : PySem.W.nsIn K mainGlobals "_law_words" = some (some (.ref f18))) (l18 : K.lookup f18 = some ⟨oc18, od18, .func (PySem.W.fnOf "_law_words" "_law_words" (defArgs s__law_words) (defBody s__law_words) (defScope s__law_words) .none kV18 dc18 pm18 an18 cd18 ct18), sl18⟩) (c18 : PySem.W.codeIn K cd18 "_law_words" = true) (k18 : PySem.W.keepIn K (.ref f18) = true)
    (a19 : PySem.W.nsIn K mainGlobals "_law_end" = some (some (.ref f19))) (l19 : K.lookup f19 = some ⟨oc19, od19, .func (PySem.W.fnOf "_law_end" "_law_end" (defArgs s__law_end) (defBody s__law_end) (defScope s__law_end) .none kV19 dc19 pm19 an19 cd19 ct19), sl19⟩) (c19 : PySem.W.codeIn K cd19 "_law_end" = true) (k19 : PySem.W.keepIn K (.ref f19) = true)
    (a20 : PySem.W.nsIn K mainGlobals "_law_within" = some (some (.ref f20))) (l20 : K.lookup f20 = some ⟨oc20, od20, .func (PySem.W.fnOf "_law_within" "_law_within" (defArgs s__law_within) (defBody s__law_within) (defScope s__law_within) .none kV20 dc20 pm20 an20 cd20 ct20), sl20⟩) (c20 : PySem.W.codeIn K cd20 "_law_within" = true) (k20 : PySem.W.keepIn K (.ref f20) = true)
    (a21 : PySem.W.nsIn K mainGlobals "_law_rule" = some (some (.ref f21))) (l21 : K.lookup f21 = some ⟨oc21, od21, .func (PySem.W.fnOf "_law_rule" "_law_rule" (defArgs s__law_rule) (defBody s__law_rule) (defScope s__law_rule) .none kV21 dc21 pm21 an21 cd21 ct21), sl21⟩) (c21 : PySem.W.codeIn K cd21 "_law_rule" = true) (k21 : PySem.W.keepIn K (.ref f21) = true)
    (a22 : PySem.W.nsIn K mainGlobals "_law_rows" = some (some (.ref f22))) (l22 : K.lookup f22 = some ⟨oc22, od22, .func (PySem.W.fnOf "_law_rows" "_law_rows" (defArgs s__law_rows) (defBody s__law_rows) (defScope s__law_rows) .none kV22 dc22 pm22 an22 cd22 ct22), sl22⟩) (c22 : PySem.W.codeIn K cd22 "_law_rows" = true) (k22 : PySem.W.keepIn K (.ref f22) = true)
    (a23 : PySem.W.nsIn K mainGlobals "has_value" = some (some (.ref f23))) (l23 : K.lookup f23 = some ⟨oc23, od23, .func (PySem.W.fnOf "has_value" "has_value" (defArgs s_has_value) (defBody s_has_value) (defScope s_has_value) .none kV23 dc23 pm23 an23 cd23 ct23), sl23⟩) (c23 : PySem.W.codeIn K cd23 "has_value" = true) (k23 : PySem.W.keepIn K (.ref f23) = true)
    (a24 : PySem.W.nsIn K mainGlobals "_is_possible" = some (some (.ref f24))) (l24 : K.lookup f24 = some ⟨oc24, od24, .func (PySem.W.fnOf "_is_possible" "_is_possible" (defArgs s__is_possible) (defBody s__is_possible) (defScope s__is_possible) .none kV24 dc24 pm24 an24 cd24 ct24), sl24⟩) (c24 : PySem.W.codeIn K cd24 "_is_possible" = true) (k24 : PySem.W.keepIn K (.ref f24) = true)
    (a25 : PySem.W.nsIn K mainGlobals "values_behind" = some (some (.ref f25))) (l25 : K.lookup f25 = some ⟨oc25, od25, .func (PySem.W.fnOf "values_behind" "values_behind" (defArgs s_values_behind) (defBody s_values_behind) (defScope s_values_behind) .none kV25 dc25 pm25 an25 cd25 ct25), sl25⟩) (c25 : PySem.W.codeIn K cd25 "values_behind" = true) (k25 : PySem.W.keepIn K (.ref f25) = true)
    (a26 : PySem.W.nsIn K mainGlobals "_law_inside" = some (some (.ref f26))) (l26 : K.lookup f26 = some ⟨oc26, od26, .func (PySem.W.fnOf "_law_inside" "_law_inside" (defArgs s__law_inside) (defBody s__law_inside) (defScope s__law_inside) .none kV26 dc26 pm26 an26 cd26 ct26), sl26⟩) (c26 : PySem.W.codeIn K cd26 "_law_inside" = true) (k26 : PySem.W.keepIn K (.ref f26) = true)
    (a27 : PySem.W.nsIn K mainGlobals "_law_next" = some (some (.ref f27))) (l27 : K.lookup f27 = some ⟨oc27, od27, .func (PySem.W.fnOf "_law_next" "_law_next" (defArgs s__law_next) (defBody s__law_next) (defScope s__law_next) .none kV27 dc27 pm27 an27 cd27 ct27), sl27⟩) (c27 : PySem.W.codeIn K cd27 "_law_next" = true) (k27 : PySem.W.keepIn K (.ref f27) = true)
    (a28 : PySem.W.nsIn K mainGlobals "_law_spot" = some (some (.ref f28))) (l28 : K.lookup f28 = some ⟨oc28, od28, .func (PySem.W.fnOf "_law_spot" "_law_spot" (defArgs s__law_spot) (defBody s__law_spot) (defScope s__law_spot) .none kV28 dc28 pm28 an28 cd28 ct28), sl28⟩) (c28 : PySem.W.codeIn K cd28 "_law_spot" = true) (k28 : PySem.W.keepIn K (.ref f28) = true)
    (a29 : PySem.W.nsIn K mainGlobals "_law_moves" = some (some (.ref f29))) (l29 : K.lookup f29 = some ⟨oc29, od29, .func (PySem.W.fnOf "_law_moves" "_law_moves" (defArgs s__law_moves) (defBody s__law_moves) (defScope s__law_moves) .none kV29 dc29 pm29 an29 cd29 ct29), sl29⟩) (c29 : PySem.W.codeIn K cd29 "_law_moves" = true) (k29 : PySem.W.keepIn K (.ref f29) = true)
    (l30 : K.lookup f30 = some ⟨oc30, od30, .func (PySem.W.fnOf "__init__" "RangeError.__init__" (defArgs s_RangeError___init__) (defBody s_RangeError___init__) (defScope s_RangeError___init__) .none kV30 dc30 pm30 an30 cd30 ct30), sl30⟩) (c30 : PySem.W.codeIn K cd30 "RangeError.__init__" = true) (k30 : PySem.W.keepIn K (.ref f30) = true)
    (a31 : PySem.W.nsIn K mainGlobals "is_run" = some (some (.ref f31))) (l31 : K.lookup f31 = some ⟨oc31, od31, .func (PySem.W.fnOf "is_run" "is_run" (defArgs s_is_run) (defBody s_is_run) (defScope s_is_run) .none kV31 dc31 pm31 an31 cd31 ct31), sl31⟩) (c31 : PySem.W.codeIn K cd31 "is_run" = true) (k31 : PySem.W.keepIn K (.ref f31) = true)
    (a32 : PySem.W.nsIn K mainGlobals "_law_bent" = some (some (.ref f32))) (l32 : K.lookup f32 = some ⟨oc32, od32, .func (PySem.W.fnOf "_law_bent" "_law_bent" (defArgs s__law_bent) (defBody s__law_bent) (defScope s__law_bent) .none kV32 dc32 pm32 an32 cd32 ct32), sl32⟩) (c32 : PySem.W.codeIn K cd32 "_law_bent" = true) (k32 : PySem.W.keepIn K (.ref f32) = true)
    (a33 : PySem.W.nsIn K mainGlobals "_law_caught" = some (some (.ref f33))) (l33 : K.lookup f33 = some ⟨oc33, od33, .func (PySem.W.fnOf "_law_caught" "_law_caught" (defArgs s__law_caught) (defBody s__law_caught) (defScope s__law_caught) .none kV33 dc33 pm33 an33 cd33 ct33), sl33⟩) (c33 : PySem.W.codeIn K cd33 "_law_caught" = true) (k33 : PySem.W.keepIn K (.ref f33) = true)
    (a34 : PySem.W.nsIn K mainGlobals "_law_raised" = some (some (.ref f34))) (l34 : K.lookup f34 = some ⟨oc34, od34, .func (PySem.W.fnOf "_law_raised" "_law_raised" (defArgs s__law_raised) (defBody s__law_raised) (defScope s__law_raised) .none kV34 dc34 pm34 an34 cd34 ct34), sl34⟩) (c34 : PySem.W.codeIn K cd34 "_law_raised" = true) (k34 : PySem.W.keepIn K (.ref f34) = true)
    (a35 : PySem.W.nsIn K mainGlobals "_law_due" = some (some (.ref f35))) (l35 : K.lookup f35 = some ⟨oc35, od35, .func (PySem.W.fnOf "_law_due" "_law_due" (defArgs s__law_due) (defBody s__law_due) (defScope s__law_due) .none kV35 dc35 pm35 an35 cd35 ct35), sl35⟩) (c35 : PySem.W.codeIn K cd35 "_law_due" = true) (k35 : PySem.W.keepIn K (.ref f35) = true)
    (a36 : PySem.W.nsIn K mainGlobals "law" = some (some (.ref f36))) (l36 : K.lookup f36 = some ⟨oc36, od36, .func (PySem.W.fnOf "law" "law" (defArgs s_law) (defBody s_law) (defScope s_law) .none kV36 dc36 pm36 an36 cd36 ct36), sl36⟩) (c36 : PySem.W.codeIn K cd36 "law" = true) (k36 : PySem.W.keepIn K (.ref f36) = true)
    (z0 : PySem.W.nsIn K mainGlobals "ValueError" = some none)
    (z1 : PySem.W.nsIn K mainGlobals "abs" = some none)
    (z2 : PySem.W.nsIn K mainGlobals "all" = some none)
    (z3 : PySem.W.nsIn K mainGlobals "any" = some none)
    (z4 : PySem.W.nsIn K mainGlobals "dict" = some none)
    (z5 : PySem.W.nsIn K mainGlobals "enumerate" = some none)
    (z6 : PySem.W.nsIn K mainGlobals "int" = some none)
    (z7 : PySem.W.nsIn K mainGlobals "isinstance" = some none)
    (z8 : PySem.W.nsIn K mainGlobals "len" = some none)
    (z9 : PySem.W.nsIn K mainGlobals "list" = some none)
    (z10 : PySem.W.nsIn K mainGlobals "max" = some none)
    (z11 : PySem.W.nsIn K mainGlobals "min" = some none)
    (z12 : PySem.W.nsIn K mainGlobals "range" = some none)
    (z13 : PySem.W.nsIn K mainGlobals "sorted" = some none)
    (z14 : PySem.W.nsIn K mainGlobals "tuple" = some none)
    : ∃ fd : FuncData, (∀ (s : Shared) (v : Value), BindsTo s fd ⟨[v], []⟩ [("script", v)]) ∧ ∀ base : Heap, K.In base → base.Ns mainGlobals mg → FnGd l.prog w K mg base 9 fa fd ["script"] (sp_law K) := by
  have e := hfa.symm.trans (PySem.W.mg_of X G a36)
  cases e
  have T : SysT K mg C := ⟨⟨⟨pg, hd, po, sa⟩, mk, kc, PySem.W.mg_of X G aC⟩, nN, nR, ha, hn, ht, hm, ki, ty⟩
  have XE : ErrT K mg [e0, e1, e2, e3, e4, e5, e6, e7, e8, e9] ["RangeError", "InvalidRange", "InvalidName", "InvalidSystem", "InvalidRule", "UnknownName", "InvalidNumber", "InvalidMove", "NothingToUndo", "Unreadable"] f30 := by
    refine ⟨fun i C x hc hx => ?_, fun i j C D hc hd => ?_, fun i C hc => ?_, rfl⟩
    · match i, hc, hx with
      | 0, hc, hx => obtain rfl := Option.some.inj hc; obtain rfl := Option.some.inj hx; exact ext_mk ⟨_, _, _, _, _, _, _, _, _, _, _, _, _, _, _, xl0, xr0⟩ (PySem.W.mg_of X G xn0) xb0 xj
      | 1, hc, hx => obtain rfl := Option.some.inj hc; obtain rfl := Option.some.inj hx; exact ext_mk ⟨_, _, _, _, _, _, _, _, _, _, _, _, _, _, _, xl1, xr1⟩ (PySem.W.mg_of X G xn1) xb1 xj
      | 2, hc, hx => obtain rfl := Option.some.inj hc; obtain rfl := Option.some.inj hx; exact ext_mk ⟨_, _, _, _, _, _, _, _, _, _, _, _, _, _, _, xl2, xr2⟩ (PySem.W.mg_of X G xn2) xb2 xj
      | 3, hc, hx => obtain rfl := Option.some.inj hc; obtain rfl := Option.some.inj hx; exact ext_mk ⟨_, _, _, _, _, _, _, _, _, _, _, _, _, _, _, xl3, xr3⟩ (PySem.W.mg_of X G xn3) xb3 xj
      | 4, hc, hx => obtain rfl := Option.some.inj hc; obtain rfl := Option.some.inj hx; exact ext_mk ⟨_, _, _, _, _, _, _, _, _, _, _, _, _, _, _, xl4, xr4⟩ (PySem.W.mg_of X G xn4) xb4 xj
      | 5, hc, hx => obtain rfl := Option.some.inj hc; obtain rfl := Option.some.inj hx; exact ext_mk ⟨_, _, _, _, _, _, _, _, _, _, _, _, _, _, _, xl5, xr5⟩ (PySem.W.mg_of X G xn5) xb5 xj
      | 6, hc, hx => obtain rfl := Option.some.inj hc; obtain rfl := Option.some.inj hx; exact ext_mk ⟨_, _, _, _, _, _, _, _, _, _, _, _, _, _, _, xl6, xr6⟩ (PySem.W.mg_of X G xn6) xb6 xj
      | 7, hc, hx => obtain rfl := Option.some.inj hc; obtain rfl := Option.some.inj hx; exact ext_mk ⟨_, _, _, _, _, _, _, _, _, _, _, _, _, _, _, xl7, xr7⟩ (PySem.W.mg_of X G xn7) xb7 xj
      | 8, hc, hx => obtain rfl := Option.some.inj hc; obtain rfl := Option.some.inj hx; exact ext_mk ⟨_, _, _, _, _, _, _, _, _, _, _, _, _, _, _, xl8, xr8⟩ (PySem.W.mg_of X G xn8) xb8 xj
      | 9, hc, hx => obtain rfl := Option.some.inj hc; obtain rfl := Option.some.inj hx; exact ext_mk ⟨_, _, _, _, _, _, _, _, _, _, _, _, _, _, _, xl9, xr9⟩ (PySem.W.mg_of X G xn9) xb9 xj
      | n + 10, hc, _ => simp at hc
    · match i, hc with
      | 0, hc => obtain rfl := Option.some.inj hc; have z := (kitB_at xk0).1 j D hd; rw [Nat.zero_add] at z; exact z
      | 1, hc => obtain rfl := Option.some.inj hc; have z := (kitB_at xk1).1 j D hd; rw [Nat.zero_add] at z; exact z
      | 2, hc => obtain rfl := Option.some.inj hc; have z := (kitB_at xk2).1 j D hd; rw [Nat.zero_add] at z; exact z
      | 3, hc => obtain rfl := Option.some.inj hc; have z := (kitB_at xk3).1 j D hd; rw [Nat.zero_add] at z; exact z
      | 4, hc => obtain rfl := Option.some.inj hc; have z := (kitB_at xk4).1 j D hd; rw [Nat.zero_add] at z; exact z
      | 5, hc => obtain rfl := Option.some.inj hc; have z := (kitB_at xk5).1 j D hd; rw [Nat.zero_add] at z; exact z
      | 6, hc => obtain rfl := Option.some.inj hc; have z := (kitB_at xk6).1 j D hd; rw [Nat.zero_add] at z; exact z
      | 7, hc => obtain rfl := Option.some.inj hc; have z := (kitB_at xk7).1 j D hd; rw [Nat.zero_add] at z; exact z
      | 8, hc => obtain rfl := Option.some.inj hc; have z := (kitB_at xk8).1 j D hd; rw [Nat.zero_add] at z; exact z
      | 9, hc => obtain rfl := Option.some.inj hc; have z := (kitB_at xk9).1 j D hd; rw [Nat.zero_add] at z; exact z
      | n + 10, hc => simp at hc
    · match i, hc with
      | 0, hc => obtain rfl := Option.some.inj hc; exact (kitB_at xk0).2
      | 1, hc => obtain rfl := Option.some.inj hc; exact (kitB_at xk1).2
      | 2, hc => obtain rfl := Option.some.inj hc; exact (kitB_at xk2).2
      | 3, hc => obtain rfl := Option.some.inj hc; exact (kitB_at xk3).2
      | 4, hc => obtain rfl := Option.some.inj hc; exact (kitB_at xk4).2
      | 5, hc => obtain rfl := Option.some.inj hc; exact (kitB_at xk5).2
      | 6, hc => obtain rfl := Option.some.inj hc; exact (kitB_at xk6).2
      | 7, hc => obtain rfl := Option.some.inj hc; exact (kitB_at xk7).2
      | 8, hc => obtain rfl := Option.some.inj hc; exact (kitB_at xk8).2
      | 9, hc => obtain rfl := Option.some.inj hc; exact (kitB_at xk9).2
      | n + 10, hc => simp at hc
  have A0 : At K mg "is_upside_down" s_is_upside_down ["one"] := at_mk X G a0 l0 c0 k0 fun _ _ _ _ _ _ us hl => match us, hl with | [_], _ => rfl
  have A1 : At K mg "check_range" s_check_range ["one"] := at_mk X G a1 l1 c1 k1 fun _ _ _ _ _ _ us hl => match us, hl with | [_], _ => rfl
  have A2 : At K mg "_least" s__least ["one", "other"] := at_mk X G a2 l2 c2 k2 fun _ _ _ _ _ _ us hl => match us, hl with | [_, _], _ => rfl
  have A3 : At K mg "_greatest" s__greatest ["one", "other"] := at_mk X G a3 l3 c3 k3 fun _ _ _ _ _ _ us hl => match us, hl with | [_, _], _ => rfl
  have A4 : At K mg "common" s_common ["one", "other"] := at_mk X G a4 l4 c4 k4 fun _ _ _ _ _ _ us hl => match us, hl with | [_, _], _ => rfl
  have A5 : At K mg "lies_within" s_lies_within ["one", "other"] := at_mk X G a5 l5 c5 k5 fun _ _ _ _ _ _ us hl => match us, hl with | [_, _], _ => rfl
  have A6 : At K mg "_law_draw" s__law_draw ["rng", "limit"] := at_mk X G a6 l6 c6 k6 fun _ _ _ _ _ _ us hl => match us, hl with | [_, _], _ => rfl
  have A7 : At K mg "_law_rng" s__law_rng ["script"] := at_mk X G a7 l7 c7 k7 fun _ _ _ _ _ _ us hl => match us, hl with | [_], _ => rfl
  have A8 : At K mg "_names_of" s__names_of ["rule"] := at_mk X G a8 l8 c8 k8 fun _ _ _ _ _ _ us hl => match us, hl with | [_], _ => rfl
  have A9 : At K mg "_ranges_of" s__ranges_of ["rule"] := at_mk X G a9 l9 c9 k9 fun _ _ _ _ _ _ us hl => match us, hl with | [_], _ => rfl
  have A10 : At K mg "is_faulty" s_is_faulty ["rule", "names"] := at_mk X G a10 l10 c10 k10 fun _ _ _ _ _ _ us hl => match us, hl with | [_, _], _ => rfl
  have A11 : At K mg "is_name" s_is_name ["text"] := at_mk X G a11 l11 c11 k11 fun _ _ _ _ _ _ us hl => match us, hl with | [_], _ => rfl
  have A12 : At K mg "_check_system" s__check_system ["names", "rules"] := at_mk X G a12 l12 c12 k12 fun _ _ _ _ _ _ us hl => match us, hl with | [_, _], _ => rfl
  have A13 : AtM K C "__init__" "System.__init__" s_System___init__ ["self", "names", "rules"] := ⟨f13, _, a13, i13, fun_mk l13 c13 k13, (fun_mk l13 c13 k13).binds (fun _ _ _ _ _ _ us hl => match us, hl with | [_, _, _], _ => rfl)⟩
  have A14 : AtM K C "__len__" "System.__len__" s_System___len__ ["self"] := ⟨f14, _, a14, i14, fun_mk l14 c14 k14, (fun_mk l14 c14 k14).binds (fun _ _ _ _ _ _ us hl => match us, hl with | [_], _ => rfl)⟩
  have A15 : AtP K C "names" "System.names" s_System_names ["self"] := ⟨pp15, f15, _, ⟨a15, g15, t15, rest15, r15⟩, fun_mk l15 c15 k15, (fun_mk l15 c15 k15).binds (fun _ _ _ _ _ _ us hl => match us, hl with | [_], _ => rfl)⟩
  have A16 : AtP K C "rules" "System.rules" s_System_rules ["self"] := ⟨pp16, f16, _, ⟨a16, g16, t16, rest16, r16⟩, fun_mk l16 c16 k16, (fun_mk l16 c16 k16).binds (fun _ _ _ _ _ _ us hl => match us, hl with | [_], _ => rfl)⟩
  have A17 : AtM K C "__eq__" "System.__eq__" s_System___eq__ ["self", "other"] := ⟨f17, _, a17, i17, fun_mk l17 c17 k17, (fun_mk l17 c17 k17).binds (fun _ _ _ _ _ _ us hl => match us, hl with | [_, _], _ => rfl)⟩
  have A18 : At K mg "_law_words" s__law_words ["rng", "many"] := at_mk X G a18 l18 c18 k18 fun _ _ _ _ _ _ us hl => match us, hl with | [_, _], _ => rfl
  have A19 : At K mg "_law_end" s__law_end ["rng", "far"] := at_mk X G a19 l19 c19 k19 fun _ _ _ _ _ _ us hl => match us, hl with | [_, _], _ => rfl
  have A20 : At K mg "_law_within" s__law_within ["rng", "far"] := at_mk X G a20 l20 c20 k20 fun _ _ _ _ _ _ us hl => match us, hl with | [_, _], _ => rfl
  have A21 : At K mg "_law_rule" s__law_rule ["rng", "words", "far"] := at_mk X G a21 l21 c21 k21 fun _ _ _ _ _ _ us hl => match us, hl with | [_, _, _], _ => rfl
  have A22 : At K mg "_law_rows" s__law_rows ["rng", "words", "most"] := at_mk X G a22 l22 c22 k22 fun _ _ _ _ _ _ us hl => match us, hl with | [_, _, _], _ => rfl
  have A23 : At K mg "has_value" s_has_value ["one", "value"] := at_mk X G a23 l23 c23 k23 fun _ _ _ _ _ _ us hl => match us, hl with | [_, _], _ => rfl
  have A24 : At K mg "_is_possible" s__is_possible ["rule", "values", "value"] := at_mk X G a24 l24 c24 k24 fun _ _ _ _ _ _ us hl => match us, hl with | [_, _, _], _ => rfl
  have A25 : At K mg "values_behind" s_values_behind ["system", "moves"] := at_mk X G a25 l25 c25 k25 fun _ _ _ _ _ _ us hl => match us, hl with | [_, _], _ => rfl
  have A26 : At K mg "_law_inside" s__law_inside ["given", "spot"] := at_mk X G a26 l26 c26 k26 fun _ _ _ _ _ _ us hl => match us, hl with | [_, _], _ => rfl
  have A27 : At K mg "_law_next" s__law_next ["rows", "held", "move"] := at_mk X G a27 l27 c27 k27 fun _ _ _ _ _ _ us hl => match us, hl with | [_, _, _], _ => rfl
  have A28 : At K mg "_law_spot" s__law_spot ["rng", "given"] := at_mk X G a28 l28 c28 k28 fun _ _ _ _ _ _ us hl => match us, hl with | [_, _], _ => rfl
  have A29 : At K mg "_law_moves" s__law_moves ["rng", "words", "rows", "many"] := at_mk X G a29 l29 c29 k29 fun _ _ _ _ _ _ us hl => match us, hl with | [_, _, _, _], _ => rfl
  have A30 : AtI K f30 "RangeError.__init__" s_RangeError___init__ ["self", "value"] := ⟨_, fun_mk l30 c30 k30, (fun_mk l30 c30 k30).binds (fun _ _ _ _ _ _ us hl => match us, hl with | [_, _], _ => rfl)⟩
  have kI_value : ∀ fd, Fun K "__init__" "RangeError.__init__" s_RangeError___init__ f30 fd → ∀ (s : Shared) (a u : Value), BindsTo s fd ⟨[a], [("value", u)]⟩ ((["self", "value"] : List Str).zip [a, u]) := by
    intro fd F s a u
    obtain ⟨oc, od, kV, doc, pm, an, cdv, ct, osl, rfl, lk, hcd⟩ := F.ex
    exact .of_eq rfl
  have A31 : At K mg "is_run" s_is_run ["system", "moves"] := at_mk X G a31 l31 c31 k31 fun _ _ _ _ _ _ us hl => match us, hl with | [_, _], _ => rfl
  have A32 : At K mg "_law_bent" s__law_bent ["rng", "rows", "some"] := at_mk X G a32 l32 c32 k32 fun _ _ _ _ _ _ us hl => match us, hl with | [_, _, _], _ => rfl
  have A33 : At K mg "_law_caught" s__law_caught ["e"] := at_mk X G a33 l33 c33 k33 fun _ _ _ _ _ _ us hl => match us, hl with | [_], _ => rfl
  have A34 : At K mg "_law_raised" s__law_raised ["made", "some"] := at_mk X G a34 l34 c34 k34 fun _ _ _ _ _ _ us hl => match us, hl with | [_, _], _ => rfl
  have A35 : At K mg "_law_due" s__law_due ["words", "rows", "some"] := at_mk X G a35 l35 c35 k35 fun _ _ _ _ _ _ us hl => match us, hl with | [_, _, _], _ => rfl
  have A36 : At K mg "law" s_law ["script"] := at_mk X G a36 l36 c36 k36 fun _ _ _ _ _ _ us hl => match us, hl with | [_], _ => rfl
  refine ⟨PySem.W.fnOf "law" "law" (defArgs s_law) (defBody s_law) (defScope s_law) .none kV36 dc36 pm36 an36 cd36 ct36, fun s v => .of_eq rfl, fun base _ _ => ?_⟩
  have m_ValueError := PySem.W.mg_none_of X G z0
  have m_abs := PySem.W.mg_none_of X G z1
  have m_all := PySem.W.mg_none_of X G z2
  have m_any := PySem.W.mg_none_of X G z3
  have m_dict := PySem.W.mg_none_of X G z4
  have m_enumerate := PySem.W.mg_none_of X G z5
  have m_int := PySem.W.mg_none_of X G z6
  have m_isinstance := PySem.W.mg_none_of X G z7
  have m_len := PySem.W.mg_none_of X G z8
  have m_list := PySem.W.mg_none_of X G z9
  have m_max := PySem.W.mg_none_of X G z10
  have m_min := PySem.W.mg_none_of X G z11
  have m_range := PySem.W.mg_none_of X G z12
  have m_sorted := PySem.W.mg_none_of X G z13
  have m_tuple := PySem.W.mg_none_of X G z14
  have D_System___eq__ := ok_System___eq__ (P := l.prog) (w := w) (mg := mg) (base := base) T A17 m_isinstance
  have D__names_of := ok__names_of (P := l.prog) (w := w) (mg := mg) (base := base) A8 m_list
  have D__ranges_of := ok__ranges_of (P := l.prog) (w := w) (mg := mg) (base := base) A9
  have D_is_upside_down := ok_is_upside_down (P := l.prog) (w := w) (mg := mg) (base := base) A0
  have D_is_faulty := ok_is_faulty (P := l.prog) (w := w) (mg := mg) (base := base) A10 D__names_of D__ranges_of D_is_upside_down m_any
  have D_is_name := ok_is_name (P := l.prog) (w := w) (mg := mg) (base := base) A11 m_all m_len
  have D__check_system := ok__check_system (P := l.prog) (w := w) (mg := mg) (base := base) A12 D_is_faulty D_is_name m_enumerate
  have D_System___init__ := ok_System___init__ (P := l.prog) (w := w) (mg := mg) (base := base) T A13 D__check_system m_list m_sorted
  have D__law_draw := ok__law_draw (P := l.prog) (w := w) (mg := mg) (base := base) A6 m_int
  have D__law_bent := ok__law_bent (P := l.prog) (w := w) (mg := mg) (base := base) A32 D__law_draw m_len
  have D__law_inside := ok__law_inside (P := l.prog) (w := w) (mg := mg) (base := base) A26
  have D__law_next := ok__law_next (P := l.prog) (w := w) (mg := mg) (base := base) A27 D__law_inside m_len
  have D__law_due := ok__law_due (P := l.prog) (w := w) (mg := mg) (base := base) A35 D__law_next m_dict m_enumerate
  have D__law_spot := ok__law_spot (P := l.prog) (w := w) (mg := mg) (base := base) A28 D__law_draw m_len
  have D__law_moves := ok__law_moves (P := l.prog) (w := w) (mg := mg) (base := base) A29 D__law_draw D__law_next D__law_spot m_abs m_dict m_int m_len m_range
  have D__law_caught := ok__law_caught (P := l.prog) (w := w) (mg := mg) (base := base) XE A33 m_ValueError m_isinstance m_len
  have D_RangeError___init__ := ok_RangeError___init__ (P := l.prog) (w := w) (mg := mg) (base := base) A30
  have D_System_names := ok_System_names (P := l.prog) (w := w) (mg := mg) (base := base) T A15 m_list
  have D_System_rules := ok_System_rules (P := l.prog) (w := w) (mg := mg) (base := base) T A16 m_list
  have D__greatest := ok__greatest (P := l.prog) (w := w) (mg := mg) (base := base) A3 m_max
  have D__least := ok__least (P := l.prog) (w := w) (mg := mg) (base := base) A2 m_min
  have D_check_range := ok_check_range (P := l.prog) (w := w) (mg := mg) (base := base) A1 D_is_upside_down
  have D_common := ok_common (P := l.prog) (w := w) (mg := mg) (base := base) A4 D__greatest D__least D_check_range D_is_upside_down
  have D_lies_within := ok_lies_within (P := l.prog) (w := w) (mg := mg) (base := base) A5 D_common
  have D_has_value := ok_has_value (P := l.prog) (w := w) (mg := mg) (base := base) A23 D_lies_within
  have D__is_possible := ok__is_possible (P := l.prog) (w := w) (mg := mg) (base := base) A24 D_has_value m_all
  have D_values_behind := ok_values_behind (P := l.prog) (w := w) (mg := mg) (base := base) T XE A25 D_RangeError___init__ kI_value D_System_names D_System_rules D__is_possible m_enumerate m_len
  have D__law_raised := ok__law_raised (P := l.prog) (w := w) (mg := mg) (base := base) T XE A34 D__law_caught D_values_behind
  have D__law_rng := ok__law_rng (P := l.prog) (w := w) (mg := mg) (base := base) A7 m_abs m_int
  have D__law_end := ok__law_end (P := l.prog) (w := w) (mg := mg) (base := base) A19 D__law_draw
  have D__law_within := ok__law_within (P := l.prog) (w := w) (mg := mg) (base := base) A20 D__law_end
  have D__law_rule := ok__law_rule (P := l.prog) (w := w) (mg := mg) (base := base) A21 D__law_draw D__law_within m_len m_max m_range m_tuple
  have D__law_rows := ok__law_rows (P := l.prog) (w := w) (mg := mg) (base := base) A22 D__law_draw D__law_rule m_len m_range
  have D__law_words := ok__law_words (P := l.prog) (w := w) (mg := mg) (base := base) A18 D__law_draw m_len m_range
  have D_is_run := ok_is_run (P := l.prog) (w := w) (mg := mg) (base := base) T XE A31 D_values_behind
  have D_law := ok_law (P := l.prog) (w := w) (mg := mg) (base := base) T XE A36 D_System___eq__ D_System___init__ D__law_bent D__law_draw D__law_due D__law_moves D__law_raised D__law_rng D__law_rows D__law_words D_is_run m_int m_len m_list m_min m_range
  obtain ⟨f, fd, F, _, g, ok⟩ := D_law.ex
  have e2 := (PySem.W.mg_of X G a36).symm.trans g
  cases e2
  obtain ⟨oc, od, kV, doc, pm, an, cdv, ct, osl, rfl, lk, _⟩ := F.ex
  rw [l36] at lk
  cases lk
  exact ok
end Pk36
open PySem PySem.W PyProof.Rows
set_option maxHeartbeats 0 in
theorem PySem.Challenge.cw_tightranges_k36_errors_of_runs_holds : PySem.Challenge.rw_tightranges_k36_errors_of_runs.Holds := by
  w_on; o_law; k_head; (case hw => w_witness2)
  k_fill
  refine Gd.walkG (l := PySem.Challenge.rw_tightranges_k36_errors_of_runs) (n := 63) (k := 9) (x := "script") (sp := fun w => Pk36.sp_law _) rfl (by decide) rfl ⟨rfl, by decide, by decide⟩ (fun w h Y => PySem.W.kIn_of Y) ?F (fun _ _ a ns hl _ hS => ⟨a, ns, rfl, hS, hl, fun _ => rfl⟩)
  case F =>
    intro w mg fa h KX G hmg
    refine' Pk36.all_mk KX G hmg ?aC ?pg ?hd ?po ?sa ?mk ?kc ?nN ?nR ?ha ?hn ?ht ?hm ?ki ?ty ?xn0 ?xl0 ?xr0 ?xn1 ?xl1 ?xr1 ?xn2 ?xl2 ?xr2 ?xn3 ?xl3 ?xr3 ?xn4 ?xl4 ?xr4 ?xn5 ?xl5 ?xr5 ?xn6 ?xl6 ?xr6 ?xn7 ?xl7 ?xr7 ?xn8 ?xl8 ?xr8 ?xn9 ?xl9 ?xr9 ?xi ?xb0 ?xk0 ?xb1 ?xk1 ?xb2 ?xk2 ?xb3 ?xk3 ?xb4 ?xk4 ?xb5 ?xk5 ?xb6 ?xk6 ?xb7 ?xk7 ?xb8 ?xk8 ?xb9 ?xk9 ?xj ?a0 ?l0 ?c0 ?k0 ?a1 ?l1 ?c1 ?k1 ?a2 ?l2 ?c2 ?k2 ?a3 ?l3 ?c3 ?k3 ?a4 ?l4 ?c4 ?k4 ?a5 ?l5 ?c5 ?k5 ?a6 ?l6 ?c6 ?k6 ?a7 ?l7 ?c7 ?k7 ?a8 ?l8 ?c8 ?k8 ?a9 ?l9 ?c9 ?k9 ?a10 ?l10 ?c10 ?k10 ?a11 ?l11 ?c11 ?k11 ?a12 ?l12 ?c12 ?k12 ?a13 ?i13 ?l13 ?c13 ?k13 ?a14 ?i14 ?l14 ?c14 ?k14 ?a15 ?g15 ?t15 ?r15 ?l15 ?c15 ?k15 ?a16 ?g16 ?t16 ?r16 ?l16 ?c16 ?k16 ?a17 ?i17 ?l17 ?c17 ?k17 ?a18 ?l18 ?c18 ?k18 ?a19 ?l19 ?c19 ?k19 ?a20 ?l20 ?c20 ?k20 ?a21 ?l21 ?c21 ?k21 ?a22 ?l22 ?c22 ?k22 ?a23 ?l23 ?c23 ?k23 ?a24 ?l24 ?c24 ?k24 ?a25 ?l25 ?c25 ?k25 ?a26 ?l26 ?c26 ?k26 ?a27 ?l27 ?c27 ?k27 ?a28 ?l28 ?c28 ?k28 ?a29 ?l29 ?c29 ?k29 ?l30 ?c30 ?k30 ?a31 ?l31 ?c31 ?k31 ?a32 ?l32 ?c32 ?k32 ?a33 ?l33 ?c33 ?k33 ?a34 ?l34 ?c34 ?k34 ?a35 ?l35 ?c35 ?k35 ?a36 ?l36 ?c36 ?k36 ?z0 ?z1 ?z2 ?z3 ?z4 ?z5 ?z6 ?z7 ?z8 ?z9 ?z10 ?z11 ?z12 ?z13 ?z14
    (case aC => k_is); (case pg => k_is); (case hd => k_is); (case po => k_is); (case sa => k_is); (case mk => k_is); (case kc => k_is); (case nN => k_is); (case nR => k_is); (case ha => k_is); (case hn => k_is); (case ht => k_is); (case hm => k_is); (case ki => k_is); (case ty => k_is); (case xn0 => k_is); (case xl0 => k_is); (case xr0 => first | decide +kernel | rfl | k_is | trace_state); (case xn1 => k_is); (case xl1 => k_is); (case xr1 => first | decide +kernel | rfl | k_is | trace_state); (case xn2 => k_is); (case xl2 => k_is); (case xr2 => first | decide +kernel | rfl | k_is | trace_state); (case xn3 => k_is); (case xl3 => k_is); (case xr3 => first | decide +kernel | rfl | k_is | trace_state); (case xn4 => k_is); (case xl4 => k_is); (case xr4 => first | decide +kernel | rfl | k_is | trace_state); (case xn5 => k_is); (case xl5 => k_is); (case xr5 => first | decide +kernel | rfl | k_is | trace_state); (case xn6 => k_is); (case xl6 => k_is); (case xr6 => first | decide +kernel | rfl | k_is | trace_state); (case xn7 => k_is); (case xl7 => k_is); (case xr7 => first | decide +kernel | rfl | k_is | trace_state); (case xn8 => k_is); (case xl8 => k_is); (case xr8 => first | decide +kernel | rfl | k_is | trace_state); (case xn9 => k_is); (case xl9 => k_is); (case xr9 => first | decide +kernel | rfl | k_is | trace_state); (case xi => k_is); (case xb0 => first | decide +kernel | rfl | k_is | trace_state); (case xk0 => first | decide +kernel | rfl | k_is | trace_state); (case xb1 => first | decide +kernel | rfl | k_is | trace_state); (case xk1 => first | decide +kernel | rfl | k_is | trace_state); (case xb2 => first | decide +kernel | rfl | k_is | trace_state); (case xk2 => first | decide +kernel | rfl | k_is | trace_state); (case xb3 => first | decide +kernel | rfl | k_is | trace_state); (case xk3 => first | decide +kernel | rfl | k_is | trace_state); (case xb4 => first | decide +kernel | rfl | k_is | trace_state); (case xk4 => first | decide +kernel | rfl | k_is | trace_state); (case xb5 => first | decide +kernel | rfl | k_is | trace_state); (case xk5 => first | decide +kernel | rfl | k_is | trace_state); (case xb6 => first | decide +kernel | rfl | k_is | trace_state); (case xk6 => first | decide +kernel | rfl | k_is | trace_state); (case xb7 => first | decide +kernel | rfl | k_is | trace_state); (case xk7 => first | decide +kernel | rfl | k_is | trace_state); (case xb8 => first | decide +kernel | rfl | k_is | trace_state); (case xk8 => first | decide +kernel | rfl | k_is | trace_state); (case xb9 => first | decide +kernel | rfl | k_is | trace_state); (case xk9 => first | decide +kernel | rfl | k_is | trace_state); (case xj => first | decide +kernel | rfl | k_is | trace_state); (case a0 => k_is); (case l0 => k_is); (case c0 => k_is); (case k0 => k_is); (case a1 => k_is); (case l1 => k_is); (case c1 => k_is); (case k1 => k_is); (case a2 => k_is); (case l2 => k_is); (case c2 => k_is); (case k2 => k_is); (case a3 => k_is); (case l3 => k_is); (case c3 => k_is); (case k3 => k_is); (case a4 => k_is); (case l4 => k_is); (case c4 => k_is); (case k4 => k_is); (case a5 => k_is); (case l5 => k_is); (case c5 => k_is); (case k5 => k_is); (case a6 => k_is); (case l6 => k_is); (case c6 => k_is); (case k6 => k_is); (case a7 => k_is); (case l7 => k_is); (case c7 => k_is); (case k7 => k_is); (case a8 => k_is); (case l8 => k_is); (case c8 => k_is); (case k8 => k_is); (case a9 => k_is); (case l9 => k_is); (case c9 => k_is); (case k9 => k_is); (case a10 => k_is); (case l10 => k_is); (case c10 => k_is); (case k10 => k_is); (case a11 => k_is); (case l11 => k_is); (case c11 => k_is); (case k11 => k_is); (case a12 => k_is); (case l12 => k_is); (case c12 => k_is); (case k12 => k_is); (case a13 => k_is); (case i13 => k_is); (case l13 => k_is); (case c13 => k_is); (case k13 => k_is); (case a14 => k_is); (case i14 => k_is); (case l14 => k_is); (case c14 => k_is); (case k14 => k_is); (case a15 => k_is); (case g15 => k_is); (case t15 => k_is); (case r15 => k_is); (case l15 => k_is); (case c15 => k_is); (case k15 => k_is); (case a16 => k_is); (case g16 => k_is); (case t16 => k_is); (case r16 => k_is); (case l16 => k_is); (case c16 => k_is); (case k16 => k_is); (case a17 => k_is); (case i17 => k_is); (case l17 => k_is); (case c17 => k_is); (case k17 => k_is); (case a18 => k_is); (case l18 => k_is); (case c18 => k_is); (case k18 => k_is); (case a19 => k_is); (case l19 => k_is); (case c19 => k_is); (case k19 => k_is); (case a20 => k_is); (case l20 => k_is); (case c20 => k_is); (case k20 => k_is); (case a21 => k_is); (case l21 => k_is); (case c21 => k_is); (case k21 => k_is); (case a22 => k_is); (case l22 => k_is); (case c22 => k_is); (case k22 => k_is); (case a23 => k_is); (case l23 => k_is); (case c23 => k_is); (case k23 => k_is); (case a24 => k_is); (case l24 => k_is); (case c24 => k_is); (case k24 => k_is); (case a25 => k_is); (case l25 => k_is); (case c25 => k_is); (case k25 => k_is); (case a26 => k_is); (case l26 => k_is); (case c26 => k_is); (case k26 => k_is); (case a27 => k_is); (case l27 => k_is); (case c27 => k_is); (case k27 => k_is); (case a28 => k_is); (case l28 => k_is); (case c28 => k_is); (case k28 => k_is); (case a29 => k_is); (case l29 => k_is); (case c29 => k_is); (case k29 => k_is); (case l30 => k_is); (case c30 => k_is); (case k30 => k_is); (case a31 => k_is); (case l31 => k_is); (case c31 => k_is); (case k31 => k_is); (case a32 => k_is); (case l32 => k_is); (case c32 => k_is); (case k32 => k_is); (case a33 => k_is); (case l33 => k_is); (case c33 => k_is); (case k33 => k_is); (case a34 => k_is); (case l34 => k_is); (case c34 => k_is); (case k34 => k_is); (case a35 => k_is); (case l35 => k_is); (case c35 => k_is); (case k35 => k_is); (case a36 => k_is); (case l36 => k_is); (case c36 => k_is); (case k36 => k_is); (case z0 => k_is); (case z1 => k_is); (case z2 => k_is); (case z3 => k_is); (case z4 => k_is); (case z5 => k_is); (case z6 => k_is); (case z7 => k_is); (case z8 => k_is); (case z9 => k_is); (case z10 => k_is); (case z11 => k_is); (case z12 => k_is); (case z13 => k_is); (case z14 => k_is)
