import PyProof.Rows.All
import Wide.All
import OpenK.AllK
import Wide.FinOn
import HandS.ForMost
import HandS.Wide
import HandS.Conv
import HandS.EndBits
import HandS.ForExc
import HandS.Style
import HandS.Codes
import HandS.Property
import HandS.MakeKwOnly
import HandS.IsInst
import HandS.TupAny
import HandS.Walk
import HandS.ExcInit
import HandS.ExcIs
import HandS.ExcField
import HandS.RaiseMore
import HandS.ExcOwn
import HandS.HotCalls
import HandS.Hot
import HandS.ExcValueHot
import HandS.Deep
import PySem.Challenge.RW_tightranges_k04_errors_of_ranges
set_option Elab.async false
set_option linter.all false
set_option maxRecDepth 100000
namespace Gd
open PySem PySem.Spec PyProof.Rows L2

/-! ### a def called where no repr is under way -/
structure FnGd (P : Program) (w : World) (K : PySem.W.Frag) (mg : Str → Option Value)
    (base : Heap) (k : Nat) (f : Addr) (fd : FuncData) (ps : List Str) (sp : Sp) : Prop where
  len : ∀ vs H Q E, sp vs H Q E → vs.length = ps.length
  run : ∀ (A : Around) (out : List Env) (s : Shared) (H : Hp) (args : Args)
      (us : List Value) (vs : List V) (Q : VK) (E : XK),
      A.guards = some [] → Room k A → Env0 P w K mg base A out s H →
      BindsTo s fd args (ps.zip us) → Vals vs us → sp vs H Q E →
      codeAny (model P w) A (.call (.ref f) args) (CR CX0 out P w H s Q E) s

section
variable {P : Program} {w : World} {K : PySem.W.Frag} {mg : Str → Option Value} {base : Heap}

theorem okG {x qual : Str} {st : Stmt} {f : Addr} {fd : FuncData} {N ps : List Str} {k : Nat} {sp : Sp}
    (F : Fun K x qual st f fd) (S : FnScope N ps (defScope st))
    (len : ∀ vs H Q E, sp vs H Q E → vs.length = ps.length)
    (hb : ∀ (cdv : Value) (A : Around) (out : List Env) (s : Shared) (H : Hp) (vs : List V) (Q : VK) (E : XK),
      (A.deeper (envOfC qual (defScope st) s.heap.objs.size f cdv)).guards = some [] →
      Room k (A.deeper (envOfC qual (defScope st) s.heap.objs.size f cdv)) → sp vs H Q E →
      ∃ t, PSs (cxOf CX0 P w K mg base N qual (defScope st) f cdv A out s H E).nox (defBody st) t ∧
        t { nx := fun _ H' => Q .non H', rt := Q } (start N vs) H) :
    FnGd P w K mg base (k + 1) f fd ps sp := by
  obtain ⟨oc, od, kV, doc, pm, an, cdv, ct, osl, rfl, lk, cdok⟩ := F.ex
  constructor
  · exact len
  intro A out s H args us vs Q E gA rm env bnd rel pre
  have pl := len vs H Q E pre
  have keep : ∀ b o, base.get? b = some o → s.heap.get? b = some o := fun b o e => (env.bs b o e).1
  have kin := env.mod.kin.keeps keep
  have nol := env.mod.nolimit.keeps keep
  refine codeAny_call_function rm.depth (kin _ _ lk) rfl S.co S.gen rfl
    (PySem.W.codeRec_of kin cdok) (bnd _ _ _ _ ?_)
  refine wpAny_newFunctionEnv_cells S.kind ?_ fun en he s1 xx => ?_
  · rintro ⟨nm, val⟩ mem
    cases S.par nm (List.of_mem_zip mem).1 with
    | inl q => exact .inl q
    | inr q => exact .inr ⟨q, PySem.W.cellsFrom_some _ _ _ (.inl q)⟩
  subst he
  refine ⟨nol.keeps xx.toInCall.keep, codeAny_func ?_⟩
  obtain ⟨t, ht, hq⟩ := hb cdv A out s H vs Q E gA (rm.deeper _) pre
  have J0 := inv_start (CX := CX0) (E := E) (qual := qual) (f := f) (cd := cdv) S rm.hd env pl rel xx
  refine wpAny_mono (ht.nox.run [] s1 (start N vs) H _ J0 hq) ?_ (fun _ _ z => z)
  intro fl s' post
  cases fl with
  | next =>
    obtain ⟨_, H', J, q⟩ := post
    exact ⟨.non, H', J.os, J.bare, J.base, J.hok, rfl, q⟩
  | ret u =>
    obtain ⟨v, _, H', J, rv, q⟩ := post
    exact ⟨v, H', J.os, J.bare, J.base, J.hok, rv, q⟩
  | brk =>
    obtain ⟨_, _, _, no⟩ := post
    cases no
  | cont =>
    obtain ⟨_, _, _, no⟩ := post
    cases no

/-- the law's call at its own place: nothing is under way there -/
theorem lawG {mb : Str → Option Value} {k : Nat} {fa a : Addr} {fd : FuncData} {x : Str} {sp : Sp}
    {s : Shared} {vs : List Value} {ns : List Int}
    (kin : K.In s.heap) (glo : s.heap.Ns mainGlobals mg) (blt : s.heap.Ns builtinsNs mb)
    (boot : ∀ x : Str, x ≠ "__name__" → mb x = bootBuiltins x) (nol : s.heap.NoLimit) (gen : s.gens = #[])
    (obj : s.heap.get? a = some { cls := .type "list", data := .seq vs.toArray }) (insc : IntsAre vs ns)
    (short : ns.length ≤ sizeLine) (rm : Room k callerA)
    (F : ∀ base : Heap, K.In base → base.Ns mainGlobals mg → FnGd P w K mg base k fa fd [x] sp)
    (bnd : ∀ (s : Shared) (u : Value), BindsTo s fd ⟨[u], []⟩ [(x, u)])
    (pre : ∀ H : Hp, SqL K H a (ns.map V.int) → sp [.ref a] H (fun v _ => v = .bl true) E0) :
    codeAny (model P w) callerA (.call (.ref fa) ⟨[.ref a], []⟩)
      (fun r s' => r = .ok (.ret (.bool true)) ∧ OldK s.heap s'.heap ∧ s'.os = s.os ∧ AllBare s'.gens) s := by
  have rel : Vals (ns.map V.int) vs := vals_ints insc
  have cnt : vs.length = ns.length := insc.length
  let scr : Obj := { cls := .type "list", data := .seq vs.toArray }
  -- what is tracked at first: the script, unless the module knows it
  let H : Hp := fun b => if b = a ∧ K.lookup a = none then some (.frz scr (.lst (ns.map V.int))) else none
  have track : ∀ b u, H b = some u → b = a ∧ K.lookup a = none ∧ u = .frz scr (.lst (ns.map V.int)) := by
    intro b u e
    by_cases c : b = a ∧ K.lookup a = none
    · have e2 : some (HO.frz scr (.lst (ns.map V.int))) = some u := (if_pos c).symm.trans e
      exact ⟨c.1, c.2, (Option.some.inj e2).symm⟩
    · have e2 : (none : Option HO) = some u := (if_neg c).symm.trans e
      cases e2
  have isl : SqL K H a (ns.map V.int) := by
    cases q : K.lookup a with
    | none => exact .inl (.inr ⟨scr, if_pos ⟨rfl, q⟩⟩)
    | some o =>
      have o2 := kin a o q
      rw [obj] at o2
      cases o2
      exact .inr ⟨_, vs.toArray, _, q, rfl, rfl, rfl, by rw [List.size_toArray, cnt]; exact short, by simpa using rel⟩
  have hok : HOk P w H s.heap := by
    intro b u e
    obtain ⟨rfl, _, rfl⟩ := track b u e
    exact ⟨obj, by rw [List.length_map]; exact short, vs, _, rel, obj⟩
  have nodict : ∀ {b : Addr} {o : Obj} {es : Array DictEntry} {ep : Nat}, s.heap.get? b = some o → o.data = .dict es ep → H b = none := by
    intro b o es ep e d
    cases q : H b with
    | none => rfl
    | some u =>
      obtain ⟨rfl, _, _⟩ := track b u q
      rw [obj] at e
      cases e
      cases (show Data.seq vs.toArray _ = Data.dict es ep from d)
  have nspace : ∀ {b : Addr} {m : Str → Option Value}, s.heap.Ns b m → (hidT s.heap H).Ns b m := by
    rintro b m ⟨o, es, ep, e, d, r⟩
    exact ⟨o, es, ep, hidT_get e (nodict e d), d, r⟩
  have kin2 : K.In (hidT s.heap H) := by
    intro b o e
    refine hidT_get (kin b o e) ?_
    cases q : H b with
    | none => rfl
    | some u =>
      obtain ⟨rfl, n, _⟩ := track b u q
      rw [n] at e
      cases e
  have mod : Mod K mg (hidT s.heap H) := by
    refine ⟨kin2, nspace glo, ⟨mb, nspace blt, boot⟩, ?_⟩
    obtain ⟨mc, n1, n2⟩ := nol
    exact ⟨mc, nspace n1, n2⟩
  have env : Env0 P w K mg (hidT s.heap H) callerA [] s H := by
    refine ⟨rfl, mod, fun b o e => of_hidT e, Nat.le_of_eq (hidT_size _ _), trivial, ?_, hok, .of_eq gen⟩
    intro b m
    cases (show b ∈ ([] : List Addr) from m)
  have run := (F _ kin2 (nspace glo)).run callerA [] s H ⟨[.ref a], []⟩ [.ref a] [.ref a] _ _ rfl rm env
    (bnd s (.ref a)) (.cons rfl .nil) (pre H isl)
  refine codeAny_mono run ?_
  intro r s' post
  cases r with
  | error e => exact (post : False).elim
  | ok fl =>
    cases fl with
    | ret u =>
      obtain ⟨v, H', os, bare, un, hok', rv, vt⟩ := post
      have vt' : v = .bl true := vt
      subst vt'
      have ut : u = Value.bool true := rv
      subst ut
      refine ⟨rfl, OldK.of_keep ?_, os, bare⟩
      intro b o e
      cases q : H b with
      | none => exact un.keep b o e q (fun m => by cases (show b ∈ ([] : List Addr) from m)) (by simp)
      | some u2 =>
        obtain ⟨rfl, _, rfl⟩ := track b u2 q
        have stays := un.frzs b _ _ q
        have o1 := (hok b _ q).1
        have o2 := (hok' b _ stays).1
        rw [e] at o1
        cases o1
        exact o2
    | next => exact (post : False).elim
    | brk => exact (post : False).elim
    | cont => exact (post : False).elim
end

/-- the end of a law's proof -/
theorem walkG {l : PySem.W.OpenLaw} {n k : Nat} {q : Program} {loose : List Str} {XP : (Str → Option Value) → Heap → Prop}
    {YP : World → Heap → Prop} {d : DefRec} {K : Params → PySem.W.Frag} {sp : World → Sp} {x : Str}
    (most : l.most = some n) (small : n ≤ sizeLine) (plain : d.params.defaults = []) (rm : Room k callerA)
    (hY : ∀ (w : World) (h : Heap), YP w h → (K w.params).In h)
    (F : ∀ (w : World) (mg : Str → Option Value) (fa : Addr) (h : Heap),
      (K w.params).In h → h.Ns mainGlobals mg → mg d.name = some (.ref fa) →
      ∃ fd : FuncData, (∀ (s : Shared) (u : Value), BindsTo s fd ⟨[u], []⟩ [(x, u)]) ∧
        ∀ base : Heap, (K w.params).In base → base.Ns mainGlobals mg →
          FnGd l.prog w (K w.params) mg base k fa fd [x] (sp w))
    (pre : ∀ (w : World) (H : Hp) (a : Addr) (ns : List Int), ns.length ≤ n → (∀ z ∈ ns, Builtin.Int.intBits z ≤ 1048576) →
      SqL (K w.params) H a (ns.map V.int) → sp w [.ref a] H (fun v _ => v = .bl true) E0) :
    PySem.W.WalkO q loose XP YP l.row.toRowW d [] (fun f vs => PySem.call f vs) := by
  apply Att.attach_callB most plain
  intro w s0 s1 mg mb fa o pm cd doc a vs ns G Y _ _ _ named obj insc le bits gen
  obtain ⟨fd, bnd, all⟩ := F w mg fa _ (hY w _ Y) G.T.g named
  exact lawG (hY w _ Y) G.T.g G.T.b G.T.builtins G.T.nolimit gen obj insc (Nat.le_trans le small) rm all bnd
    fun H isl => pre w H a ns le bits isl

/-! ### rules -/
section
variable {X : Cx}
/-- repr of data -/
theorem call_repr {k : Nat} (gd : X.A.guards = some []) (hr : Room k X.A) : CallR X (.builtin "repr") (fun xs H Q => ∃ v d, xs = [v] ∧
    Dp X.K H v d ∧ d.hasDict = false ∧ d.showable = true ∧ d.depth ≤ 64 ∧ d.shown.length ≤ sizeLine ∧ (∃ a, v = .ref a) ∧ Q (.str d.shown) H) := by
  intro pins s σ H xs us Q I r h
  obtain ⟨v, d, rfl, dp, nod, sh, deep, fits, ⟨a, rfl⟩, q⟩ := h
  obtain ⟨u, rfl, ru⟩ := vals1 r
  cases ru
  obtain ⟨as, rd⟩ := Dp.reads I d _ _ dp rfl
  have room := hr.un
  refine repr_of_reads' rd sh (PyData.noDict_hsm nod) gd (by omega) (fun _ _ e => e) ?_ fits
  intro h' u tk keep
  exact ⟨.str _, H, I.kept keep, ⟨u, rfl⟩, q⟩
/-- i ** j, of great i -/
def CPowW (i j : Int) : Prop := 0 ≤ j ∧ (Builtin.Int.intBits i : Int) * j ≤ 2 ^ 27
theorem op_powW : OpR X (binaryOp .Pow) (rI CPowW fun i j => .int (i ^ j.toNat)) :=
  opI fun _ _ _ _ _ _ _ hc q => pow_int hc.1 hc.2 q
end
end Gd

set_option Elab.async false
set_option linter.all false
set_option maxRecDepth 100000
namespace Gd
open PySem PySem.Spec PyProof.Rows L2

/-! ### a def of the text, with all that a caller needs -/
structure Dn (P : Program) (w : World) (K : PySem.W.Frag) (mg : Str → Option Value) (base : Heap)
    (k : Nat) (x : Str) (st : Stmt) (ps : List Str) (sp : Sp) : Prop where
  ex : ∃ f fd, Fun K x x st f fd ∧ Binds K fd ps [] ∧ mg x = some (.ref f) ∧ FnOk P w K mg base CX0 k f fd ps sp
structure DnG (P : Program) (w : World) (K : PySem.W.Frag) (mg : Str → Option Value) (base : Heap)
    (k : Nat) (x : Str) (st : Stmt) (ps : List Str) (sp : Sp) : Prop where
  ex : ∃ f fd, Fun K x x st f fd ∧ Binds K fd ps [] ∧ mg x = some (.ref f) ∧ FnGd P w K mg base k f fd ps sp
section
variable {P : Program} {w : World} {K : PySem.W.Frag} {mg : Str → Option Value} {base : Heap}
/-- where a def stands -/
def At (K : PySem.W.Frag) (mg : Str → Option Value) (x : Str) (st : Stmt) (ps : List Str) : Prop :=
  ∃ f fd, Fun K x x st f fd ∧ Binds K fd ps [] ∧ mg x = some (.ref f)
theorem Dn.mk' {x : Str} {st : Stmt} {ps : List Str} {k : Nat} {sp : Sp} (h : At K mg x st ps)
    (ok : ∀ f fd, Fun K x x st f fd → FnOk P w K mg base CX0 k f fd ps sp) : Dn P w K mg base k x st ps sp := by
  obtain ⟨f, fd, F, b, g⟩ := h
  exact ⟨f, fd, F, b, g, ok f fd F⟩
theorem DnG.mk' {x : Str} {st : Stmt} {ps : List Str} {k : Nat} {sp : Sp} (h : At K mg x st ps)
    (ok : ∀ f fd, Fun K x x st f fd → FnGd P w K mg base k f fd ps sp) : DnG P w K mg base k x st ps sp := by
  obtain ⟨f, fd, F, b, g⟩ := h
  exact ⟨f, fd, F, b, g, ok f fd F⟩
end

/-- the reading of a call that raises nothing -/
def tCl (sp : Sp) (t : TA) : TE := fun σ H Q => t σ H fun vs H1 => sp vs H1 Q E0
def tClK (sp : Sp) (gV : List V → List V → List V) (t tk : TA) : TE := fun σ H Q => t σ H fun vs H1 => tk σ H1 fun zs H2 => sp (gV vs zs) H2 Q E0
section
variable {K : PySem.W.Frag} {x qual : Str} {st : Stmt} {f : Addr} {fd : FuncData} {ps ks : List Str}
theorem kb_of0 (n : Nat) (F : Fun K x qual st f fd) (g : {α : Type} → List α → List α → List α)
    (h : ∀ (kV doc pm : Value) (an : Option Addr) (cdv ct : Value) (us ws : List Value), us.length = n → ws.length = ks.length →
      bindArgs (PySem.W.fnOf x qual (defArgs st) (defBody st) (defScope st) .none kV doc pm an cdv ct) ⟨us, ks.zip ws⟩ = pure (ps.zip (g us ws))) :
    ∀ (s : Shared) (us ws : List Value), us.length = n → ws.length = ks.length → BindsTo s fd ⟨us, ks.zip ws⟩ (ps.zip (g us ws)) := by
  obtain ⟨oc, od, kV, doc, pm, an, cdv, ct, osl, rfl, lk, hcd⟩ := F.ex
  intro s us ws h1 h2
  exact .of_eq (h kV doc pm an cdv ct us ws h1 h2)
end
section
variable {X : Cx} {x : Str} {st : Stmt} {ps ks : List Str} {sp : Sp} {k j n : Nat} {e : Expr} {es : List Expr} {kws : List Keyword} {t tk : TA} {p pos : Pos}
/-- a call of a def that has its promise -/
theorem pe_c (D : Dn X.prog X.w X.K X.mg X.base k x st ps sp) (hr : Room j X.A) (hg : Gl X x) (ha : PA X (e :: es) t) (hk : k ≤ j := by decide)
    (hdb : (x == ("__debug__" : Str)) = false := by decide) (he : starEach (e :: es) X.env = (false, eval e X.env) :: starEach es X.env := by rfl)
    (hpl : (backTo pos (starEach es X.env)).any (·.1) = false := by rfl) :
    PE X (.Call (.Name x p) (e :: es) [] pos) (tCl sp t) := by
  obtain ⟨f, fd, F, b, g, ok⟩ := D.ex
  refine ⟨fun pins s σ H Q I h => ?_⟩
  refine wpAny_Call_Name_kw (ld_glob I hg g ?_ hdb)
  refine PySem.W.callWith_K (h₀ := X.base) I.ok.mod.kin F.kp (thn (ha.run pos pins s σ H _ I h) fun us s1 got => ?_) he hpl
  obtain ⟨vs, H1, I1, r1, q1⟩ := got
  refine ⟨I1.kIn, ?_⟩
  exact run_fn (dvs := []) ok (hr.mono hk) b .nil pass0 I1 r1 (by rw [List.append_nil]; exact q1)
theorem pe_cG (gd : X.A.guards = some []) (D : DnG X.prog X.w X.K X.mg X.base k x st ps sp) (hr : Room j X.A) (hg : Gl X x) (ha : PA X (e :: es) t) (hk : k ≤ j := by decide)
    (hdb : (x == ("__debug__" : Str)) = false := by decide) (he : starEach (e :: es) X.env = (false, eval e X.env) :: starEach es X.env := by rfl)
    (hpl : (backTo pos (starEach es X.env)).any (·.1) = false := by rfl) :
    PE X (.Call (.Name x p) (e :: es) [] pos) (tCl sp t) := by
  obtain ⟨f, fd, F, b, g, ok⟩ := D.ex
  refine ⟨fun pins s σ H Q I h => ?_⟩
  refine wpAny_Call_Name_kw (ld_glob I hg g ?_ hdb)
  refine PySem.W.callWith_K (h₀ := X.base) I.ok.mod.kin F.kp (thn (ha.run pos pins s σ H _ I h) fun us s1 got => ?_) he hpl
  obtain ⟨vs, H1, I1, r1, q2⟩ := got
  refine ⟨I1.kIn, ?_⟩
  have cnt : us.length = ps.length := by
    rw [← r1.length]
    exact ok.len _ _ _ _ q2
  have bnd : BindsTo s1 fd ⟨us, []⟩ (ps.zip us) := by
    have z := b s1 us I1.kIn (by simpa using cnt)
    simpa using z
  refine wpAny_call (codeAny_mono (ok.run X.A X.stack s1 H1 ⟨us, []⟩ us vs _ E0 gd (hr.mono hk) I1.env0 bnd r1 q2) ?_)
  intro r s' post
  cases r with
  | error e => exact (post : False).elim
  | ok fl =>
    cases fl with
    | ret u => exact I1.after post
    | next => exact (post : False).elim
    | brk => exact (post : False).elim
    | cont => exact (post : False).elim
/-- how the keywords bind -/
def KwTo (K : PySem.W.Frag) (x : Str) (st : Stmt) (ps ks : List Str) (n : Nat) (g : {α : Type} → List α → List α → List α) : Prop :=
  (∀ {vs zs : List V} {us ws : List Value}, vs.length = n → zs.length = ks.length → Vals vs us → Vals zs ws → Vals (g vs zs) (g us ws)) ∧
  ∀ f fd, Fun K x x st f fd → ∀ (s : Shared) (us ws : List Value), us.length = n → ws.length = ks.length → BindsTo s fd ⟨us, ks.zip ws⟩ (ps.zip (g us ws))
def tClN (n m : Nat) (sp : Sp) (gV : List V → List V → List V) (t tk : TA) : TE := fun σ H Q => t σ H fun vs H1 => tk σ H1 fun zs H2 => vs.length = n ∧ zs.length = m ∧ sp (gV vs zs) H2 Q E0
/-- f(k = v, ..) -/
theorem pe_cz {g : {α : Type} → List α → List α → List α} (D : Dn X.prog X.w X.K X.mg X.base k x st ps sp) (hr : Room j X.A) (kb : KwTo X.K x st ps ks 0 g) (hg : Gl X x) (hkw : PK X kws tk) (hk : k ≤ j := by decide)
    (hall : (backToKw pos (keywordEach kws X.env)).all (·.1.isSome) = true := by rfl) (hks : (backToKw pos (keywordEach kws X.env)).filterMap (·.1) = ks := by rfl)
    (hdb : (x == ("__debug__" : Str)) = false := by decide)
    (hpl : ((backTo pos (starEach [] X.env)).any (·.1) || (backToKw pos (keywordEach kws X.env)).any (·.1.isNone)) = false := by rfl) :
    PE X (.Call (.Name x p) [] kws pos) (tClN 0 ks.length sp g tNil tk) := by
  obtain ⟨f, fd, F, b, gg, ok⟩ := D.ex
  refine ⟨fun pins s σ H Q I h => ?_⟩
  refine wpAny_Call_Name_kw (ld_glob I hg gg ?_ hdb)
  refine PySem.W.callWith_KW0 (h₀ := X.base) I.ok.mod.kin F.kp hall ?_ hpl
  refine thn (hkw.run pos pins s σ H _ I h) fun ws s2 got => ?_
  obtain ⟨zs, H2, I2, rz, l1, l2, q2⟩ := got
  refine ⟨I2.kIn, ?_⟩
  rw [hks]
  have rel := kb.1 l1 l2 Paired.nil rz
  have bnd := kb.2 f fd F s2 [] ws rfl (rz.length.symm.trans l2)
  refine wpAny_call (codeAny_mono (ok.run X.A X.stack s2 H2 ⟨[], ks.zip ws⟩ _ _ _ E0 (hr.mono hk) I2.env0 bnd rel q2) ?_)
  intro r s' post
  cases r with
  | error e => exact (post : False).elim
  | ok fl =>
    cases fl with
    | ret u => exact I2.after post
    | next => exact (post : False).elim
    | brk => exact (post : False).elim
    | cont => exact (post : False).elim
end

/-! ### heaps: all but the draws' list stays -/
def Kp (a : Addr) (H H' : Hp) : Prop := ∀ b o, b ≠ a → H b = some o → H' b = some o
theorem Kp.refl {a : Addr} {H : Hp} : Kp a H H := fun _ _ _ e => e
theorem Kp.trans {a : Addr} {H H1 H2 : Hp} (x : Kp a H H1) (y : Kp a H1 H2) : Kp a H H2 := fun b o n e => y b o n (x b o n e)
theorem Kp.of {a : Addr} {H H' : Hp} (x : Same H H') : Kp a H H' := fun b o _ e => x b o e
theorem Kp.at {a : Addr} {H : Hp} {o : HO} : Kp a H (upd H a o) := fun b u n e => by rw [upd_ne n]; exact e
theorem Kp.new {a p : Addr} {H : Hp} {o : HO} (n : H p = none) : Kp a H (upd H p o) := fun b u _ e => by rw [upd_ne (ne_of_none e n)]; exact e
theorem Same.new {p : Addr} {H : Hp} {o : HO} (n : H p = none) : Same H (upd H p o) := fun b u e => by rw [upd_ne (ne_of_none e n)]; exact e
theorem SqT.same {K : PySem.W.Frag} {H H' : Hp} {b : Addr} {xs : List V} (k : Same H H') (h : SqT K H b xs) : SqT K H' b xs := by
  rcases h with (h | ⟨o, h⟩) | h
  · exact .inl (.inl (k _ _ h))
  · exact .inl (.inr ⟨o, k _ _ h⟩)
  · exact .inr h
/-- the draws' state: its list of three ints, after at most n draws -/
structure RS (n : Nat) (H : Hp) (a : Addr) : Prop where
  ok : ∃ d s t : Int, H a = some (.lst [.int d, .int s, .int t]) ∧ 0 ≤ d ∧ d.natAbs < 2 ^ 13000 ∧ 0 ≤ s ∧ s < 2305843009213693951 ∧ 0 ≤ t ∧ t ≤ n
theorem RS.mono {n m : Nat} {H : Hp} {a : Addr} (h : n ≤ m) (r : RS n H a) : RS m H a := by
  obtain ⟨d, s, t, e, h1, h2, h3, h4, h5, h6⟩ := r.ok
  exact ⟨d, s, t, e, h1, h2, h3, h4, h5, by omega⟩
theorem RS.same {n : Nat} {H H' : Hp} {a : Addr} (r : RS n H a) (k : Same H H') : RS n H' a := by
  obtain ⟨d, s, t, e, r⟩ := r.ok
  exact ⟨d, s, t, k _ _ e, r⟩
theorem RS.ne {n : Nat} {H : Hp} {a b : Addr} {o : HO} (r : RS n H a) (e : H b = some o) (no : ∀ xs, o ≠ .lst xs) : b ≠ a := by
  obtain ⟨d, s, t, e2, _⟩ := r.ok
  exact ne_of e e2 (no _)
theorem SqT.kp {K : PySem.W.Frag} {n : Nat} {H H' : Hp} {a b : Addr} {xs : List V} (r : RS n H a) (k : Kp a H H') (h : SqT K H b xs) : SqT K H' b xs := by
  rcases h with (h | ⟨o, h⟩) | h
  · exact .inl (.inl (k _ _ (r.ne h (fun _ z => by cases z)) h))
  · exact .inl (.inr ⟨o, k _ _ (r.ne h (fun _ z => by cases z)) h⟩)
  · exact .inr h

/-! ### ranges -/
abbrev Rg := Option (Option Int × Option Int)
def ov : Option Int → V
  | none => .non
  | some i => .int i
def RgV (K : PySem.W.Frag) (H : Hp) (v : V) : Rg → Prop
  | none => v = .non
  | some (l, h) => ∃ p, v = .ref p ∧ SqT K H p [ov l, ov h]
theorem RgV.same {K : PySem.W.Frag} {H H' : Hp} {v : V} {r : Rg} (k : Same H H') (h : RgV K H v r) : RgV K H' v r := by
  cases r with
  | none => exact h
  | some q =>
    obtain ⟨p, e, s⟩ := h
    exact ⟨p, e, SqT.same k s⟩
theorem RgV.kp {K : PySem.W.Frag} {n : Nat} {H H' : Hp} {a : Addr} {v : V} {r : Rg} (rs : RS n H a) (k : Kp a H H') (h : RgV K H v r) : RgV K H' v r := by
  cases r with
  | none => exact h
  | some q =>
    obtain ⟨p, e, s⟩ := h
    exact ⟨p, e, SqT.kp rs k s⟩
/-- Range check accepts it -/
def RgFit : Rg → Prop
  | some (some l, some h) => l ≤ h
  | _ => True
end Gd

set_option Elab.async false
set_option linter.all false
set_option maxRecDepth 100000
namespace Gd
open PySem PySem.Spec PyProof.Rows L2

theorem inV_ints (z : Int) : ∀ ns : List Int, inV (.int z) (ns.map V.int) = decide (z ∈ ns)
  | [] => rfl
  | n :: ns => by
    have ih := inV_ints z ns
    unfold inV at ih ⊢
    rw [List.map_cons, List.any_cons, ih]
    show ((n == z) || decide (z ∈ ns)) = decide (z ∈ n :: ns)
    by_cases h : n = z
    · subst h
      simp
    · have h2 : ¬ z = n := fun e => h e.symm
      simp [h, h2]
theorem flat_ints : ∀ ns : List Int, (ns.map V.int).all flatV = true
  | [] => rfl
  | _ :: ns => flat_ints ns
theorem dp_ints {K : PySem.W.Frag} {H : Hp} : ∀ ns : List Int, DpAll K H (ns.map V.int) (ns.map PyData.int)
  | [] => .nil
  | n :: ns => .cons (.int n) (dp_ints ns)
theorem canLay_ints : ∀ ns : List Int, PyData.canLayAll0 (ns.map PyData.int) = true
  | [] => rfl
  | n :: ns => by
    rw [List.map_cons]
    unfold PyData.canLayAll0
    rw [canLay_ints ns]
    rfl
theorem depth_ints : ∀ ns : List Int, PyData.depthAll (ns.map PyData.int) ≤ 1
  | [] => by simp [PyData.depthAll]
  | n :: ns => by
    have ih := depth_ints ns
    simp only [List.map_cons, PyData.depthAll, PyData.depth]
    omega
theorem shaped_ints (ns : List Int) : SeqAt.shaped (.list (ns.map PyData.int)) = true := by
  unfold SeqAt.shaped
  have h1 : PyData.canLay0 (.list (ns.map PyData.int)) = true := by
    have e : PyData.canLay0 (.list (ns.map PyData.int)) = PyData.canLayAll0 (ns.map PyData.int) := by simp [PyData.canLay0]
    rw [e]
    exact canLay_ints ns
  have h2 : PyData.depth (.list (ns.map PyData.int)) ≤ 64 := by
    have := depth_ints ns
    simp only [PyData.depth]
    omega
  rw [h1, decide_eq_true h2]
  rfl
theorem eqv_ints_nil (ns : List Int) : PyData.eqv (.list (ns.map PyData.int)) (.list []) = decide (ns = []) := by
  cases ns with
  | nil => simp [PyData.eqv, PyData.eqvAll]
  | cons n ns => simp [PyData.eqv, PyData.eqvAll]
/-- [x for x in xs if test] over ints, the test a function of the int -/
theorem lc_filter {K : PySem.W.Frag} {j : Nat} {tt : TT} {σ : L2.St} {H : Hp} {Qd : Hp → Prop} {a D : Addr} (ns : List Int) (p : Int → Bool)
    (hl : SqL K H a (ns.map V.int)) (hz : ns.length ≤ 100000) (nD : H D = none)
    (hw : ∀ z : Int, wipe ((wipe σ [j]).set j (some (.int z))) [j] = wipe σ [j])
    (hg : ∀ z : Int, ((wipe σ [j]).set j (some (.int z)))[j]? = some (some (.int z)))
    (ht : ∀ (z : Int) (H' : Hp) (R : Bool → Hp → Prop), Same H H' → R (p z) H' → tt ((wipe σ [j]).set j (some (.int z))) H' R)
    (q : Qd (upd H D (.lst ((ns.filter p).map V.int)))) :
    ∃ Z : Nat → Nat → Hp → Prop, (∃ m, Z 0 m (upd H D (.lst []))) ∧
      ∀ i m G, Z i m G →
        ((Itl K a).stop i G ∧ Qd G) ∨
        ((Itl K a).go i G ∧ ∃ N : Hp → Prop, (∀ G', N G' → ∃ m', m' < m ∧ Z (i + 1) m' G') ∧
          ∀ x G', (Itl K a).yld i G x G' →
            gName j x (wipe σ [j]) G' fun σ2 G2 =>
              wipe σ2 [j] = wipe σ [j] ∧
              tt σ2 G2 fun b G3 =>
                if b = true then
                  tVar j σ2 G3 fun y G4 =>
                    ∃ acc, G4 D = some (.lst acc) ∧ acc.length < sizeLine ∧
                      N (upd G4 D (.lst (acc ++ [y])))
                else N G3) := by
  refine lc_list (K := K) (a := a) (xs := ns.map V.int) (fun i H' => H' = upd H D (.lst (((ns.take i).filter p).map V.int))) rfl ?_ ?_ ?_
  · intro i H' _ e
    subst e
    exact (Same.new nD).seq hl
  · intro i x H' hx e
    subst e
    rw [List.getElem?_map] at hx
    cases c : ns[i]? with
    | none =>
      rw [c] at hx
      cases hx
    | some z =>
      rw [c] at hx
      have ex : V.int z = x := Option.some.inj hx
      subst ex
      have lt : i < ns.length := (List.getElem?_eq_some_iff.mp c).1
      have tk : (ns.take (i + 1)).filter p = (ns.take i).filter p ++ (if p z = true then [z] else []) := by
        rw [List.take_add_one, c]
        show ((ns.take i) ++ [z]).filter p = _
        rw [List.filter_append]
        by_cases c2 : p z = true
        · rw [if_pos c2]; simp [c2]
        · rw [if_neg c2]; simp [c2]
      refine ⟨hw z, ht z _ _ (Same.new nD) ?_⟩
      by_cases c2 : p z = true
      · rw [c2]
        refine iteT ⟨_, hg z, _, upd_same, ?_, ?_⟩
        · rw [List.length_map]
          have h1 : ((ns.take i).filter p).length ≤ (ns.take i).length := List.length_filter_le _ _
          have h2 : (ns.take i).length ≤ ns.length := List.length_take_le' ..
          exact Nat.lt_of_le_of_lt (Nat.le_trans (Nat.le_trans h1 h2) hz) (by decide)
        · rw [upd_upd, tk, if_pos c2, List.map_append]
          rfl
      · have c3 : p z = false := by simpa using c2
        rw [c3]
        refine iteF ?_
        show upd H D _ = upd H D _
        rw [tk, if_neg c2, List.append_nil]
  · intro H' e
    subst e
    rw [List.length_map, List.take_length]
    exact q
end Gd

set_option Elab.async false
set_option linter.all false
set_option maxRecDepth 100000
set_option autoImplicit false
namespace Gd
open PySem PySem.Spec PyProof.Rows L2

/-! ### data whose text is short -/
structure DOk (n k : Nat) (d : PyData) : Prop where
  short : d.leavesShort 62 = true
  bulk : d.bulk ≤ n
  nod : d.hasDict = false
  shw : d.showable = true
  lay : d.canLay0 = true
  deep : d.depth ≤ k
structure DAll (n k : Nat) (ds : List PyData) : Prop where
  short : PyData.leavesShortAll 62 ds = true
  bulk : PyData.bulkAll ds ≤ n
  nod : PyData.hasDictAll ds = false
  shw : PyData.showableAll ds = true
  lay : PyData.canLayAll0 ds = true
  deep : PyData.depthAll ds ≤ k
theorem DOk.mono {n m k j : Nat} {d : PyData} (h : DOk n k d) (a : n ≤ m) (b : k ≤ j) : DOk m j d :=
  ⟨h.short, Nat.le_trans h.bulk a, h.nod, h.shw, h.lay, Nat.le_trans h.deep b⟩
theorem DAll.mono {n m k j : Nat} {ds : List PyData} (h : DAll n k ds) (a : n ≤ m) (b : k ≤ j) : DAll m j ds :=
  ⟨h.short, Nat.le_trans h.bulk a, h.nod, h.shw, h.lay, Nat.le_trans h.deep b⟩
theorem DOk.none : DOk 0 1 .none := ⟨rfl, Nat.le_refl _, rfl, rfl, rfl, by simp [PyData.depth]⟩
theorem DOk.bool (b : Bool) : DOk 0 1 (.bool b) := ⟨rfl, Nat.le_refl _, rfl, rfl, rfl, by simp [PyData.depth]⟩
theorem DOk.int {i : Int} (h : i.natAbs < 10 ^ 60) : DOk 0 1 (.int i) := by
  refine ⟨?_, Nat.le_refl _, rfl, ?_, rfl, by simp [PyData.depth]⟩
  · have e := int_text_length_le10 (k := 60) (by decide) h
    unfold PyData.leavesShort
    refine decide_eq_true ?_
    show (Str.ofString (toString i)).length ≤ 62
    rw [PySem.ofString_length]
    omega
  · unfold PyData.showable
    refine decide_eq_true ?_
    have h2 : i.natAbs < 2 ^ 200 := Nat.lt_trans h (by decide)
    have := PySem.Flt.log2_lt_of (k := 200) (by decide) h2
    omega
theorem DOk.str {x : Str} (h1 : (x.cps.toList.all fun c => decide (c < 16 ^ 8)) = true) (h2 : x.cps.size ≤ 20) (h3 : PyData.canLay0 (.str x) = true) : DOk 20 1 (.str x) :=
  ⟨by unfold PyData.leavesShort; exact h1, by unfold PyData.bulk; exact h2, rfl, rfl, h3, by simp [PyData.depth]⟩
theorem DAll.nil : DAll 0 0 [] := ⟨rfl, Nat.le_refl _, rfl, rfl, rfl, by simp [PyData.depthAll]⟩
theorem DAll.cons {n m k j : Nat} {d : PyData} {ds : List PyData} (h : DOk n k d) (t : DAll m j ds) : DAll (n + 1 + m) (max k j) (d :: ds) := by
  refine ⟨?_, ?_, ?_, ?_, ?_, ?_⟩
  · unfold PyData.leavesShortAll; rw [h.short, t.short]; rfl
  · unfold PyData.bulkAll; have := h.bulk; have := t.bulk; omega
  · unfold PyData.hasDictAll; rw [h.nod, t.nod]; rfl
  · unfold PyData.showableAll; rw [h.shw, t.shw]; rfl
  · unfold PyData.canLayAll0; rw [h.lay, t.lay]; rfl
  · unfold PyData.depthAll; have := h.deep; have := t.deep; omega
theorem DOk.list {n k : Nat} {ds : List PyData} (t : DAll n k ds) : DOk n (k + 1) (.list ds) := by
  refine ⟨?_, ?_, ?_, ?_, ?_, ?_⟩
  · unfold PyData.leavesShort; exact t.short
  · unfold PyData.bulk; exact t.bulk
  · unfold PyData.hasDict; exact t.nod
  · unfold PyData.showable; exact t.shw
  · unfold PyData.canLay0; exact t.lay
  · unfold PyData.depth; have := t.deep; omega
theorem DOk.tuple {n k : Nat} {ds : List PyData} (t : DAll n k ds) : DOk n (k + 1) (.tuple ds) := by
  refine ⟨?_, ?_, ?_, ?_, ?_, ?_⟩
  · unfold PyData.leavesShort; exact t.short
  · unfold PyData.bulk; exact t.bulk
  · unfold PyData.hasDict; exact t.nod
  · unfold PyData.showable; exact t.shw
  · unfold PyData.canLay0; exact t.lay
  · unfold PyData.depth; have := t.deep; omega
theorem DOk.fits {n k : Nat} {d : PyData} (h : DOk n k d) (hn : n ≤ 200000) : d.shown.length ≤ sizeLine := by
  have e := PyData.shown_le_bulk 62 (by decide) d h.short
  have b := h.bulk
  have s : sizeLine = 16777216 := by decide
  omega
theorem DOk.shaped {n k : Nat} {d : PyData} (h : DOk n k d) (hk : k ≤ 64) : SeqAt.shaped d = true := by
  unfold SeqAt.shaped
  rw [h.lay, decide_eq_true (Nat.le_trans h.deep hk)]
  rfl
theorem DOk.eqv {n k : Nat} {d : PyData} (h : DOk n k d) : PyData.eqv d d = true := SeqAt.eqv_refl d h.lay
section
variable {X : Cx}
/-- repr of data that is short -/
theorem call_reprD {k : Nat} (gd : X.A.guards = some []) (hr : Room k X.A) : CallR X (.builtin "repr") (fun xs H Q => ∃ v d n k, xs = [v] ∧
    Dp X.K H v d ∧ DOk n k d ∧ n ≤ 200000 ∧ k ≤ 64 ∧ (∃ a, v = .ref a) ∧ Q (.str d.shown) H) := by
  intro pins s σ H xs us Q I r h
  obtain ⟨v, d, n, k, e, dp, ok, hn, hk, ex, q⟩ := h
  exact call_repr gd hr pins s σ H xs us Q I r ⟨v, d, e, dp, ok.nod, ok.shw, Nat.le_trans ok.deep hk, ok.fits hn, ex, q⟩
end

/-! ### draws -/
theorem RS.fresh {n : Nat} {H : Hp} {g p : Addr} (r : RS n H g) (np : H p = none) : p ≠ g := fun z => by
  obtain ⟨_, _, _, e, _⟩ := r.ok
  rw [← z, np] at e
  cases e
theorem pick_mem {xs : List V} {d : Int} (h0 : 0 ≤ d) (h1 : d < (xs.length : Int)) : ∃ v, atI xs d = some v ∧ v ∈ xs := by
  have lt : d.toNat < xs.length := by omega
  refine ⟨xs[d.toNat], ?_, List.getElem_mem lt⟩
  exact at_of (j := d.toNat) (by omega) (List.getElem?_eq_getElem lt)
theorem Kp.lst {K : PySem.W.Frag} {H H' : Hp} {g b : Addr} {xs : List V} (k : Kp g H H') (h : b ≠ g) (l : SqL K H b xs) : SqL K H' b xs := by
  rcases l with (h2 | ⟨o, h2⟩) | h2
  · exact .inl (.inl (k _ _ h h2))
  · exact .inl (.inr ⟨o, k _ _ h h2⟩)
  · exact .inr h2
/-- [e for x in xs] over a list; each e is a value of its own (told by f), no matter what else the heap bears -/
theorem lc_map {K : PySem.W.Frag} {j : Nat} {te : TE} {σ : L2.St} {H : Hp} {Qd : Hp → Prop} {a D : Addr} {xs : List V} (f : V → V)
    (hl : SqL K H a xs) (hz : xs.length ≤ 100000) (nD : H D = none)
    (hw : ∀ z : V, wipe ((wipe σ [j]).set j (some z)) [j] = wipe σ [j])
    (he : ∀ (z : V) (H' : Hp) (R : VK), z ∈ xs → Same H H' → R (f z) H' → te ((wipe σ [j]).set j (some z)) H' R)
    (q : Qd (upd H D (.lst (xs.map f)))) :
    ∃ Z : Nat → Nat → Hp → Prop, (∃ m, Z 0 m (upd H D (.lst []))) ∧
      ∀ i m G, Z i m G →
        ((Itl K a).stop i G ∧ Qd G) ∨
        ((Itl K a).go i G ∧ ∃ N : Hp → Prop, (∀ G', N G' → ∃ m', m' < m ∧ Z (i + 1) m' G') ∧
          ∀ x G', (Itl K a).yld i G x G' →
            gName j x (wipe σ [j]) G' fun σ2 G2 =>
              wipe σ2 [j] = wipe σ [j] ∧
              tYes σ2 G2 fun b G3 =>
                if b = true then
                  te σ2 G3 fun y G4 =>
                    ∃ acc, G4 D = some (.lst acc) ∧ acc.length < sizeLine ∧
                      N (upd G4 D (.lst (acc ++ [y])))
                else N G3) := by
  refine lc_list (K := K) (a := a) (xs := xs) (fun i H' => H' = upd H D (.lst ((xs.take i).map f))) rfl ?_ ?_ ?_
  · intro i H' _ e
    subst e
    exact (Same.new nD).seq hl
  · intro i x H' hx e
    subst e
    have lt : i < xs.length := (List.getElem?_eq_some_iff.mp hx).1
    have tk : (xs.take (i + 1)).map f = (xs.take i).map f ++ [f x] := by
      rw [List.take_add_one, hx]
      simp
    refine ⟨hw x, ?_⟩
    refine he x _ _ (List.mem_of_getElem? hx) (Same.new nD) ⟨_, upd_same, ?_, ?_⟩
    · rw [List.length_map]
      exact Nat.lt_of_le_of_lt (Nat.le_trans (List.length_take_le' ..) hz) (by decide)
    · rw [upd_upd, tk]
  · intro H' e
    subst e
    rw [List.take_length]
    exact q
/-- [e for x in xs] over a list; e may make objects; each is told by Out of its place -/
theorem lc_rel {K : PySem.W.Frag} {j : Nat} {te : TE} {σ : L2.St} {H : Hp} {Qd : Hp → Prop} {a D : Addr} {xs : List V} (Out : Nat → Hp → V → Prop)
    (hl : SqL K H a xs) (hz : xs.length ≤ 100000) (nD : H D = none)
    (st : ∀ i G G' y acc, Kp D G G' → G D = some (.lst acc) → Out i G y → Out i G' y)
    (hw : ∀ z : V, wipe ((wipe σ [j]).set j (some z)) [j] = wipe σ [j])
    (he : ∀ (i : Nat) (z : V) (G : Hp) (R : VK), xs[i]? = some z → Same H G → (∀ y G', Same G G' → Out i G' y → R y G') → te ((wipe σ [j]).set j (some z)) G R)
    (q : ∀ G ys, Same H G → G D = some (.lst ys) → ys.length = xs.length → (∀ (i : Nat) y, ys[i]? = some y → Out i G y) → Qd G) :
    ∃ Z : Nat → Nat → Hp → Prop, (∃ m, Z 0 m (upd H D (.lst []))) ∧
      ∀ i m G, Z i m G →
        ((Itl K a).stop i G ∧ Qd G) ∨
        ((Itl K a).go i G ∧ ∃ N : Hp → Prop, (∀ G', N G' → ∃ m', m' < m ∧ Z (i + 1) m' G') ∧
          ∀ x G', (Itl K a).yld i G x G' →
            gName j x (wipe σ [j]) G' fun σ2 G2 =>
              wipe σ2 [j] = wipe σ [j] ∧
              tYes σ2 G2 fun b G3 =>
                if b = true then
                  te σ2 G3 fun y G4 =>
                    ∃ acc, G4 D = some (.lst acc) ∧ acc.length < sizeLine ∧
                      N (upd G4 D (.lst (acc ++ [y])))
                else N G3) := by
  refine lc_list (K := K) (a := a) (xs := xs) (fun i G => Same H G ∧ ∃ ys, G D = some (.lst ys) ∧ ys.length = i ∧ ∀ (k : Nat) y, ys[k]? = some y → Out k G y)
    ⟨Same.new nD, [], upd_same, rfl, fun k y e => by simp at e⟩ ?_ ?_ ?_
  · intro i G _ e
    exact e.1.seq hl
  · rintro i x G hx ⟨sm, ys, oD, ly, ok⟩
    have lt : i < xs.length := (List.getElem?_eq_some_iff.mp hx).1
    refine ⟨hw x, ?_⟩
    refine he i x G _ hx sm fun y G' sm' oy => ⟨ys, sm' _ _ oD, Nat.lt_of_le_of_lt (by omega : ys.length ≤ 100000) (by decide), ?_⟩
    have kp : Kp D G' (upd G' D (.lst (ys ++ [y]))) := Kp.at
    refine ⟨fun b o e => ?_, ys ++ [y], upd_same, by rw [List.length_append, ly]; rfl, ?_⟩
    · rw [upd_ne (ne_of_none e nD)]
      exact sm' _ _ (sm _ _ e)
    · intro k y' ey
      by_cases c : k < ys.length
      · rw [List.getElem?_append_left c] at ey
        exact st _ _ _ _ _ kp (sm' _ _ oD) (st _ _ _ _ _ (Kp.of sm') oD (ok k y' ey))
      · have kl : k < (ys ++ [y]).length := (List.getElem?_eq_some_iff.mp ey).1
        rw [List.length_append] at kl
        have kk : k = i := by
          have : ([y] : List V).length = 1 := rfl
          omega
        subst kk
        rw [List.getElem?_append_right (by omega), ly, Nat.sub_self] at ey
        have e1 : y = y' := Option.some.inj ey
        subst e1
        exact st _ _ _ _ _ kp (sm' _ _ oD) oy
  · rintro G ⟨sm, ys, oD, ly, ok⟩
    exact q G ys sm oD ly ok
theorem SqT.kpl {K : PySem.W.Frag} {H H' : Hp} {a b : Addr} {xs ys : List V} (k : Kp a H H') (l : H a = some (.lst ys)) (h : SqT K H b xs) : SqT K H' b xs := by
  rcases h with (h | ⟨o, h⟩) | h
  · exact .inl (.inl (k _ _ (ne_of h l (fun z => by cases z)) h))
  · exact .inl (.inr ⟨o, k _ _ (ne_of h l (fun z => by cases z)) h⟩)
  · exact .inr h
theorem RgV.kpl {K : PySem.W.Frag} {H H' : Hp} {a : Addr} {v : V} {r : Rg} {ys : List V} (k : Kp a H H') (l : H a = some (.lst ys)) (h : RgV K H v r) : RgV K H' v r := by
  match r, h with
  | none, h => exact h
  | some q, ⟨p, e, s⟩ => exact ⟨p, e, SqT.kpl k l s⟩
/-! ### data of any size, for == -/
structure Ly (k : Nat) (d : PyData) : Prop where
  lay : d.canLay0 = true
  deep : d.depth ≤ k
structure LyAll (k : Nat) (ds : List PyData) : Prop where
  lay : PyData.canLayAll0 ds = true
  deep : PyData.depthAll ds ≤ k
theorem Ly.mono {k j : Nat} {d : PyData} (h : Ly k d) (a : k ≤ j) : Ly j d := ⟨h.lay, Nat.le_trans h.deep a⟩
theorem LyAll.mono {k j : Nat} {d : List PyData} (h : LyAll k d) (a : k ≤ j) : LyAll j d := ⟨h.lay, Nat.le_trans h.deep a⟩
theorem Ly.none : Ly 1 .none := ⟨rfl, by simp [PyData.depth]⟩
theorem Ly.bool (b : Bool) : Ly 1 (.bool b) := ⟨rfl, by simp [PyData.depth]⟩
theorem Ly.int (i : Int) : Ly 1 (.int i) := ⟨rfl, by simp [PyData.depth]⟩
theorem LyAll.nil : LyAll 0 [] := ⟨rfl, by simp [PyData.depthAll]⟩
theorem LyAll.cons {k j : Nat} {d : PyData} {ds : List PyData} (h : Ly k d) (t : LyAll j ds) : LyAll (max k j) (d :: ds) := by
  refine ⟨?_, ?_⟩
  · unfold PyData.canLayAll0; rw [h.lay, t.lay]; rfl
  · unfold PyData.depthAll; have := h.deep; have := t.deep; omega
theorem Ly.list {k : Nat} {ds : List PyData} (t : LyAll k ds) : Ly (k + 1) (.list ds) := by
  refine ⟨?_, ?_⟩
  · unfold PyData.canLay0; exact t.lay
  · unfold PyData.depth; have := t.deep; omega
theorem Ly.tuple {k : Nat} {ds : List PyData} (t : LyAll k ds) : Ly (k + 1) (.tuple ds) := by
  refine ⟨?_, ?_⟩
  · unfold PyData.canLay0; exact t.lay
  · unfold PyData.depth; have := t.deep; omega
theorem Ly.shaped {k : Nat} {d : PyData} (h : Ly k d) (hk : k ≤ 64 := by decide) : SeqAt.shaped d = true := by
  unfold SeqAt.shaped
  rw [h.lay, decide_eq_true (Nat.le_trans h.deep hk)]
  rfl
theorem Ly.eqv {k : Nat} {d : PyData} (h : Ly k d) : PyData.eqv d d = true := SeqAt.eqv_refl d h.lay
/-- [e for x in t] over a tuple -/
theorem lc_relT {K : PySem.W.Frag} {j : Nat} {te : TE} {σ : L2.St} {H : Hp} {Qd : Hp → Prop} {a D : Addr} {xs : List V} (Out : Nat → Hp → V → Prop)
    (hl : SqT K H a xs) (hz : xs.length ≤ 100000) (nD : H D = none)
    (st : ∀ i G G' y acc, Kp D G G' → G D = some (.lst acc) → Out i G y → Out i G' y)
    (hw : ∀ z : V, wipe ((wipe σ [j]).set j (some z)) [j] = wipe σ [j])
    (he : ∀ (i : Nat) (z : V) (G : Hp) (R : VK), xs[i]? = some z → Same H G → (∀ y G', Same G G' → Out i G' y → R y G') → te ((wipe σ [j]).set j (some z)) G R)
    (q : ∀ G ys, Same H G → G D = some (.lst ys) → ys.length = xs.length → (∀ (i : Nat) y, ys[i]? = some y → Out i G y) → Qd G) :
    ∃ Z : Nat → Nat → Hp → Prop, (∃ m, Z 0 m (upd H D (.lst []))) ∧
      ∀ i m G, Z i m G →
        ((Itt K a).stop i G ∧ Qd G) ∨
        ((Itt K a).go i G ∧ ∃ N : Hp → Prop, (∀ G', N G' → ∃ m', m' < m ∧ Z (i + 1) m' G') ∧
          ∀ x G', (Itt K a).yld i G x G' →
            gName j x (wipe σ [j]) G' fun σ2 G2 =>
              wipe σ2 [j] = wipe σ [j] ∧
              tYes σ2 G2 fun b G3 =>
                if b = true then
                  te σ2 G3 fun y G4 =>
                    ∃ acc, G4 D = some (.lst acc) ∧ acc.length < sizeLine ∧
                      N (upd G4 D (.lst (acc ++ [y])))
                else N G3) := by
  refine lc_tup (K := K) (a := a) (xs := xs) (fun i G => Same H G ∧ ∃ ys, G D = some (.lst ys) ∧ ys.length = i ∧ ∀ (k : Nat) y, ys[k]? = some y → Out k G y)
    ⟨Same.new nD, [], upd_same, rfl, fun k y e => by simp at e⟩ ?_ ?_ ?_
  · intro i G _ e
    exact SqT.same e.1 hl
  · rintro i x G hx ⟨sm, ys, oD, ly, ok⟩
    have lt : i < xs.length := (List.getElem?_eq_some_iff.mp hx).1
    refine ⟨hw x, ?_⟩
    refine he i x G _ hx sm fun y G' sm' oy => ⟨ys, sm' _ _ oD, Nat.lt_of_le_of_lt (by omega : ys.length ≤ 100000) (by decide), ?_⟩
    have kp : Kp D G' (upd G' D (.lst (ys ++ [y]))) := Kp.at
    refine ⟨fun b o e => ?_, ys ++ [y], upd_same, by rw [List.length_append, ly]; rfl, ?_⟩
    · rw [upd_ne (ne_of_none e nD)]
      exact sm' _ _ (sm _ _ e)
    · intro k y' ey
      by_cases c : k < ys.length
      · rw [List.getElem?_append_left c] at ey
        exact st _ _ _ _ _ kp (sm' _ _ oD) (st _ _ _ _ _ (Kp.of sm') oD (ok k y' ey))
      · have kl : k < (ys ++ [y]).length := (List.getElem?_eq_some_iff.mp ey).1
        rw [List.length_append] at kl
        have kk : k = i := by
          have : ([y] : List V).length = 1 := rfl
          omega
        subst kk
        rw [List.getElem?_append_right (by omega), ly, Nat.sub_self] at ey
        have e1 : y = y' := Option.some.inj ey
        subst e1
        exact st _ _ _ _ _ kp (sm' _ _ oD) oy
  · rintro G ⟨sm, ys, oD, ly, ok⟩
    exact q G ys sm oD ly ok
end Gd

set_option Elab.async false
set_option linter.all false
set_option maxRecDepth 100000
set_option autoImplicit false
namespace Gd
open PySem PySem.Spec PyProof.Rows L2

/-! ### data stays -/
mutual
theorem dp_same {K : PySem.W.Frag} {H H' : Hp} (k : Same H H') : ∀ {v : V} {d : PyData}, Dp K H v d → Dp K H' v d
  | _, _, .non => .non
  | _, _, .bl b => .bl b
  | _, _, .int i => .int i
  | _, _, .str x => .str x
  | _, _, .lst s a => .lst (k.seq s) (dpa_same k a)
  | _, _, .tup s a => .tup (SqT.same k s) (dpa_same k a)
theorem dpa_same {K : PySem.W.Frag} {H H' : Hp} (k : Same H H') : ∀ {v : List V} {d : List PyData}, DpAll K H v d → DpAll K H' v d
  | _, _, .nil => .nil
  | _, _, .cons a b => .cons (dp_same k a) (dpa_same k b)
end
/-- no list in it -/
inductive NoL : PyData → Prop
  | non : NoL .none
  | bl (b : Bool) : NoL (.bool b)
  | int (i : Int) : NoL (.int i)
  | str (x : Str) : NoL (.str x)
  | tup {ds : List PyData} : (∀ d ∈ ds, NoL d) → NoL (.tuple ds)
/-- the only list that may change stands at a -/
def Kl (a : Addr) (H H' : Hp) : Prop := (∃ ys, H a = some (.lst ys)) ∧ Kp a H H'
mutual
theorem dp_kl {K : PySem.W.Frag} {H H' : Hp} {a : Addr} (k : Kl a H H') : ∀ {v : V} {d : PyData}, Dp K H v d → NoL d → Dp K H' v d
  | _, _, .non, _ => .non
  | _, _, .bl b, _ => .bl b
  | _, _, .int i, _ => .int i
  | _, _, .str x, _ => .str x
  | _, _, .tup s x, n => .tup (let ⟨⟨_, o⟩, kp⟩ := k; SqT.kpl kp o s) (dpa_kl k x (match n with | .tup h => h))
  | _, _, .lst s x, n => nomatch n
theorem dpa_kl {K : PySem.W.Frag} {H H' : Hp} {a : Addr} (k : Kl a H H') : ∀ {v : List V} {d : List PyData}, DpAll K H v d → (∀ x ∈ d, NoL x) → DpAll K H' v d
  | _, _, .nil, _ => .nil
  | _, _, .cons x y, n => .cons (dp_kl k x (n _ (by simp))) (dpa_kl k y fun z m => n z (by simp [m]))
end
theorem RS.kl {n : Nat} {H H' : Hp} {g : Addr} (r : RS n H g) (k : Kp g H H') : Kl g H H' := by
  obtain ⟨_, _, _, e, _⟩ := r.ok
  exact ⟨⟨_, e⟩, k⟩
theorem dpa_len {K : PySem.W.Frag} {H : Hp} : ∀ {v : List V} {d : List PyData}, DpAll K H v d → v.length = d.length
  | _, _, .nil => rfl
  | _, _, .cons _ b => by rw [List.length_cons, List.length_cons, dpa_len b]
theorem dpa_get {K : PySem.W.Frag} {H : Hp} : ∀ {v : List V} {d : List PyData} {i : Nat} {x : V}, DpAll K H v d → v[i]? = some x → ∃ y, d[i]? = some y ∧ Dp K H x y
  | _, _, _, _, .nil, e => by simp at e
  | _, _, 0, _, .cons a _, e => by
    have e' := Option.some.inj e
    subst e'
    exact ⟨_, rfl, a⟩
  | _, _, i + 1, x, .cons _ b, e => by
    obtain ⟨y, e2, h⟩ := dpa_get (i := i) (x := x) b (by simpa using e)
    exact ⟨y, by simpa using e2, h⟩
theorem dpa_app {K : PySem.W.Frag} {H : Hp} : ∀ {v w : List V} {d e : List PyData}, DpAll K H v d → DpAll K H w e → DpAll K H (v ++ w) (d ++ e)
  | _, _, _, _, .nil, y => y
  | _, _, _, _, .cons a b, y => .cons a (dpa_app b y)
theorem dpa_one {K : PySem.W.Frag} {H : Hp} {v : V} {d : PyData} (h : Dp K H v d) : DpAll K H [v] [d] := .cons h .nil
theorem dpa_take {K : PySem.W.Frag} {H : Hp} : ∀ {v : List V} {d : List PyData} (n : Nat), DpAll K H v d → DpAll K H (v.take n) (d.take n)
  | _, _, 0, _ => .nil
  | _, _, _ + 1, .nil => .nil
  | _, _, n + 1, .cons a b => .cons a (dpa_take n b)
theorem dpa_drop {K : PySem.W.Frag} {H : Hp} : ∀ {v : List V} {d : List PyData} (n : Nat), DpAll K H v d → DpAll K H (v.drop n) (d.drop n)
  | _, _, 0, r => r
  | _, _, _ + 1, .nil => .nil
  | _, _, n + 1, .cons _ b => dpa_drop n b
theorem dpa_rev {K : PySem.W.Frag} {H : Hp} : ∀ {v : List V} {d : List PyData}, DpAll K H v d → DpAll K H v.reverse d.reverse
  | _, _, .nil => .nil
  | _, _, .cons a b => by
    rw [List.reverse_cons, List.reverse_cons]
    exact dpa_app (dpa_rev b) (dpa_one a)
theorem dpa_strs {K : PySem.W.Frag} {H : Hp} : ∀ ns : List Str, DpAll K H (ns.map V.str) (ns.map PyData.str)
  | [] => .nil
  | n :: ns => .cons (.str n) (dpa_strs ns)

/-! ### an own class: its methods, len, == -/
/-- where a method stands -/
def AtM (K : PySem.W.Frag) (C : Addr) (m qual : Str) (st : Stmt) (ps : List Str) : Prop :=
  ∃ f fd, PySem.W.findIn K (.ref C) m = some (some (.ref f)) ∧ PySem.W.isFn K (.ref f) = true ∧ Fun K m qual st f fd ∧ Binds K fd ps []
/-- where a property's getter stands -/
def AtP (K : PySem.W.Frag) (C : Addr) (m qual : Str) (st : Stmt) (ps : List Str) : Prop :=
  ∃ p f fd, PropOf K C m p f ∧ Fun K m qual st f fd ∧ Binds K fd ps []
structure Mt (P : Program) (w : World) (K : PySem.W.Frag) (mg : Str → Option Value) (base : Heap)
    (k : Nat) (C : Addr) (m qual : Str) (st : Stmt) (ps : List Str) (sp : Sp) : Prop where
  ex : ∃ f fd, PySem.W.findIn K (.ref C) m = some (some (.ref f)) ∧ PySem.W.isFn K (.ref f) = true ∧ Fun K m qual st f fd ∧ Binds K fd ps [] ∧ FnOk P w K mg base CX0 k f fd ps sp
structure Pt (P : Program) (w : World) (K : PySem.W.Frag) (mg : Str → Option Value) (base : Heap)
    (k : Nat) (C : Addr) (m qual : Str) (st : Stmt) (ps : List Str) (sp : Sp) : Prop where
  ex : ∃ p f fd, PropOf K C m p f ∧ Fun K m qual st f fd ∧ Binds K fd ps [] ∧ FnOk P w K mg base CX0 k f fd ps sp
/-- an own class -/
structure Ck (K : PySem.W.Frag) (mg : Str → Option Value) (C : Addr) (x : Str) : Prop where
  cl : Cls K C
  mks : PySem.W.makesIn K C = true
  kp : PySem.W.keepIn K (.ref C) = true
  mg_ : mg x = some (.ref C)
section
variable {P : Program} {w : World} {K : PySem.W.Frag} {mg : Str → Option Value} {base : Heap}
theorem Mt.mk' {C : Addr} {m qual : Str} {st : Stmt} {ps : List Str} {k : Nat} {sp : Sp} (h : AtM K C m qual st ps)
    (ok : ∀ f fd, Fun K m qual st f fd → FnOk P w K mg base CX0 k f fd ps sp) : Mt P w K mg base k C m qual st ps sp := by
  obtain ⟨f, fd, a, i, F, b⟩ := h
  exact ⟨f, fd, a, i, F, b, ok f fd F⟩
theorem Pt.mk' {C : Addr} {m qual : Str} {st : Stmt} {ps : List Str} {k : Nat} {sp : Sp} (h : AtP K C m qual st ps)
    (ok : ∀ f fd, Fun K m qual st f fd → FnOk P w K mg base CX0 k f fd ps sp) : Pt P w K mg base k C m qual st ps sp := by
  obtain ⟨p, f, fd, a, F, b⟩ := h
  exact ⟨p, f, fd, a, F, b, ok f fd F⟩
end
section
variable {X : Cx} {x m qual : Str} {st : Stmt} {ps ks : List Str} {sp : Sp} {k j n : Nat} {e o : Expr} {es : List Expr} {kws : List Keyword} {ta : TE} {t tk : TA} {p pos apos : Pos} {C : Addr}
/-- C(e, ..) -/
theorem pe_new (T : Ck X.K X.mg C x) (D : Mt X.prog X.w X.K X.mg X.base k C "__init__" qual st ps sp) (hr : Room j X.A) (hg : Gl X x) (ha : PA X (e :: es) t) (hk : k + 1 ≤ j := by decide)
    (hdb : (x == ("__debug__" : Str)) = false := by decide) (he : starEach (e :: es) X.env = (false, eval e X.env) :: starEach es X.env := by rfl)
    (hpl : (backTo pos (starEach es X.env)).any (·.1) = false := by rfl) :
    PE X (.Call (.Name x p) (e :: es) [] pos) (tMake C sp [] E0 t) := by
  obtain ⟨f, fd, a, i, F, b, ok⟩ := D.ex
  exact pe_make ⟨T.mks, a, i, T.kp⟩ ok (hr.mono hk) hg T.mg_ b .nil pass0 ha hdb he hpl
/-- e.f, a property -/
theorem pe_p (T : Ck X.K X.mg C x) (D : Pt X.prog X.w X.K X.mg X.base k C m qual st ps sp) (hr : Room j X.A) (he : PE X e ta) (hk : k + 1 ≤ j := by decide)
    (hab : attributeBase e m X.env (eval e X.env) = eval e X.env := by rfl) : PE X (.Attribute e m pos) (tProp C sp [] E0 ta) := by
  obtain ⟨p, f, fd, a, F, b, ok⟩ := D.ex
  exact pe_prop he T.cl a ok (hr.mono hk) b .nil pass0 hab
/-- len(o), o with its own __len__ -/
theorem call_lenO (D : Mt X.prog X.w X.K X.mg X.base k C "__len__" qual st ps sp) (hr : Room j X.A) (hk : k + 1 ≤ j := by decide) :
    CallR X (.builtin "len") (fun xs H Q => ∃ a dx fs, xs = [.ref a] ∧ H a = some (.ins C dx fs) ∧ sp [.ref a] H (fun v H' => ∃ n : Int, v = .int n ∧ 0 ≤ n ∧ n < 2 ^ 63 ∧ Q (.int n) H') E0) := by
  intro pins s σ H xs us Q I r h
  obtain ⟨a, dx, fs, rfl, ha, q⟩ := h
  obtain ⟨f, fd, at_, i, F, b, ok⟩ := D.ex
  obtain ⟨u, rfl, ru⟩ := vals1 r
  cases ru
  obtain ⟨mA, J, _⟩ := ins_get I.hok ha
  obtain ⟨od, J, _⟩ := J.look
  obtain ⟨m, hF⟩ := I.fr
  refine PySem.W.len_K hF I.ok.mod.kin J at_ i ?_
  have cnt : ([Value.ref a] : List Value).length = ps.length := by
    have := ok.len _ _ _ _ q
    exact this
  have bnd : BindsTo s fd ⟨[.ref a], []⟩ (ps.zip [.ref a]) := by
    have z := b s [.ref a] I.kIn (by simpa using cnt)
    simpa using z
  have hr' := hr.mono hk
  refine wpAny_call (codeAny_mono (ok.run X.A.in1 X.stack s H ⟨[.ref a], []⟩ [.ref a] [.ref a] _ E0 hr'.in1 I.env0.in1 bnd (.cons rfl .nil) q) ?_)
  intro r' s' post
  cases r' with
  | error e => exact (post : False).elim
  | ok fl =>
    cases fl with
    | ret u =>
      obtain ⟨v, H', I2, rv, n, ev, n0, n1, q2⟩ := I.after post
      subst ev
      obtain ⟨tk, rfl⟩ := rv
      exact ⟨⟨n0, n1⟩, .int n, H', I2.tok _, ⟨s'.toks, rfl⟩, q2⟩
    | next => exact (post : False).elim
    | brk => exact (post : False).elim
    | cont => exact (post : False).elim
/-- o == y, o with its own __eq__, which tells True or False -/
theorem op_eqO (D : Mt X.prog X.w X.K X.mg X.base k C "__eq__" qual st ps sp) (hr : Room j X.A) (hk : k ≤ j := by decide) :
    OpR X (compareOp .Eq) (fun x y H Q => ∃ a dx fs t, x = .ref a ∧ H a = some (.ins C dx fs) ∧ TyX X.K H y t ∧ PySem.W.notFirst X.K C t = true ∧
      sp [.ref a, y] H (fun v H' => ∃ b : Bool, v = .bl b ∧ Q (.bl b) H') E0) := by
  intro pins s σ H x y v u Q I rx ry h
  obtain ⟨a, dx, fs, t, rfl, ha, ty, nf, q⟩ := h
  obtain ⟨f, fd, at_, i, F, b, ok⟩ := D.ex
  cases rx
  obtain ⟨mA, J, _⟩ := ins_get I.hok ha
  obtain ⟨od, J, _⟩ := J.look
  obtain ⟨m, hF⟩ := I.fr
  obtain ⟨Pk, kit, pk, _⟩ := kit_of I ry ty
  have hr' := hr.mono hk
  show wpAny (model X.prog X.w) X.A (richCompare .Eq (.ref a) u) (EP X pins σ Q) X.xe s
  refine PySem.W.cmp_K (op := .Eq) (tb := t) hr'.units0 hF I.ok.mod.kin J (kit.ty _ _ I.kIn pk) nf at_ i ?_
  have cnt : ([Value.ref a, u] : List Value).length = ps.length := by
    have := ok.len _ _ _ _ q
    exact this
  have bnd : BindsTo s fd ⟨[.ref a, u], []⟩ (ps.zip [.ref a, u]) := by
    have z := b s [.ref a, u] I.kIn (by simpa using cnt)
    simpa using z
  refine wpAny_call (codeAny_mono (ok.run X.A X.stack s H ⟨[.ref a, u], []⟩ [.ref a, u] [.ref a, y] _ E0 hr' I.env0 bnd (.cons rfl (.cons ry .nil)) q) ?_)
  intro r' s' post
  cases r' with
  | error e => exact (post : False).elim
  | ok fl =>
    cases fl with
    | ret w =>
      obtain ⟨v, H', I2, rv, n, ev, q2⟩ := I.after post
      subst ev
      have ew : w = Value.bool n := rv
      subst ew
      exact ⟨.bl n, H', I2, rfl, q2⟩
    | next => exact (post : False).elim
    | brk => exact (post : False).elim
    | cont => exact (post : False).elim
/-- C(k = v, ..) -/
theorem pe_newk {g : {α : Type} → List α → List α → List α} (T : Ck X.K X.mg C x) (D : Mt X.prog X.w X.K X.mg X.base k C "__init__" qual st ps sp) (hr : Room j X.A)
    (kb : ∀ f fd, Fun X.K "__init__" qual st f fd → KBn X.K fd ps 1 ks g g) (hg : Gl X x) (hkw : PK X kws tk) (hk : k + 1 ≤ j := by decide)
    (hall : (backToKw pos (keywordEach kws X.env)).all (·.1.isSome) = true := by rfl) (hks : (backToKw pos (keywordEach kws X.env)).filterMap (·.1) = ks := by rfl) (hdb : (x == ("__debug__" : Str)) = false := by decide)
    (hpl : ((backTo pos (starEach [] X.env)).any (·.1) || (backToKw pos (keywordEach kws X.env)).any (·.1.isNone)) = false := by rfl) :
    PE X (.Call (.Name x p) [] kws pos) (tMakeK C 0 ks.length sp g E0 tNil tk) := by
  obtain ⟨f, fd, a, i, F, b, ok⟩ := D.ex
  exact pe_makeK0 ⟨T.mks, a, i, T.kp⟩ ok (hr.mono hk) hg T.mg_ (kb f fd F) pass0 hkw hall hks hdb hpl
end
end Gd

set_option Elab.async false
set_option linter.all false
set_option maxRecDepth 100000
set_option autoImplicit false
namespace Gd
open PySem PySem.Spec PyProof.Rows L2

/-! ### t[::-1], t a tuple -/
theorem adjust_rev (n : Nat) : Builtin.Slice.sliceAdjust none none (-1) (n : Int) = ((n : Int) - 1, -1) := by
  simp [Builtin.Slice.sliceAdjust]
theorem places_rev (n : Nat) : Builtin.Slice.slicePlaces ((n : Int) - 1) (-1) (-1) = n := by
  unfold Builtin.Slice.slicePlaces
  rw [if_neg (by decide)]
  by_cases h : (n : Int) - 1 > -1
  · rw [if_pos h]
    have e : (- (-1) : Int) = 1 := by decide
    rw [e, Int.ediv_one]
    omega
  · rw [if_neg h]
    omega
theorem fm_congr {α β : Type} {f g : α → Option β} : ∀ l : List α, (∀ x ∈ l, f x = g x) → l.filterMap f = l.filterMap g
  | [], _ => rfl
  | a :: l, h => by
    rw [List.filterMap_cons, List.filterMap_cons, h a (by simp), fm_congr l fun x m => h x (by simp [m])]
theorem pick_rev (xs : Array Value) : ((List.range xs.size).filterMap fun (k : Nat) => xs[(((xs.size : Int) - 1) + (k : Int) * (-1)).toNat]?).toArray = xs.toList.reverse.toArray := by
  have e : ((List.range xs.size).filterMap fun (k : Nat) => xs[(((xs.size : Int) - 1) + (k : Int) * (-1)).toNat]?) = ((List.range xs.size).map fun k => xs.size - 1 - k).filterMap (xs[·]?) := by
    rw [List.filterMap_map]
    refine fm_congr _ fun k hk => ?_
    have := List.mem_range.mp hk
    show xs[(((xs.size : Int) - 1) + (k : Int) * (-1)).toNat]? = xs[xs.size - 1 - k]?
    congr 1
    omega
  rw [e, PySem.W.krv_range, List.filterMap_reverse, PySem.W.krv_all]
section
variable {prog : Program} {w : World} {A : Around} {E : Value → Shared → Prop} {s : Shared}
theorem applied_rev {sl : Addr} {vl vu vs : Value} {n : Nat} {Q : Int × Int × Nat → Shared → Prop} (hs : s.heap.IsSliceOf sl vl vu vs) (pl : IsPart vl none) (pu : IsPart vu none) (ps : IsPart vs (some (-1)))
    (h : Q ((n : Int) - 1, -1, n) s) : wpAny (model prog w) A (Builtin.Slice.sliceApplied (.ref sl) (pure (n : Int))) Q E s := by
  obtain ⟨os, hos, hcs, hds⟩ := id hs
  unfold Builtin.Slice.sliceApplied Builtin.Slice.sliceFields
  refine wpAny_bind (wpAny_bind (wpAny_field hos hds (x := vl) rfl (wpAny_bind (wpAny_field hos hds (x := vu) rfl (wpAny_bind (wpAny_field hos hds (x := vs) rfl (wpAny_pure ?_)))))))
  refine wpAny_bind (HT.slicePart_ ps ?_)
  show wpAny _ _ (if ((-1 : Int) == 0) = true then _ else _) _ _ s
  rw [if_neg (by decide)]
  refine wpAny_bind (HT.slicePart_ pl (wpAny_bind (HT.slicePart_ pu (wpAny_bind (wpAny_pure ?_)))))
  show wpAny _ _ (match Builtin.Slice.sliceAdjust none none (-1) (n : Int) with | (lo, hi) => pure (lo, (-1 : Int), Builtin.Slice.slicePlaces lo hi (-1))) _ _ s
  rw [adjust_rev n]
  show wpAny _ _ (pure ((n : Int) - 1, (-1 : Int), Builtin.Slice.slicePlaces ((n : Int) - 1) (-1) (-1))) _ _ s
  rw [places_rev]
  exact wpAny_pure h
theorem getItem_rev {t sl : Addr} {items : Array Value} {vl vu vs : Value} {Q : Value → Shared → Prop} (ht : IsTup s.heap t items) (hs : s.heap.IsSliceOf sl vl vu vs) (pl : IsPart vl none) (pu : IsPart vu none) (ps : IsPart vs (some (-1)))
    (h : Q (.ref s.heap.objs.size) { s with heap := s.heap.push { cls := .type "tuple", data := .seq items.toList.reverse.toArray } })
    (hsz : items.size ≤ sizeLine) : wpAny (model prog w) A (getItem (.ref t) (.ref sl)) Q E s := by
  have hok : sizeOk (.seq items.toList.reverse.toArray) := by
    show items.toList.reverse.toArray.size ≤ sizeLine
    rw [List.size_toArray, List.length_reverse, Array.length_toList]
    exact hsz
  obtain ⟨os, hos, hcs, hds⟩ := id hs
  have hTs : s.TypeIs (.ref sl) "slice" := ⟨os, hos, hcs⟩
  unfold getItem
  try with_reducible refine wpAny_holding ?_
  first | refine wpAny_bind (wpAny_pure ?_) | skip
  refine wpAny_bind (wpAny_sequenceKey ht.typeIs (by decide) ?_)
  refine wpAny_bind (wpAny_callSpecial?_slot (name := Str.ofString "__getitem__") ht.typeIs PyProof.Rows.slot_tuple_getitem
    (wpAny_call_entry PyProof.Rows.slot_tuple_getitem ht.typeIs entry_tuple_getitem ?_ (args_tuple_getitem _ _)))
  show wpAny _ _ (Builtin.Tuple.tupleItemsOf (.ref t) >>= _) _ _ s
  refine wpAny_bind (tupleItemsOf_ ht ?_)
  refine wpAny_bind (wpAny_typeOf hTs ?_)
  rw [if_pos (by decide)]
  refine wpAny_bind (applied_rev hs pl pu ps ?_)
  have hno : ¬ (((((items.size : Int) - 1) == 0) && ((-1 : Int) == 1) && (items.size == items.size)) = true) := by
    intro q
    rw [Bool.and_eq_true, Bool.and_eq_true] at q
    exact absurd (eq_of_beq q.1.2) (by decide)
  show wpAny _ _ (if ((((items.size : Int) - 1) == 0) && ((-1 : Int) == 1) && (items.size == items.size)) = true then _ else _) _ _ s
  rw [if_neg hno, pick_rev]
  first
    | exact wpAny_bind (m := Builtin.Tuple.tupleExact _) (wpAny_newObj_type (wpAny_pure ⟨_, rfl, wpAny_pure h⟩) hok)
    | exact wpAny_bind (m := Builtin.Tuple.tupleExact _) (wpAny_newObj_type (wpAny_bind (wpAny_pure (wpAny_pure ⟨_, rfl, wpAny_pure h⟩))) hok)
    | exact wpAny_bind (wpAny_bind (m := Builtin.Tuple.tupleExact _) (wpAny_newObj_type (wpAny_pure (wpAny_pure ⟨_, rfl, wpAny_pure h⟩)) hok))
    | exact wpAny_bind (wpAny_bind (m := Builtin.Tuple.tupleExact _) (wpAny_newObj_type (wpAny_pure ⟨_, rfl, wpAny_pure h⟩) hok))
end
section
variable {X : Cx}
def tRevT (K : PySem.W.Frag) (te : TE) : TE := fun σ H Q => te σ H fun x H1 => ∃ a xs, x = .ref a ∧ SqT K H1 a xs ∧ ∀ p, H1 p = none → Q (.ref p) (upd H1 p (.tup xs.reverse))
theorem pe_revT {e : Expr} {te : TE} {k : Nat} {p1 p2 p3 pos : Pos} (he : PE X e te) : PE X (.Subscript e (.Slice none none (some (.UnaryOp .USub (.Constant (.int 1) k p1) p2)) p3) pos) (tRevT X.K te) := by
  refine ⟨fun pins s σ H Q I h => ?_⟩
  refine Subscript_ (thn (he.run pins s σ H _ I h) fun v s1 ⟨x, H1, I1, r1, q1⟩ => ?_)
  obtain ⟨a, xs, ex, hx, q⟩ := q1
  subst ex
  cases r1
  have hst : PO X (some (.UnaryOp .USub (.Constant (.int 1) k p1) p2)) (tPart (tUn (rU fun i => .int (-i)) (tC (.int 1)))) := po_some (pe_un un_neg pe_int)
  refine wpAny_Slice (thn (po_none.run pins s1 σ H1 (fun o H2 => o = none ∧ H2 = H1) I1 ⟨rfl, rfl⟩) fun vl s2 ⟨l, H2, I2, pl, el, e2⟩ => ?_)
  subst el e2
  refine thn (po_none.run pins s2 σ H2 (fun o H3 => o = none ∧ H3 = H2) I2 ⟨rfl, rfl⟩) fun vu s3 ⟨u, H3, I3, pu, eu, e3⟩ => ?_
  subst eu e3
  refine thn (hst.run pins s3 σ H3 (fun o H4 => o = some (-1) ∧ H4 = H3) I3 ⟨1, rfl, -1, rfl, rfl, rfl⟩) fun vs s4 ⟨o, H4, I4, ps, eo, e4⟩ => ?_
  subst eo e4
  have I5 : Inv X pins σ H4 { s4 with heap := s4.heap.push { cls := .type "slice", data := .fields #[vl, vu, vs] } } := I4.kept (t' := s4.toks) fun b ob q => Heap.get?_push_of_some _ q
  obtain ⟨its, r, ht, hz⟩ := I5.tuple hx
  have hlen := r.length
  show wpAny (model X.prog X.w) X.A (subscriptTail e (.Slice none none (some (.UnaryOp .USub (.Constant (.int 1) k p1) p2)) p3) (.ref a) (.ref s4.heap.objs.size)) (EP X pins σ Q) X.xe { s4 with heap := s4.heap.push { cls := .type "slice", data := .fields #[vl, vu, vs] } }
  refine tail_any (ops := [.ref a, .ref s4.heap.objs.size]) ht.typeIs (PyProof.Rows.slot_tuple_getitem.lookup) ?_ (by with_unfolding_all rfl)
  refine getItem_rev ht (Heap.IsSliceOf.new _ vl vu vs) pl pu ps ?_ (by rw [List.size_toArray]; omega)
  refine ⟨.ref _, _, I5.laid (t' := s4.toks) (o := .tup xs.reverse) (fun b ob q => Heap.get?_push_of_some _ q) (Nat.le_refl _) ?_, rfl, q _ (I5.hok.fresh (Nat.le_refl _))⟩
  refine ⟨by rw [List.length_reverse]; omega, its.reverse, r.reverse, _, Heap.get?_push_size _ rfl, rfl, 0, rfl⟩
end
end Gd

set_option Elab.async false
set_option linter.all false
set_option maxRecDepth 100000
set_option autoImplicit false
namespace Gd
open PySem PySem.Spec PyProof.Rows L2

/-! ### methods of an own class, called -/
section
variable {X : Cx} {x m qual : Str} {st : Stmt} {ps ks : List Str} {sp : Sp} {k j : Nat} {e o : Expr} {es : List Expr} {kws : List Keyword} {ta : TE} {t tk : TA} {p pos apos : Pos} {C : Addr}
/-- o.m(e, ..) -/
theorem pe_m {pl : Sem Bool} (T : Ck X.K X.mg C x) (D : Mt X.prog X.w X.K X.mg X.base k C m qual st ps sp) (hr : Room j X.A) (he : PE X o ta) (ha : PA X (e :: es) t) (hk : k ≤ j := by decide)
    (hst : starEach (e :: es) X.env = (false, eval e X.env) :: starEach es X.env := by rfl) (hpl : (backTo pos (starEach es X.env)).any (·.1) = false := by rfl)
    (ht : eval (.Call (.Attribute o m apos) (e :: es) [] pos) X.env = (do
      let ov ← eval o X.env
      standAt apos.atName
      let (f, first) ← holding [ov] (getMethod ov m pl)
      callWith pos f first (backTo pos (starEach (e :: es) X.env)) (backToKw pos (keywordEach [] X.env))) := by rfl) :
    PE X (.Call (.Attribute o m apos) (e :: es) [] pos) (tMeth C m sp [] E0 ta t) := by
  obtain ⟨f, fd, at_, i, F, b, ok⟩ := D.ex
  exact pe_meth he T.cl ⟨at_, i, F.kp⟩ ok (hr.mono hk) b .nil pass0 ha hst hpl ht
/-- o.m() -/
theorem pe_m0 {pl : Sem Bool} (T : Ck X.K X.mg C x) (D : Mt X.prog X.w X.K X.mg X.base k C m qual st ps sp) (hr : Room j X.A) (he : PE X o ta) (hk : k ≤ j := by decide)
    (ht : eval (.Call (.Attribute o m apos) [] [] pos) X.env = (do
      let ov ← eval o X.env
      standAt apos.atName
      let (f, first) ← holding [ov] (getMethod ov m pl)
      callWith pos f first (backTo pos (starEach [] X.env)) (backToKw pos (keywordEach [] X.env))) := by rfl) :
    PE X (.Call (.Attribute o m apos) [] [] pos) (tMeth C m sp [] E0 ta tNil) := by
  obtain ⟨f, fd, at_, i, F, b, ok⟩ := D.ex
  exact pe_meth0 he T.cl ⟨at_, i, F.kp⟩ ok (hr.mono hk) b .nil pass0 ht
/-- the reading of o == y, o with its own __eq__ -/
def rEqO (K : PySem.W.Frag) (C : Addr) (sp : Sp) : R2 := fun x y H Q => ∃ a dx fs t, x = .ref a ∧ H a = some (.ins C dx fs) ∧ TyX K H y t ∧ PySem.W.notFirst K C t = true ∧
  sp [.ref a, y] H (fun v H' => ∃ b : Bool, v = .bl b ∧ Q (.bl b) H') E0
/-- the reading of o.m(k = v, ..) -/
def tMethK (C : Addr) (m : Str) (n : Nat) (sp : Sp) (gV : List V → List V → List V) (ta : TE) (tk : TA) : TE := fun σ H Q => ta σ H fun x H1 => ∃ a dx fs, x = .ref a ∧ H1 a = some (.ins C dx fs) ∧ fs.lookup m = none ∧
  tk σ H1 fun zs H2 => zs.length = n ∧ sp (gV [x] zs) H2 Q E0
/-- o.m(k = v, ..) -/
theorem pe_mk {pl : Sem Bool} {g : {α : Type} → List α → List α → List α} (T : Ck X.K X.mg C x) (D : Mt X.prog X.w X.K X.mg X.base k C m qual st ps sp) (hr : Room j X.A) (kb : ∀ f fd, Fun X.K m qual st f fd → KBn X.K fd ps 1 ks g g) (he : PE X o ta) (hkw : PK X kws tk) (hk : k ≤ j := by decide)
    (hall : (backToKw pos (keywordEach kws X.env)).all (·.1.isSome) = true := by rfl) (hks : (backToKw pos (keywordEach kws X.env)).filterMap (·.1) = ks := by rfl)
    (hpl : ((backTo pos (starEach [] X.env)).any (·.1) || (backToKw pos (keywordEach kws X.env)).any (·.1.isNone)) = false := by rfl)
    (ht : eval (.Call (.Attribute o m apos) [] kws pos) X.env = (do
      let ov ← eval o X.env
      standAt apos.atName
      let (f, first) ← holding [ov] (getMethod ov m pl)
      callWith pos f first (backTo pos (starEach [] X.env)) (backToKw pos (keywordEach kws X.env))) := by rfl) :
    PE X (.Call (.Attribute o m apos) [] kws pos) (tMethK C m ks.length sp g ta tk) := by
  obtain ⟨f, fd, at_, i, F, b, ok⟩ := D.ex
  refine ⟨fun pins s σ H Q I h => ?_⟩
  refine PySem.W.methodCall_KW (pl := pl) (thn (he.run pins s σ H _ I h) fun u s1 got => ?_) ht
  obtain ⟨x', H1, I1, rx, a, dx, fs, ex, ea, l, q⟩ := got
  subst ex
  obtain rfl : u = Value.ref a := rx
  refine getmeth_ok I1 ea T.cl ⟨at_, i, F.kp⟩ l ?_
  refine PySem.W.callWith_KW0 (first := [.ref a]) (h₀ := X.base) I.ok.mod.kin F.kp hall ?_ hpl
  refine thn (hkw.run pos pins s1 σ H1 _ I1 q) fun ws s2 got2 => ?_
  obtain ⟨zs, H2, I2, rz, l1, q2⟩ := got2
  refine ⟨I2.kIn, ?_⟩
  rw [hks]
  have kb' := kb f fd F
  have r1 : Vals [V.ref a] [Value.ref a] := .cons rfl .nil
  have rel := kb'.rel r1 rz
  have bnd := kb'.to s2 [.ref a] ws I2.kIn rfl (rz.length.symm.trans l1)
  show wpAny _ _ (call (.ref f) [.ref a] (ks.zip ws)) _ _ _
  refine wpAny_call (codeAny_mono (ok.run X.A X.stack s2 H2 ⟨[.ref a], ks.zip ws⟩ _ _ _ E0 (hr.mono hk) I2.env0 bnd rel q2) ?_)
  intro r s' post
  cases r with
  | error e => exact (post : False).elim
  | ok fl =>
    cases fl with
    | ret u => exact I2.after post
    | next => exact (post : False).elim
    | brk => exact (post : False).elim
    | cont => exact (post : False).elim
end
end Gd

set_option Elab.async false
set_option linter.all false
set_option maxRecDepth 100000
set_option autoImplicit false
namespace Gd
open PySem PySem.Spec PyProof.Rows L2

/-! ### a shown text has only signs that there are -/
def Sg (t : Str) : Prop := ∀ c ∈ t.cps.toList, c < 1114112
theorem Sg.ok {t : Str} (h : Sg t) : PyData.strOk t = true := by
  unfold PyData.strOk
  rw [← Array.all_toList, List.all_eq_true]
  exact fun c m => decide_eq_true (h c m)
theorem Sg.of {t : Str} (h : PyData.strOk t = true) : Sg t := by
  unfold PyData.strOk at h
  rw [← Array.all_toList, List.all_eq_true] at h
  exact fun c m => of_decide_eq_true (h c m)
theorem char_lt (c : Char) : c.toNat < 1114112 := by
  have h := c.valid
  have e : c.toNat = c.val.toNat := rfl
  rcases h with h | h
  · have h1 : c.val.toNat < 0xd800 := h
    omega
  · have h1 : c.val.toNat < 0x110000 := h.2
    omega
theorem Sg.lit (s : String) : Sg (Str.ofString s) := fun c m => by
  rw [signs_ofString] at m
  obtain ⟨ch, _, rfl⟩ := List.mem_map.mp m
  exact char_lt ch
theorem Sg.app {a b : Str} (ha : Sg a) (hb : Sg b) : Sg (a ++ b) := fun c m => by
  have e : (a ++ b).cps = a.cps ++ b.cps := rfl
  rw [e, Array.toList_append, List.mem_append] at m
  exact m.elim (ha c) (hb c)
theorem reprChar_lt {q c : Nat} (hq : q < 1114112) (hc : c < 1114112) : ∀ d ∈ PySem.Builtin.Str.reprChar q c, d < 1114112 := by
  intro d m
  have hex : ∀ n, d ∈ List.replicate n 48 ++ (Nat.toDigits 16 c).map Char.toNat → d < 1114112 := fun n m => by
    rcases List.mem_append.mp m with m | m
    · have := (List.mem_replicate.mp m).2
      omega
    · obtain ⟨ch, _, rfl⟩ := List.mem_map.mp m
      exact char_lt ch
  unfold PySem.Builtin.Str.reprChar at m
  simp only at m
  split at m
  · simp only [List.mem_cons, List.not_mem_nil, or_false] at m
    omega
  split at m
  · simp only [List.mem_cons, List.not_mem_nil, or_false] at m
    omega
  split at m
  · simp only [List.mem_cons, List.not_mem_nil, or_false] at m
    omega
  split at m
  · simp only [List.mem_cons, List.not_mem_nil, or_false] at m
    omega
  split at m
  · simp only [List.mem_cons, List.not_mem_nil, or_false] at m
    omega
  split at m
  · rcases List.mem_append.mp m with m | m
    · simp only [List.mem_cons, List.not_mem_nil, or_false] at m
      omega
    · exact hex _ m
  split at m
  · rcases List.mem_append.mp m with m | m
    · simp only [List.mem_cons, List.not_mem_nil, or_false] at m
      omega
    · exact hex _ m
  · rcases List.mem_append.mp m with m | m
    · simp only [List.mem_cons, List.not_mem_nil, or_false] at m
      omega
    · exact hex _ m
theorem foldl_lt {q : Nat} (hq : q < 1114112) : ∀ (l : List Nat) (acc : Array Nat), (∀ c ∈ l, c < 1114112) → (∀ c ∈ acc.toList, c < 1114112) → ∀ c ∈ (l.foldl (fun out c => out ++ (PySem.Builtin.Str.reprChar q c).toArray) acc).toList, c < 1114112
  | [], acc, _, ha => ha
  | c :: l, acc, hl, ha => by
    refine foldl_lt hq l _ (fun d m => hl d (List.mem_cons_of_mem _ m)) fun d m => ?_
    rw [Array.toList_append, List.mem_append] at m
    rcases m with m | m
    · exact ha d m
    · exact reprChar_lt hq (hl c List.mem_cons_self) d m
theorem quote_lt (x : Str) : reprQuote x < 1114112 := by
  unfold reprQuote
  split <;> decide
theorem Sg.repr {x : Str} (h : Sg x) : Sg (reprText x) := by
  intro c m
  have e : (reprText x).cps = (x.cps.foldl (fun out c => out ++ (PySem.Builtin.Str.reprChar (reprQuote x) c).toArray) #[reprQuote x]).push (reprQuote x) := rfl
  rw [e, Array.toList_push, List.mem_append] at m
  rcases m with m | m
  · rw [← Array.foldl_toList] at m
    refine foldl_lt (quote_lt x) _ _ h (fun d md => ?_) c m
    have : d = reprQuote x := by simpa using md
    rw [this]
    exact quote_lt x
  · have : c = reprQuote x := by simpa using m
    rw [this]
    exact quote_lt x
theorem Sg.text : ∀ (ts : List Str) (k : Nat) (acc : Str), Sg acc → (∀ t ∈ ts, Sg t) → Sg (textFrom k acc ts)
  | [], _, _, ha, _ => ha
  | t :: ts, k, acc, ha, ht => by
    refine Sg.text ts (k + 1) _ (Sg.app (Sg.app ha ?_) (ht t List.mem_cons_self)) fun u m => ht u (List.mem_cons_of_mem _ m)
    split
    · exact Sg.lit _
    · exact Sg.lit _
theorem Sg.join {sep : Str} (hs : Sg sep) : ∀ (ts : List Str), (∀ t ∈ ts, Sg t) → Sg (Str.join sep ts)
  | [], _ => fun c m => by
    have : c ∈ ([] : List Nat) := m
    simp at this
  | [x], h => h x List.mem_cons_self
  | x :: y :: r, h => Sg.app (Sg.app (h x List.mem_cons_self) hs) (Sg.join hs (y :: r) fun t m => h t (List.mem_cons_of_mem _ m))
mutual
theorem shown_sg : ∀ d : PyData, d.canLay0 = true → Sg d.shown
  | .none, _ => by
    rw [PyData.shown_none]
    exact Sg.lit _
  | .bool b, _ => by
    rw [PyData.shown_bool]
    split <;> exact Sg.lit _
  | .int i, _ => by
    rw [PyData.shown_int]
    exact Sg.lit _
  | .str x, h => by
    have h' : PyData.strOk x = true := by simpa [PyData.canLay0] using h
    have e : (PyData.str x).shown = reprText x := by simp [PyData.shown]
    rw [e]
    exact Sg.repr (Sg.of h')
  | .list xs, h => by
    have h' : PyData.canLayAll0 xs = true := by simpa [PyData.canLay0] using h
    have e : (PyData.list xs).shown = listText (PyData.shownAll xs) := by simp [PyData.shown]
    rw [e]
    exact Sg.app (Sg.text _ _ _ (Sg.lit _) (shownAll_sg xs h')) (Sg.lit _)
  | .tuple xs, h => by
    have h' : PyData.canLayAll0 xs = true := by simpa [PyData.canLay0] using h
    have e : (PyData.tuple xs).shown = tupleText (PyData.shownAll xs) := by simp [PyData.shown]
    rw [e]
    refine Sg.app (Sg.app (Sg.lit _) (Sg.join (Sg.lit _) _ (shownAll_sg xs h'))) ?_
    split <;> exact Sg.lit _
  | .dict _, h => by simp [PyData.canLay0] at h
theorem shownAll_sg : ∀ xs : List PyData, PyData.canLayAll0 xs = true → ∀ t ∈ PyData.shownAll xs, Sg t
  | [], _, t, m => by
    rw [PyData.shownAll_nil] at m
    simp at m
  | x :: xs, h, t, m => by
    have h' : x.canLay0 = true ∧ PyData.canLayAll0 xs = true := by simpa [PyData.canLayAll0] using h
    rw [PyData.shownAll_cons, List.mem_cons] at m
    rcases m with rfl | m
    · exact shown_sg x h'.1
    · exact shownAll_sg xs h'.2 t m
end
theorem shown_ok {d : PyData} (h : d.canLay0 = true) : PyData.strOk d.shown = true := (shown_sg d h).ok
end Gd

set_option Elab.async false
set_option linter.all false
set_option maxRecDepth 100000
set_option autoImplicit false
namespace Gd
open PySem PySem.Spec PyProof.Rows L2

/-! ### dicts of text keys -/
mutual
theorem reads_noL {h : Heap} : ∀ (d : PyData) {v : Value} {as : List Addr}, Reads h v d as → NoL d → as = []
  | .none, _, _, r, _ => by cases r; rfl
  | .bool _, _, _, r, _ => by cases r; rfl
  | .int _, _, _, r, _ => by cases r; rfl
  | .str _, _, _, r, _ => by cases r; rfl
  | .list _, _, _, _, n => by cases n
  | .tuple ds, _, _, r, n => by
    cases r with
    | tuple h1 h2 h3 ra => exact readsAll_noL ds ra (by cases n with | tup f => exact f)
  | .dict _, _, _, _, n => by cases n
theorem readsAll_noL {h : Heap} : ∀ (ds : List PyData) {vs : List Value} {as : List Addr}, ReadsAll h vs ds as → (∀ d ∈ ds, NoL d) → as = []
  | [], _, _, r, _ => by cases r; rfl
  | d :: ds, _, _, r, n => by
    cases r with
    | cons r1 r2 =>
      rw [reads_noL d r1 (n d (by simp)), readsAll_noL ds r2 (fun x m => n x (by simp [m]))]
      rfl
end
/-- the pairs of a dict -/
abbrev kvOf (ks : List Str) (vs : List V) : List (Key × V) := (ks.map Sum.inr).zip vs
/-- at a: a dict from the texts ks to values of the data ds -/
structure Dct (K : PySem.W.Frag) (H : Hp) (a : Addr) (ks : List Str) (ds : List PyData) : Prop where
  ex : ∃ vs : List V, vs.length = ks.length ∧ H a = some (.dK (kvOf ks vs)) ∧ DpAll K H vs ds
  nol : ∀ d ∈ ds, NoL d
theorem keys_reads {P : Program} {w : World} {h : Heap} : ∀ {es : List DictEntry} {kvs : List (Key × Value)} {ks : List Str}, Pairs (mixKind P w) es kvs → kvs.map (·.1) = ks.map Sum.inr → ReadsAll h (es.map (·.key)) (ks.map PyData.str) []
  | [], _, ks, .nil, e => by
    have : ks = [] := by simpa using e.symm
    subst this
    exact .nil
  | _ :: _, _, [], .cons _ _ _, e => by simp at e
  | d :: es, kv :: kvs, k :: ks, .cons h1 h2 h3, e => by
    simp only [List.map_cons, List.cons.injEq] at e
    have h1' : keyIs kv.1 d.key = true := h1
    rw [e.1] at h1'
    rcases keyIs_shape h1' with ⟨i, t, q, _⟩ | ⟨x, t, q, q2⟩
    · cases q
    · cases q
      have := keys_reads (h := h) h3 e.2
      simp only [List.map_cons]
      rw [q2]
      exact ReadsAll.cons (.str k t) this
theorem vals_of_pairs {P : Program} {w : World} : ∀ {es : List DictEntry} {kvs : List (Key × Value)}, Pairs (mixKind P w) es kvs → es.map (·.val) = kvs.map (·.2)
  | _, _, .nil => rfl
  | _, _, .cons _ h2 h3 => by
    simp only [List.map_cons]
    rw [h2, vals_of_pairs h3]
theorem kv_vals {α : Type} : ∀ {kvs : List (α × V)} {us : List (α × Value)}, KV kvs us → Vals (kvs.map (·.2)) (us.map (·.2))
  | _, _, .nil => .nil
  | _, _, .cons h t => .cons h.2 (kv_vals t)
theorem kv_keys {α : Type} : ∀ {kvs : List (α × V)} {us : List (α × Value)}, KV kvs us → kvs.map (·.1) = us.map (·.1)
  | _, _, .nil => rfl
  | _, _, .cons h t => by
    simp only [List.map_cons]
    rw [h.1, kv_keys t]
theorem kvOf_keys : ∀ {ks : List Str} {vs : List V}, vs.length = ks.length → (kvOf ks vs).map (·.1) = ks.map Sum.inr
  | [], [], _ => rfl
  | k :: ks, v :: vs, l => by
    show Sum.inr k :: (kvOf ks vs).map (·.1) = _
    rw [kvOf_keys (by simpa using l)]
    rfl
theorem kvOf_vals : ∀ {ks : List Str} {vs : List V}, vs.length = ks.length → (kvOf ks vs).map (·.2) = vs
  | [], [], _ => rfl
  | k :: ks, v :: vs, l => by
    show v :: (kvOf ks vs).map (·.2) = _
    rw [kvOf_vals (by simpa using l)]
/-- the data of such a dict -/
def dctD (ks : List Str) (ds : List PyData) : PyData := .dict ((ks.map PyData.str).zip ds)
/-- a dict whose text is short -/
structure DctOk (n k : Nat) (ks : List Str) (ds : List PyData) : Prop where
  ks_ : ∀ x ∈ ks, DOk 20 1 (.str x)
  ds_ : ∀ d ∈ ds, DOk n k d
  len : ds.length = ks.length
  few : ks.length ≤ 100
theorem zip_facts {n k : Nat} : ∀ {ks : List Str} {ds : List PyData}, ds.length = ks.length → (∀ x ∈ ks, DOk 20 1 (.str x)) → (∀ d ∈ ds, DOk n k d) → 1 ≤ k →
    PyData.leavesShortKv 62 ((ks.map PyData.str).zip ds) = true ∧ PyData.bulkKv ((ks.map PyData.str).zip ds) ≤ ks.length * (n + 22) ∧ PyData.showableKv ((ks.map PyData.str).zip ds) = true ∧ PyData.depthKv ((ks.map PyData.str).zip ds) ≤ k
  | [], [], _, _, _, _ => ⟨rfl, by simp [PyData.bulkKv], rfl, by simp [PyData.depthKv]⟩
  | x :: ks, d :: ds, l, hk, hd, k1 => by
    obtain ⟨a1, a2, a3, a4⟩ := zip_facts (ks := ks) (ds := ds) (by simpa using l) (fun y m => hk y (by simp [m])) (fun y m => hd y (by simp [m])) k1
    have X := hk x (by simp)
    have D := hd d (by simp)
    simp only [List.map_cons, List.zip_cons_cons]
    refine ⟨?_, ?_, ?_, ?_⟩
    · unfold PyData.leavesShortKv
      rw [X.short, D.short, a1]
      rfl
    · unfold PyData.bulkKv
      have := X.bulk
      have := D.bulk
      rw [List.length_cons, Nat.succ_mul]
      omega
    · unfold PyData.showableKv
      rw [X.shw, D.shw, a3]
      rfl
    · unfold PyData.depthKv
      have := X.deep
      have := D.deep
      omega
theorem reads_dct {X : Cx} {pins : List (Addr × Obj)} {σ : L2.St} {H : Hp} {s : Shared} {a : Addr} {ks : List Str} {ds : List PyData} (I : Inv X pins σ H s) (h : Dct X.K H a ks ds) : Reads s.heap (.ref a) (dctD ks ds) [a] ∧ a ≠ sysModules := by
  obtain ⟨vs, lv, e, da⟩ := h.ex
  obtain ⟨_, hs, us, kv, o, es, ep, ho, ex, hdat, _, prs, _⟩ := dk_of I.hok e
  have k1 : ReadsAll s.heap (es.toList.map (·.key)) (ks.map PyData.str) [] := keys_reads prs (by rw [← kv_keys kv, kvOf_keys lv])
  have rv : Vals vs (us.map (·.2)) := by
    have z := kv_vals kv
    rw [kvOf_vals lv] at z
    exact z
  obtain ⟨as, k2⟩ := Dp.readsAll I ds vs (us.map (·.2)) da rv
  have z := readsAll_noL ds k2 h.nol
  subst z
  rw [← vals_of_pairs prs] at k2
  have l1 : (ks.map PyData.str).length = ds.length := by rw [List.length_map, ← lv, dpa_len da]
  have e1 : ((ks.map PyData.str).zip ds).map (·.1) = ks.map PyData.str := by
    rw [List.map_fst_zip]
    omega
  have e2 : ((ks.map PyData.str).zip ds).map (·.2) = ds := by
    rw [List.map_snd_zip]
    omega
  refine ⟨?_, fun z => ?_⟩
  · have := Reads.dict (kvs := (ks.map PyData.str).zip ds) ho ex.1 hdat (by rw [e1]; exact k1) (by rw [e2]; exact k2)
    exact this
  · rw [z] at hs
    simp at hs
section
variable {X : Cx}
/-- repr of a dict that is short -/
theorem call_reprDct {k : Nat} (gd : X.A.guards = some []) (hr : Room k X.A) : CallR X (.builtin "repr") (fun xs H Q => ∃ a ks ds n j, xs = [.ref a] ∧
    Dct X.K H a ks ds ∧ DctOk n j ks ds ∧ n ≤ 1000 ∧ 1 ≤ j ∧ j ≤ 60 ∧ Q (.str (dctD ks ds).shown) H) := by
  intro pins s σ H xs us Q I r h
  obtain ⟨a, ks, ds, n, j, rfl, dc, ok, hn, j1, hj, q⟩ := h
  obtain ⟨u, rfl, ru⟩ := vals1 r
  cases ru
  obtain ⟨rd, ns⟩ := reads_dct I dc
  obtain ⟨f1, f2, f3, f4⟩ := zip_facts ok.len ok.ks_ ok.ds_ j1
  have room := hr.un
  have dd : (dctD ks ds).depth ≤ 61 := by
    unfold dctD PyData.depth
    omega
  have fits : (dctD ks ds).shown.length ≤ sizeLine := by
    have e := PyData.shown_le_bulk 62 (by decide) (dctD ks ds) (by unfold dctD PyData.leavesShort; exact f1)
    have b : (dctD ks ds).bulk ≤ ks.length * (n + 22) := by
      unfold dctD PyData.bulk
      exact f2
    have c : ks.length * (n + 22) ≤ 100 * 1022 := Nat.mul_le_mul ok.few (by omega)
    have s : sizeLine = 16777216 := by decide
    omega
  refine repr_of_reads' rd (by unfold dctD PyData.showable; exact f3) (fun _ z => ?_) gd (by omega) (fun _ _ e => e) ?_ fits
  · have : sysModules = a := by simpa using z
    exact ns this.symm
  · intro h' u tk keep
    exact ⟨.str _, H, I.kept keep, ⟨u, rfl⟩, q⟩
end

/-! ### what stands at a key -/
theorem valV_kv {ks : List Str} (nd : ks.Nodup) : ∀ {vs : List V} {i : Nat} {x : Str} {v : V}, ks[i]? = some x → vs[i]? = some v → valV (kvOf ks vs) (.inr x) = some v := by
  induction ks with
  | nil => intro vs i x v e; simp at e
  | cons k ks ih =>
    intro vs i x v e1 e2
    cases vs with
    | nil => simp at e2
    | cons u vs =>
      have nd' := List.nodup_cons.mp nd
      show valV ((Sum.inr k, u) :: kvOf ks vs) (.inr x) = some v
      cases i with
      | zero =>
        have a : k = x := by simpa using e1
        have b : u = v := by simpa using e2
        subst a b
        exact valV_pos rfl
      | succ i =>
        have m : x ∈ ks := List.mem_of_getElem? (by simpa using e1)
        have ne : ¬ (Sum.inr k : Key) = Sum.inr x := fun z => by
          cases z
          exact nd'.1 m
        rw [valV_neg ne]
        exact ih nd'.2 (by simpa using e1) (by simpa using e2)
theorem valV_no {x : Str} : ∀ {ks : List Str} {vs : List V}, x ∉ ks → valV (kvOf ks vs) (.inr x) = none
  | [], _, _ => rfl
  | _ :: _, [], _ => rfl
  | k :: ks, v :: vs, h => by
    show valV ((Sum.inr k, v) :: kvOf ks vs) (.inr x) = none
    rw [valV_neg (fun z => by cases z; exact h (by simp))]
    exact valV_no (fun m => h (by simp [m]))
theorem kvOf_snoc {ks : List Str} {vs : List V} {k : Str} {v : V} (l : vs.length = ks.length) : kvOf ks vs ++ [(Sum.inr k, v)] = kvOf (ks ++ [k]) (vs ++ [v]) := by
  unfold kvOf
  rw [List.map_append, List.zip_append (by rw [List.length_map, l])]
  rfl
theorem Dct.same {K : PySem.W.Frag} {H H' : Hp} {a : Addr} {ks : List Str} {ds : List PyData} (k : Same H H') (h : Dct K H a ks ds) : Dct K H' a ks ds := by
  obtain ⟨vs, l, e, d⟩ := h.ex
  exact ⟨⟨vs, l, k _ _ e, dpa_same k d⟩, h.nol⟩
theorem Dct.kl {K : PySem.W.Frag} {H H' : Hp} {a g : Addr} {ks : List Str} {ds : List PyData} (k : Kl g H H') (h : Dct K H a ks ds) : Dct K H' a ks ds := by
  obtain ⟨vs, l, e, d⟩ := h.ex
  obtain ⟨ys, eg⟩ := k.1
  exact ⟨⟨vs, l, k.2 _ _ (ne_of e eg (fun z => by cases z)) e, dpa_kl k d h.nol⟩, h.nol⟩
end Gd

set_option Elab.async false
set_option linter.all false
set_option maxRecDepth 100000
set_option maxHeartbeats 2000000
set_option autoImplicit false
namespace Gd
open PySem PySem.Spec PyProof.Rows L2

/-! ### own exceptions with the __init__ of their base: made as values -/
/-- where that __init__ stands -/
def AtI (K : PySem.W.Frag) (fI : Addr) (qual : Str) (st : Stmt) (ps : List Str) : Prop := ∃ fd, Fun K "__init__" qual st fI fd ∧ Binds K fd ps []
structure DnI (P : Program) (w : World) (K : PySem.W.Frag) (mg : Str → Option Value) (base : Heap) (k : Nat) (fI : Addr) (qual : Str) (st : Stmt) (ps : List Str) (sp : Sp) : Prop where
  ex : ∃ fd, Fun K "__init__" qual st fI fd ∧ Binds K fd ps [] ∧ FnOk P w K mg base CX0 k fI fd ps sp
theorem DnI.mk' {P : Program} {w : World} {K : PySem.W.Frag} {mg : Str → Option Value} {base : Heap} {fI : Addr} {qual : Str} {st : Stmt} {ps : List Str} {k : Nat} {sp : Sp} (h : AtI K fI qual st ps)
    (ok : ∀ f fd, Fun K "__init__" qual st f fd → FnOk P w K mg base CX0 k f fd ps sp) : DnI P w K mg base k fI qual st ps sp := by
  obtain ⟨fd, F, b⟩ := h
  exact ⟨fd, F, b, ok fI fd F⟩
/-- what the top has left of such a class -/
structure ExT (K : PySem.W.Frag) (mg : Str → Option Value) (C fI : Addr) (x : Str) : Prop where
  ox : OexC K C
  mg_ : mg x = some (.ref C)
  iC : PySem.W.findIn K (.ref C) "__init__" = some (some (.ref fI))
  tI : PySem.W.typeIn K (.ref fI) = some (.type "function")
  nV : PySem.W.findIn K (.ref C) "value" = some none
  hg : PySem.W.findIn K (.ref C) "__getattribute__" = some (some (.builtin "BaseException.__getattribute__"))
  hk : PySem.W.findIn K (.ref C) "__getattr__" = some none
  hd : PySem.W.hasDictIn K C = true
  ha : PySem.W.findIn K (.ref C) "__class__" = some (some (.builtin "object.__class__"))
  hn : PySem.W.specialIn K (.builtin "object.__class__") "__get__" = some (some (.builtin "getset_descriptor.__get__"))
  ht : PySem.W.takesIn K (.builtin "object.__class__") = some true
  hm : PySem.W.mroIn K C (.type "object") = some true
/-- at a: an exception of the class at C that bears v -/
def ErrAt (H : Hp) (C : Addr) (a : Addr) (v : V) : Prop := ∃ d, H a = some (exo a C (some d)) ∧ H d = some (exd d [("value", v)])
theorem ErrAt.same {H H' : Hp} {C a : Addr} {v : V} (k : Same H H') (h : ErrAt H C a v) : ErrAt H' C a v := by
  obtain ⟨d, h1, h2⟩ := h
  exact ⟨d, k _ _ h1, k _ _ h2⟩
/-- the promise of __init__ -/
def spIni (K : PySem.W.Frag) : Sp := fun vs H Q _ => ∃ a C v, vs = [.ref a, v] ∧ OexC K C ∧ PySem.W.findIn K (.ref C) "value" = some none ∧ H a = some (exo a C none) ∧
  ∀ dx, H dx = none → dx ≠ a → Q .non (upd (upd H dx (exd dx [("value", v)])) a (exo a C (some dx)))
/-- C(e, ..), as a value -/
def tMkV (C : Addr) (sp : Sp) (ta : TA) : TE := fun σ H Q => ta σ H fun vs H1 => vs.length ≤ 1000 ∧ ∀ a, H1 a = none → sp (.ref a :: vs) (upd H1 a (exo a C none)) (fun v H2 => v = .non ∧ Q (.ref a) H2) E0
section
variable {X : Cx} {x qual : Str} {st : Stmt} {ps : List Str} {sp : Sp} {k j : Nat} {e : Expr} {es : List Expr} {ta : TA} {p pos : Pos} {C fI : Addr}
theorem pe_mkE (T : ExT X.K X.mg C fI x) (D : DnI X.prog X.w X.K X.mg X.base k fI qual st ps sp) (hr : Room j X.A) (hg : Gl X x) (ha : PA X (e :: es) ta) (hk : k + 1 ≤ j := by decide)
    (hdb : (x == ("__debug__" : Str)) = false := by decide) (he : starEach (e :: es) X.env = (false, eval e X.env) :: starEach es X.env := by rfl)
    (hpl : (backTo pos (starEach es X.env)).any (·.1) = false := by rfl) :
    PE X (.Call (.Name x p) (e :: es) [] pos) (tMkV C sp ta) := by
  obtain ⟨fd, F, b, ok⟩ := D.ex
  have hr' := hr.mono hk
  refine ⟨fun pins s σ H Q I h => ?_⟩
  obtain ⟨nm, q, N, bs, bm, sn, sub, ab, col, dd, k0, k1, k2, k3, k5, hC, hbm⟩ := T.ox.cls
  refine wpAny_Call_Name_kw (ld_glob I hg T.mg_ ?_ hdb)
  refine PySem.W.callWith_K (h₀ := X.base) I.ok.mod.kin T.ox.kC (thn (ha.run pos pins s σ H _ I h) fun us s1 got => ?_) he hpl
  obtain ⟨vs, H1, I1, r1, hz, q1⟩ := got
  refine ⟨I1.kIn, ?_⟩
  show wpAny _ _ (call (.ref C) us) _ _ _
  obtain ⟨hp, g, dr, tk, os⟩ := s1
  have big : hp.objs.size ≤ hp.objs.size + 1 := Nat.le_succ _
  have new : H1 (hp.objs.size + 1) = none := I1.hok.fresh big
  have hq := q1 (hp.objs.size + 1) new
  have grow : ∀ b o, hp.get? b = some o → ((hp.push (PySem.W.kdv_tup us)).push (PySem.HandSPX.excO C hp.objs.size)).get? b = some o := fun b o z => Heap.get?_push_of_some _ (Heap.get?_push_of_some _ z)
  have there : ((hp.push (PySem.W.kdv_tup us)).push (PySem.HandSPX.excO C hp.objs.size)).get? (hp.objs.size + 1) = some (PySem.HandSPX.excO C hp.objs.size) := by heap_get
  have I2 : Inv X pins σ (upd H1 (hp.objs.size + 1) (exo (hp.objs.size + 1) C none)) ⟨(hp.push (PySem.W.kdv_tup us)).push (PySem.HandSPX.excO C hp.objs.size), g, dr, tk, os⟩ := I1.laid (t' := tk) grow big (exo_ok there)
  have r2 : Vals (V.ref (hp.objs.size + 1) :: vs) (Value.ref (hp.objs.size + 1) :: us) := .cons rfl r1
  have cnt : (Value.ref (hp.objs.size + 1) :: us).length = ps.length := by
    rw [← r2.length]
    exact ok.len _ _ _ _ hq
  have bnd : BindsTo ⟨(hp.push (PySem.W.kdv_tup us)).push (PySem.HandSPX.excO C hp.objs.size), g, dr, tk, os⟩ fd ⟨Value.ref (hp.objs.size + 1) :: us, []⟩ (ps.zip (Value.ref (hp.objs.size + 1) :: us)) := by
    have z := b _ (Value.ref (hp.objs.size + 1) :: us) I2.kIn (by simpa using cnt)
    simpa using z
  have few : us.length ≤ sizeLine := by
    rw [← Paired.length r1, sizeLine_eq]
    omega
  refine wpAny_call (PySem.HandSPX.call_own PySem.F.excBase_ValueError (fun Y => PySem.HandSPX.refsVE_contains Y bm hbm) (I1.kIn _ _ hC) (PySem.W.looks_findIn I1.kIn T.iC) (fun self => PySem.W.bind_fn I1.kIn self T.tI) few ?_)
  refine codeAny_mono (ok.run _ X.stack _ _ ⟨Value.ref (hp.objs.size + 1) :: us, []⟩ (Value.ref (hp.objs.size + 1) :: us) _ _ E0 (hr'.make C us []) (I2.env0.make C us []) bnd r2 hq) fun r s' post => ?_
  cases r with
  | error er => exact (post : False).elim
  | ok fl =>
    cases fl with
    | ret u =>
      obtain ⟨v, H3, I3, rv, ev, q3⟩ := I2.after post
      subst ev
      exact ⟨rv, .ref (hp.objs.size + 1), H3, I3, rfl, q3⟩
    | next => exact (post : False).elim
    | brk => exact (post : False).elim
    | cont => exact (post : False).elim
end
/-- an exception is made -/
theorem mk_err {K : PySem.W.Frag} {C : Addr} {H1 : Hp} {v : V} {Q : Addr → Hp → Prop} {E : XK} (T : OexC K C) (n : PySem.W.findIn K (.ref C) "value" = some none)
    (q : ∀ a H', Same H1 H' → H1 a = none → ErrAt H' C a v → Q a H') :
    ∀ a, H1 a = none → spIni K (.ref a :: [v]) (upd H1 a (exo a C none)) (fun u H2 => u = .non ∧ Q a H2) E := by
  intro a na
  refine ⟨a, C, v, rfl, T, n, upd_same, fun dx nd ne => ⟨rfl, ?_⟩⟩
  have nd1 : H1 dx = none := by rw [upd_ne ne] at nd; exact nd
  refine q a _ (fun b o e => ?_) na ⟨dx, upd_same, ?_⟩
  · rw [upd_ne (ne_of_none e na), upd_ne (ne_of_none e nd1), upd_ne (ne_of_none e na)]
    exact e
  · rw [upd_ne ne, upd_same]
/-! ### e.value -/
def tVal (ta : TE) (C : Addr → Prop) : TE := fun σ H Q => ta σ H fun x H1 => ∃ a c v, x = .ref a ∧ C c ∧ ErrAt H1 c a v ∧ Q v H1
theorem err_inst {X : Cx} {pins : List (Addr × Obj)} {σ : L2.St} {H : Hp} {s : Shared} {C a : Addr} {v : V} (I : Inv X pins σ H s) (h : ErrAt H C a v) :
    ∃ (oe od : Obj) (u : Value), PySem.W.InstAt s.heap a oe C (some od) ∧ RelV v u ∧ PySem.W.lookIn "value" od = some (some u) := by
  obtain ⟨d, e1, e2⟩ := h
  obtain ⟨t1, he⟩ := exo_at I.hok e1
  obtain ⟨mA, ns, rel⟩ := exd_at I.hok e2
  obtain ⟨od, ho, hl⟩ := lookIn_ns ns
  have l : List.lookup ("value" : Str) [(("value" : Str), v)] = some v := by simp [List.lookup]
  obtain ⟨u, hu, ru⟩ := RelO.some_of (v := v) (o := mA "value") (by rw [← l]; exact rel "value")
  exact ⟨_, od, u, ⟨he, rfl, rfl, ho⟩, ru, by rw [hl, hu]⟩
theorem pe_val {X : Cx} {e : Expr} {te : TE} {pos : Pos} {S : Addr → Prop} (T : ∀ c, S c → ∃ fI x, ExT X.K X.mg c fI x) (he : PE X e te) (hb : attributeBase e "value" X.env (eval e X.env) = eval e X.env := by rfl) :
    PE X (.Attribute e "value" pos) (tVal te S) := by
  refine ⟨fun pins s σ H Q I h => ?_⟩
  refine attr_of hb (thn (he.run pins s σ H _ I h) fun u s1 got => ?_)
  obtain ⟨x, H1, I1, rx, a, c, v, ex, sc, ea, q⟩ := got
  subst ex
  obtain rfl : u = Value.ref a := rx
  obtain ⟨fI, y, T⟩ := T c sc
  obtain ⟨oe, od, w, J, ru, hl⟩ := err_inst I1 ea
  exact HandSPX.exc_get I1.kIn J T.hg T.hk T.ox.exC (PySem.W.findObj_own T.hd T.nV rfl hl) (handed_of ru) ⟨v, H1, I1.tok _, ru, q⟩
/-! ### isinstance(e, D) of such an exception -/
end Gd
namespace PySem.W
open PySem PySem.Spec PySem.Calls PyProof.Rows
section
variable {prog : Program} {w : World} {A : Around} {E : Value → Shared → Prop} {s : Shared} {K : Frag} {x D : Addr} {ox : Obj} {od : Option Obj}
theorem gd_findCls (c : (clsIn K D).isSome = true) {a g : Value} {n : Str} (f : findIn K (.ref D) n = some (some a)) (gt : specialIn K a "__get__" = some (some g)) (tk : takesIn K a = some true) : findObj K D od n = some (.bind g a) := by
  obtain ⟨cd, e⟩ := Option.isSome_iff_exists.mp c
  simp [findObj, e, f, gt, tk]
theorem gd_readCls {Q : Option Value → Shared → Prop} (ga : findIn K (.ref D) "__getattribute__" = some (some (.builtin "BaseException.__getattribute__"))) (gg : findIn K (.ref D) "__getattr__" = some none)
    (isE : subIn K (.ref D) (.type "BaseException") = some true) (c : (clsIn K D).isSome = true) (fc : findIn K (.ref D) "__class__" = some (some (.builtin "object.__class__")))
    (gt : specialIn K (.builtin "object.__class__") "__get__" = some (some (.builtin "getset_descriptor.__get__"))) (tk : takesIn K (.builtin "object.__class__") = some true) (mo : mroIn K D (.type "object") = some true)
    (Y : K.In s.heap) (J : InstAt s.heap x ox D od) (q : Q (some (.ref D)) { s with toks := s.toks + 1 }) : wpAny (model prog w) A (getAttr? (.ref x) "__class__") Q E s := by
  obtain ⟨hp, g, d, t, os⟩ := s
  have own : Looks (model prog w) hp (typeOf (.ref x)) (.ref D) := J.type
  have lga := looks_findIn (M := model prog w) Y ga
  have lgg := looks_findIn (M := model prog w) Y gg
  have lfc := looks_find (M := model prog w) Y J (gd_findCls (od := od) c fc gt tk)
  have exc : Looks (model prog w) hp (isInstance (.ref x) (.type "BaseException")) true := own.andThen (looks_subIn Y isE)
  have ne : (Value.builtin "BaseException.__getattribute__" == Value.builtin "object.__getattribute__") = false := by decide +kernel
  unfold getAttr? getAttrBy? getAttrBy
  refine wpAny_bind (wpAny_mkText (wpAny_bind (wpAny_attempt (wpAny_holding (wpAny_bind (own.at (wpAny_bind (lga.at ?_))))))))
  show wpAny _ _ (if (onTheHeap (Value.ref D) && (Value.builtin "BaseException.__getattribute__" == Value.builtin "object.__getattribute__")) = true then _ else _) _ _ _
  rw [ne, Bool.and_false, if_neg Bool.false_ne_true]
  unfold getAttrByItsOwn hookBefore
  refine wpAny_bind ?_
  rw [if_pos (show onTheHeap (Value.ref D) = true by rfl)]
  refine lgg.at (wpAny_bind (wpAny_attempt (wpAny_holding ?_)))
  unfold callGetattribute boundAndCalled
  rw [if_neg (by decide), PySem.F.excAttr_ValueError.ga.bind (.ref x)]
  refine wpAny_bind (wpAny_pure ?_)
  show wpAny _ _ (call (.builtin "BaseException.__getattribute__") [.ref x, .str "__class__" t]) _ _ _
  refine wpAny_call (codeAny_call_builtin PySem.F.excAttr_ValueError.ga.plain PySem.F.entry_bexc_ga ?_)
  refine @check_slot (model prog w) _ _ ⟨hp, g, d, t + 1, os⟩ "BaseException.__getattribute__" "BaseException" "__getattribute__" (.ref x) [.str "__class__" t] [] _ (by decide +kernel) (by decide +kernel) exc (PySem.F.args_bexc_ga (.ref x) (.str "__class__" t)) ?_
  unfold Builtin.«object.__getattribute__»
  refine wpAny_bind (wpAny_of_eq (a := ((Value.ref x : Value), [Value.str "__class__" t])) (by first | rfl | (simp only [slotArgs]; rfl)) (wpAny_bind (wpAny_pure (wpAny_bind (own.at (wpAny_bind (lfc.at ?_)))))))
  show wpAny _ _ (holding [Value.builtin "object.__class__"] (call (.builtin "getset_descriptor.__get__") [.builtin "object.__class__", .ref x, .ref D]) >>= ret) _ _ _
  refine wpAny_bind (wpAny_holding (wpAny_call (class_get (s := ⟨hp, g, d, t + 1, os⟩) (ox := ox) (od := od) Y J mo (wpAny_pure ?_))))
  show wpAny _ _ (handedOut (.ref D)) _ _ _
  rw [handedOut_of (v := .ref D) rfl]
  first
    | exact wpAny_pure (wpAny_pure q)
    | exact wpAny_pure q
    | exact wpAny_pure (wpAny_bind (wpAny_pure (wpAny_pure q)))
end
end PySem.W
namespace Gd
open PySem PySem.Spec PyProof.Rows L2
theorem err_kit {K : PySem.W.Frag} {mg : Str → Option Value} {C fI a : Addr} {x : Str} (T : ExT K mg C fI x) : PySem.W.KitX K (.ref a) (.ref C) (fun h => ∃ ox od, PySem.W.InstAt h a ox C od) where
  ty := fun _ _ _ ⟨_, _, J⟩ => J.type
  it := fun M h Y _ => by
    obtain ⟨nm, q, N, bs, bm, sn, sub, ab, col, dd, k0, k1, k2, k3, k5, hC, _⟩ := T.ox.cls
    intro A Q E s k z
    unfold isType loadHead
    exact wpAny_bind (wpAny_loadPart (k _ _ (Y _ _ hC)) (wpAny_pure z))
  ne := fun h tp dd its n sl Y e => by
    obtain ⟨nm, q, N, bs, bm, sn, sub, ab, col, dd, k0, k1, k2, k3, k5, hC, _⟩ := T.ox.cls
    refine Bool.eq_false_iff.mpr fun z => ?_
    have z2 : C = tp := Value.ref.inj (beq_iff_eq.mp z)
    subst z2
    have z3 : Value.type "type" = Value.type "tuple" := congrArg Obj.cls (Option.some.inj ((Y _ _ hC).symm.trans e))
    exact absurd (Value.type.inj z3) (by decide)
  ca := fun Y ⟨_, _, J⟩ k => by
    obtain ⟨cd, hc, _⟩ := PySem.W.any_some T.hd
    exact PySem.W.gd_readCls T.hg T.hk T.ox.exC (by rw [hc]; rfl) T.ha T.hn T.ht T.hm Y J k
/-- isinstance(e, c) -/
def rIsX (K : PySem.W.Frag) (S : Addr → Prop) : List V → Hp → VK → Prop := fun xs H Q => ∃ (a C : Addr) (v c : V) (cv : Value) (b : Bool), xs = [.ref a, c] ∧ S C ∧ ErrAt H C a v ∧ (∀ u, RelV c u → u = cv) ∧ PySem.W.kitOne K (.ref C) cv = some b ∧ Q (.bl b) H
theorem call_isX {X : Cx} {S : Addr → Prop} (T : ∀ c, S c → ∃ fI x, ExT X.K X.mg c fI x) : CallR X (.builtin "isinstance") (rIsX X.K S) := by
  intro pins s σ H xs us Q I r h
  obtain ⟨a, C, v, c, cv, b, rfl, sc, ea, hcv, e, q⟩ := h
  cases r with
  | cons rx rr =>
    cases rr with
    | cons rt rr =>
      cases rr
      cases rx
      have ec := hcv _ rt
      subst ec
      obtain ⟨fI, y, T⟩ := T C sc
      obtain ⟨oe, od, w, J, _⟩ := err_inst I ea
      exact PySem.W.kia_one (err_kit T) I.kIn ⟨_, _, J⟩ e (fun z => nomatch z) fun tk => ⟨.bl b, H, I.kept (t' := tk) fun _ _ z => z, rfl, q⟩
end Gd

set_option Elab.async false
set_option linter.all false
set_option maxRecDepth 100000
set_option maxHeartbeats 4000000
set_option autoImplicit false
namespace PySem
namespace HandSPX
open PySem.W PySem.Calls PyProof.Rows
section
variable {prog : Program} {w : World} {A : Around} {E : Value → Shared → Prop} {R : Result → Shared → Prop} {h : Heap} {g : Array GenState} {d : Drawn} {t : Nat} {os : OsState}
variable {nm q : Str} {C N : Addr} {bs bm bmB : List Value} {hdct : Bool} {sn : List Str} {sub : List Value} {ab : Bool} {col : Option Bool} {dd : Option Addr} {k0 k1 k2 k3 k5 : Option Value} {B newId initId : String} {n : Str} {u : Value}
theorem gd_checkK (V : ExcBaseFacts B newId initId bmB) (hT : ∀ X : String, bm.contains (.type X) = bmB.contains (.type X)) {Q : Unit → Shared → Prop}
    (hC : h.get? C = some (excClassObj nm q C N bs bm hdct sn sub ab col dd k0 k1 k2 k3 k5 newId)) (hq : Q () ⟨h, g, d, t, os⟩) : wpAny (model prog w) A (checkBuiltinCall newId ⟨[.ref C], [(n, u)]⟩) Q E ⟨h, g, d, t, os⟩ := by
  have has : (Value.ref C :: bm).contains (.type B) = true := by rw [List.contains_cons, hT, V.hasB, Bool.or_true]
  have star := V.noStar
  simp only [checkBuiltinCall, V.newKind, V.newSplit, V.newRow]
  repeat (first | refine wpAny_loadPart_at hC ?_ | (refine wpAny_isSubtype_exc hC ?_; rw [has]) | refine wpAny_staticBase_exc hC ?_ | refine wpAny_madeBy_exc hC ?_ | simp only [bne_self_eq_false, Bool.false_eq_true, if_false] | wp_step)
  exact hq
theorem gd_newK (V : ExcBaseFacts B newId initId bmB) (hT : ∀ X : String, bm.contains (.type X) = bmB.contains (.type X))
    (hC : h.get? C = some (excClassObj nm q C N bs bm hdct sn sub ab col dd k0 k1 k2 k3 k5 newId))
    (hq : R (.ok (.ret (.ref (h.objs.size + 1)))) ⟨(h.push (W.kdv_tup [])).push (excO C h.objs.size), g, d, t, os⟩) :
    codeAny (model prog w) A (.builtin newId ⟨[.ref C], [(n, u)]⟩) R ⟨h, g, d, t, os⟩ := by
  have ends := V.ends
  have has : (Value.ref C :: bm).contains (.type B) = true := by rw [List.contains_cons, hT, V.hasB, Bool.or_true]
  have noA : (Value.ref C :: bm).contains (.type "AttributeError") = false := by rw [List.contains_cons, hT, V.noAttr]; rfl
  have noN : (Value.ref C :: bm).contains (.type "NameError") = false := by rw [List.contains_cons, hT, V.noName]; rfl
  have few : ([] : List Value).length ≤ sizeLine := Nat.zero_le _
  refine codeAny_builtinAt V.entry ?_
  unfold Builtin.«BaseException.__new__»
  refine wpAt_bind ?_
  show wpAt _ _ _ (stack >>= _) _ _ _
  refine wpAt_bind (wpAt_stack fun p below => wpAt_of_wpAny ?_)
  wp_walk
  refine wpAt_of_wpAny ?_
  rw [V.owner]
  repeat (first | with_reducible refine wpAny_madeHere_exc V.canon hC ?_ | with_reducible refine wpAny_loadPart_at hC ?_ | (with_reducible refine wpAny_isSubtype_exc hC ?_; first | rw [has] | rw [noA] | rw [noN]) | wp_step)
  show R _ _
  rw [Heap.size_push]
  exact hq
theorem gd_typeCallK (V : ExcBaseFacts B newId initId bmB) (hT : ∀ X : String, bm.contains (.type X) = bmB.contains (.type X)) {fI : Addr} {Q : Fin → Shared → Prop}
    (hC : h.get? C = some (excClassObj nm q C N bs bm hdct sn sub ab col dd k0 k1 k2 k3 k5 newId))
    (hi : W.Looks (model prog w) h (typeLookup (.ref C) "__init__") (some (.ref fI))) (hb : ∀ self, W.Looks (model prog w) h (bindSpecial (.ref fI) self) (.ref fI, [self]))
    (hq : codeAny (model prog w) A (.call (.ref fI) ⟨[.ref (h.objs.size + 1)], [(n, u)]⟩)
      (fun r s' => match r with | .ok (.ret v) => v = .none ∧ Q (.done (.ret (.ref (h.objs.size + 1)))) s' | .ok _ => False | .error e => E e s')
      ⟨(h.push (W.kdv_tup [])).push (excO C h.objs.size), g, d, t, os⟩) :
    wpAny (model prog w) A (Builtin.«type.__call__» ⟨[.ref C], [(n, u)]⟩) Q E ⟨h, g, d, t, os⟩ := by
  repeat (first | with_reducible refine wpAny_loadPart_at hC ?_ | with_reducible refine wpAny_madeBy_exc hC ?_ | wp_step)
  refine codeAny_call_builtin_code (Code.quiet_builtin _ V.quiet) (gd_checkK V hT hC ?_)
  refine gd_newK V hT hC ?_
  show wpAny _ _ _ _ _ _
  have grow : ∀ b o, h.get? b = some o → ((h.push (W.kdv_tup [])).push (excO C h.objs.size)).get? b = some o := fun b o e => Heap.get?_push_of_some _ (Heap.get?_push_of_some _ e)
  have hC1 := grow _ _ hC
  have there : ((h.push (W.kdv_tup [])).push (excO C h.objs.size)).get? (h.objs.size + 1) = some (excO C h.objs.size) := by heap_get
  have self : (Value.ref C :: bm).contains (.ref C) = true := by simp
  have i1 := hi.keeps grow
  have b1 := (hb (.ref (h.objs.size + 1))).keeps grow
  unfold isInstance
  repeat (first | with_reducible refine wpAny_loadPart_at there ?_ | (with_reducible refine wpAny_isSubtype_exc hC1 ?_; rw [self]) | wp_step)
  show wpAny _ _ (typeLookup (.ref C) _) _ _ _
  refine i1.at (wpAny_holding (wpAny_bind (b1.at ?_)))
  refine wpAny_bind (wpAny_call (codeAny_mono hq fun r s' z => ?_))
  rcases r with e | (v | _ | _ | _) <;> first | exact z | exact z.elim | skip
  obtain ⟨rfl, z⟩ := z
  first
    | exact wpAny_pure (wpAny_pure z)
    | (wp_walk; exact z)
theorem gd_callK (V : ExcBaseFacts B newId initId bmB) (hT : ∀ X : String, bm.contains (.type X) = bmB.contains (.type X)) {fI : Addr}
    (hC : h.get? C = some (excClassObj nm q C N bs bm hdct sn sub ab col dd k0 k1 k2 k3 k5 newId))
    (hi : W.Looks (model prog w) h (typeLookup (.ref C) "__init__") (some (.ref fI))) (hb : ∀ self, W.Looks (model prog w) h (bindSpecial (.ref fI) self) (.ref fI, [self]))
    (hq : codeAny (model prog w) (A.under (.builtin "type.__call__" ⟨[.ref C], [(n, u)]⟩)) (.call (.ref fI) ⟨[.ref (h.objs.size + 1)], [(n, u)]⟩) (W.InitBack (h.objs.size + 1) R)
      ⟨(h.push (W.kdv_tup [])).push (excO C h.objs.size), g, d, t, os⟩) :
    codeAny (model prog w) A (.call (.ref C) ⟨[], [(n, u)]⟩) R ⟨h, g, d, t, os⟩ := by
  have f1 := tc_lookup
  have f2 := tc_bind (.ref C)
  have isT : (⟨h, g, d, t, os⟩ : Shared).TypeIs (.ref C) "type" := ⟨_, hC, rfl⟩
  refine codeAny_of_tree ?_
  show wpAny _ _ (callAny (.ref C) _) _ _ _
  repeat (any_goals (first | assumption | with_reducible refine wpAny_loadPart_at hC ?_ | wp_step))
  refine ⟨rfl, ?_⟩
  refine codeAny_call_builtin_at (Code.quiet_builtin _ (by decide +kernel)) entry_typeCall (wpAny_check_type_call_sub hC (gd_typeCallK V hT hC hi hb ?_))
  refine codeAny_mono hq fun r s' z => ?_
  rcases r with e | (v | _ | _ | _) <;> exact z
end
end HandSPX
end PySem
namespace Gd
open PySem PySem.Spec PyProof.Rows L2
/-- C(n = e), as a value -/
def tMkK (C : Addr) (sp : Sp) (tk : TA) : TE := fun σ H Q => tk σ H fun vs H1 => vs.length = 1 ∧ ∀ a, H1 a = none → sp (.ref a :: vs) (upd H1 a (exo a C none)) (fun v H2 => v = .non ∧ Q (.ref a) H2) E0
section
variable {X : Cx} {x qual n : Str} {st : Stmt} {ps : List Str} {sp : Sp} {k j : Nat} {kws : List Keyword} {tk : TA} {p pos : Pos} {C fI : Addr}
theorem pe_mkEk (T : ExT X.K X.mg C fI x) (D : DnI X.prog X.w X.K X.mg X.base k fI qual st ps sp) (hr : Room j X.A)
    (kb : ∀ fd, Fun X.K "__init__" qual st fI fd → ∀ (s : Shared) (a u : Value), BindsTo s fd ⟨[a], [(n, u)]⟩ (ps.zip [a, u])) (hg : Gl X x) (hkw : PK X kws tk) (hk : k + 1 ≤ j := by decide)
    (hall : (backToKw pos (keywordEach kws X.env)).all (·.1.isSome) = true := by rfl) (hks : (backToKw pos (keywordEach kws X.env)).filterMap (·.1) = [n] := by rfl)
    (hdb : (x == ("__debug__" : Str)) = false := by decide)
    (hpl : ((backTo pos (starEach [] X.env)).any (·.1) || (backToKw pos (keywordEach kws X.env)).any (·.1.isNone)) = false := by rfl) :
    PE X (.Call (.Name x p) [] kws pos) (tMkK C sp tk) := by
  obtain ⟨fd, F, b, ok⟩ := D.ex
  have hr' := hr.mono hk
  refine ⟨fun pins s σ H Q I h => ?_⟩
  obtain ⟨nm, q, N, bs, bm, sn, sub, ab, col, dd, k0, k1, k2, k3, k5, hC, hbm⟩ := T.ox.cls
  refine wpAny_Call_Name_kw (ld_glob I hg T.mg_ ?_ hdb)
  refine PySem.W.callWith_KW0 (h₀ := X.base) I.ok.mod.kin T.ox.kC hall ?_ hpl
  refine thn (hkw.run pos pins s σ H _ I h) fun us s1 got => ?_
  obtain ⟨vs, H1, I1, r1, hz, q1⟩ := got
  refine ⟨I1.kIn, ?_⟩
  rw [hks]
  match vs, us, r1, hz, q1 with
  | [v], [u], r1, hz, q1 =>
    show wpAny _ _ (call (.ref C) [] [(n, u)]) _ _ _
    obtain ⟨hp, g, dr, tkn, os⟩ := s1
    have big : hp.objs.size ≤ hp.objs.size + 1 := Nat.le_succ _
    have new : H1 (hp.objs.size + 1) = none := I1.hok.fresh big
    have hq := q1 (hp.objs.size + 1) new
    have grow : ∀ b o, hp.get? b = some o → ((hp.push (PySem.W.kdv_tup [])).push (PySem.HandSPX.excO C hp.objs.size)).get? b = some o := fun b o z => Heap.get?_push_of_some _ (Heap.get?_push_of_some _ z)
    have there : ((hp.push (PySem.W.kdv_tup [])).push (PySem.HandSPX.excO C hp.objs.size)).get? (hp.objs.size + 1) = some (PySem.HandSPX.excO C hp.objs.size) := by heap_get
    have I2 : Inv X pins σ (upd H1 (hp.objs.size + 1) (exo (hp.objs.size + 1) C none)) ⟨(hp.push (PySem.W.kdv_tup [])).push (PySem.HandSPX.excO C hp.objs.size), g, dr, tkn, os⟩ := I1.laid (t' := tkn) grow big (exo_ok there)
    have r2 : Vals [V.ref (hp.objs.size + 1), v] [Value.ref (hp.objs.size + 1), u] := .cons rfl r1
    have bnd := kb fd F ⟨(hp.push (PySem.W.kdv_tup [])).push (PySem.HandSPX.excO C hp.objs.size), g, dr, tkn, os⟩ (Value.ref (hp.objs.size + 1)) u
    refine wpAny_call (PySem.HandSPX.gd_callK PySem.F.excBase_ValueError (fun Y => PySem.HandSPX.refsVE_contains Y bm hbm) (I1.kIn _ _ hC) (PySem.W.looks_findIn I1.kIn T.iC) (fun self => PySem.W.bind_fn I1.kIn self T.tI) ?_)
    refine codeAny_mono (ok.run _ X.stack _ _ ⟨[Value.ref (hp.objs.size + 1)], [(n, u)]⟩ [Value.ref (hp.objs.size + 1), u] _ _ E0 (hr'.make C [] [(n, u)]) (I2.env0.make C [] [(n, u)]) bnd r2 hq) fun r s' post => ?_
    cases r with
    | error er => exact (post : False).elim
    | ok fl =>
      cases fl with
      | ret w =>
        obtain ⟨v3, H3, I3, rv, ev, q3⟩ := I2.after post
        subst ev
        exact ⟨rv, .ref (hp.objs.size + 1), H3, I3, rfl, q3⟩
      | next => exact (post : False).elim
      | brk => exact (post : False).elim
      | cont => exact (post : False).elim
end
/-- repr of anything short -/
theorem call_reprV {X : Cx} {k : Nat} (gd : X.A.guards = some []) (hr : Room k X.A) : CallR X (.builtin "repr") (fun xs H Q => ∃ v d n k, xs = [v] ∧ Dp X.K H v d ∧ DOk n k d ∧ n ≤ 200000 ∧ k ≤ 64 ∧ Q (.str d.shown) H) := by
  intro pins s σ H xs us Q I r h
  obtain ⟨v, d, n, j, rfl, dp, ok, hn, hj, q⟩ := h
  have fits := ok.fits hn
  cases dp with
  | non =>
    obtain ⟨u, rfl, ru⟩ := vals1 r
    cases ru
    rw [PyData.shown_none] at q
    exact PySem.P.repr_of_none ⟨.str "None", H, I.tok _, ⟨_, rfl⟩, q⟩
  | bl b =>
    obtain ⟨u, rfl, ru⟩ := vals1 r
    cases ru
    rw [PyData.shown_bool] at q
    exact PySem.P.repr_of_bool ⟨.str (if b then "True" else "False"), H, I.tok _, ⟨_, rfl⟩, by cases b <;> exact q⟩
  | int i =>
    obtain ⟨u, rfl, t, rfl⟩ := vals1 r
    have z : i.natAbs.log2 < 1920 := by simpa [PyData.showable] using ok.shw
    rw [PyData.shown_int] at q
    exact PySem.P.repr_of_int z ⟨.str _, H, I.tok _, ⟨_, rfl⟩, q⟩
  | str x =>
    obtain ⟨u, rfl, t, rfl⟩ := vals1 r
    have e : (PyData.str x).shown = reprText x := by simp [PyData.shown]
    rw [e] at q fits
    exact PySem.P.repr_of_str ⟨.str _, H, I.tok _, ⟨_, rfl⟩, q⟩ fits
  | lst a b => exact call_reprD gd hr pins s σ H _ us Q I r ⟨_, _, n, j, rfl, .lst a b, ok, hn, hj, ⟨_, rfl⟩, q⟩
  | tup a b => exact call_reprD gd hr pins s σ H _ us Q I r ⟨_, _, n, j, rfl, .tup a b, ok, hn, hj, ⟨_, rfl⟩, q⟩
end Gd
namespace Gd
open PySem PySem.Spec PyProof.Rows L2
/-! ### all own exceptions of a text: the base first, the others below it -/
def errB (K : PySem.W.Frag) (C fI : Addr) : Bool :=
  decide (PySem.W.findIn K (.ref C) "__setattr__" = some (some (.builtin "object.__setattr__"))) && (decide (PySem.W.subIn K (.ref C) (.type "BaseException") = some true) && (decide (PySem.W.typeIn K (.ref C) = some (.type "type")) && (PySem.W.keepIn K (.ref C) &&
  (decide (PySem.W.findIn K (.ref C) "__init__" = some (some (.ref fI))) && (decide (PySem.W.findIn K (.ref C) "value" = some none) && (decide (PySem.W.findIn K (.ref C) "__getattribute__" = some (some (.builtin "BaseException.__getattribute__"))) &&
  (decide (PySem.W.findIn K (.ref C) "__getattr__" = some none) && (PySem.W.hasDictIn K C && (decide (PySem.W.findIn K (.ref C) "__class__" = some (some (.builtin "object.__class__"))) && decide (PySem.W.mroIn K C (.type "object") = some true))))))))))
def initB (K : PySem.W.Frag) (fI : Addr) : Bool :=
  decide (PySem.W.typeIn K (.ref fI) = some (.type "function")) && (decide (PySem.W.specialIn K (.builtin "object.__class__") "__get__" = some (some (.builtin "getset_descriptor.__get__"))) && decide (PySem.W.takesIn K (.builtin "object.__class__") = some true))
def kitB (K : PySem.W.Frag) (C : Addr) (i : Nat) : Nat → List Addr → Bool
  | _, [] => decide (PySem.W.kitOne K (.ref C) (.type "ValueError") = some true)
  | j, D :: ds => decide (PySem.W.kitOne K (.ref C) (.ref D) = some (decide (i = j ∨ j = 0))) && kitB K C i (j + 1) ds
theorem kitB_at {K : PySem.W.Frag} {C : Addr} {i : Nat} : ∀ {j : Nat} {ds : List Addr}, kitB K C i j ds = true → (∀ (m : Nat) D, ds[m]? = some D → PySem.W.kitOne K (.ref C) (.ref D) = some (decide (i = j + m ∨ j + m = 0))) ∧ PySem.W.kitOne K (.ref C) (.type "ValueError") = some true
  | j, [], h => ⟨fun m D e => by simp at e, of_decide_eq_true h⟩
  | j, D :: ds, h => by
    obtain ⟨h1, h2⟩ := Bool.and_eq_true_iff.mp h
    obtain ⟨a, b⟩ := kitB_at h2
    refine ⟨fun m D' e => ?_, b⟩
    cases m with
    | zero =>
      have e' : D = D' := by simpa using e
      subst e'
      exact of_decide_eq_true h1
    | succ m =>
      have z := a m D' (by simpa using e)
      rw [show j + 1 + m = j + (m + 1) by omega] at z
      exact z
structure ErrT (K : PySem.W.Frag) (mg : Str → Option Value) (cs : List Addr) (ns : List Str) (fI : Addr) : Prop where
  t : ∀ (i : Nat) C x, cs[i]? = some C → ns[i]? = some x → ExT K mg C fI x
  sub : ∀ (i j : Nat) C D, cs[i]? = some C → cs[j]? = some D → PySem.W.kitOne K (.ref C) (.ref D) = some (decide (i = j ∨ j = 0))
  subV : ∀ (i : Nat) C, cs[i]? = some C → PySem.W.kitOne K (.ref C) (.type "ValueError") = some true
  len : cs.length = ns.length
theorem ErrT.all {K : PySem.W.Frag} {mg : Str → Option Value} {cs : List Addr} {ns : List Str} {fI : Addr} (T : ErrT K mg cs ns fI) : ∀ c, c ∈ cs → ∃ fI x, ExT K mg c fI x := by
  intro c m
  obtain ⟨i, l, e⟩ := List.getElem_of_mem m
  exact ⟨fI, ns[i]'(by rw [← T.len]; exact l), T.t i c _ (by rw [List.getElem?_eq_getElem l, e]) (List.getElem?_eq_getElem (by rw [← T.len]; exact l))⟩
theorem ext_mk {K : PySem.W.Frag} {mg : Str → Option Value} {C fI : Addr} {x : Str} (cls : ∃ nm q N bs bm sn sub ab col dd k0 k1 k2 k3 k5, K.lookup C = some (excClassObj nm q C N bs bm true sn sub ab col dd k0 k1 k2 k3 k5 "ValueError.__new__") ∧ PySem.HandSPX.refsVE bm = true)
    (g : mg x = some (.ref C)) (h : errB K C fI = true) (i : initB K fI = true) : ExT K mg C fI x := by
  obtain ⟨a1, h⟩ := Bool.and_eq_true_iff.mp h
  obtain ⟨a2, h⟩ := Bool.and_eq_true_iff.mp h
  obtain ⟨a3, h⟩ := Bool.and_eq_true_iff.mp h
  obtain ⟨a4, h⟩ := Bool.and_eq_true_iff.mp h
  obtain ⟨a5, h⟩ := Bool.and_eq_true_iff.mp h
  obtain ⟨a6, h⟩ := Bool.and_eq_true_iff.mp h
  obtain ⟨a7, h⟩ := Bool.and_eq_true_iff.mp h
  obtain ⟨a8, h⟩ := Bool.and_eq_true_iff.mp h
  obtain ⟨a9, h⟩ := Bool.and_eq_true_iff.mp h
  obtain ⟨b1, b2⟩ := Bool.and_eq_true_iff.mp h
  obtain ⟨i1, i⟩ := Bool.and_eq_true_iff.mp i
  obtain ⟨i2, i3⟩ := Bool.and_eq_true_iff.mp i
  exact ⟨⟨cls, of_decide_eq_true a1, of_decide_eq_true a2, of_decide_eq_true a3, a4⟩, g, of_decide_eq_true a5, of_decide_eq_true i1, of_decide_eq_true a6, of_decide_eq_true a7, of_decide_eq_true a8, a9, of_decide_eq_true b1, of_decide_eq_true i2, of_decide_eq_true i3, of_decide_eq_true b2⟩
end Gd

set_option Elab.async false
set_option linter.all false
set_option maxRecDepth 100000
set_option maxHeartbeats 4000000
set_option autoImplicit false
namespace Gd
open PySem PySem.Spec PyProof.Rows L2

/-! ### try: body / except C as n: y = n; the exception is kept as a value -/
/-- at a: an exception of the class cls, its dict d -/
def Kept (cls : Value) (d : Option Addr) (a : Addr) : HO := .ext fun h => ∃ (oe : Obj) (vs : Array Value), h.get? a = some oe ∧ oe.cls = cls ∧ oe.dict = d ∧ oe.data = .fields vs
theorem kept_ok {P : Program} {w : World} {H : Hp} {h : Heap} {a : Addr} {cls : Value} {d : Option Addr} {oe : Obj} {vs : Array Value} (e : h.get? a = some oe) (c : oe.cls = cls) (z : oe.dict = d) (f : oe.data = .fields vs) : ObjOk P w H h a (Kept cls d a) :=
  ⟨⟨oe, vs, e, c, z, f⟩, ⟨_, e⟩, fun h1 h2 x k => by
    obtain ⟨o, v, e1, r⟩ := x
    exact ⟨o, v, k _ e1, r⟩⟩
theorem kept_at {P : Program} {w : World} {H : Hp} {h : Heap} {a : Addr} {cls : Value} {d : Option Addr} (ok : HOk P w H h) (e : H a = some (Kept cls d a)) : ∃ (oe : Obj) (vs : Array Value), h.get? a = some oe ∧ oe.cls = cls ∧ oe.dict = d ∧ oe.data = .fields vs := by
  have z : ObjOk P w H h a (.ext fun h => ∃ (oe : Obj) (vs : Array Value), h.get? a = some oe ∧ oe.cls = cls ∧ oe.dict = d ∧ oe.data = .fields vs) := ok a _ e
  exact z.1
theorem kept_ne {cls : Value} {d : Option Addr} {a : Addr} {o : HO} (h : ∀ φ, o ≠ .ext φ) : Kept cls d a ≠ o := fun z => h _ z.symm
section
variable {X : Cx} {pins : List (Addr × Obj)} {σ : L2.St} {H : Hp} {s : Shared} {a : Addr} {oe : Obj} {vs : Array Value} {cls : Value} {d : Option Addr}
/-- a thing that stands there, and was not told of, is told of -/
theorem adopt (I : Inv X pins σ H s) (he : s.heap.get? a = some oe) (hc : oe.cls = cls) (hd : oe.dict = d) (hf : oe.data = .fields vs) (na : H a = none) (nL : a ≠ X.env.locals) (s0 : X.s_0.heap.get? a = none)
    (po : ∀ p ∈ X.pn ++ pins, p.1 ≠ a) : Inv X pins σ (upd H a (Kept cls d a)) s := by
  have old : ∀ {b : Addr} {o : HO}, H b = some o → upd H a (Kept cls d a) b = some o := fun {b o} e => by rw [upd_ne (ne_of_none e na)]; exact e
  have cel : ∀ y c, X.env.cells.lookup y = some c → c ≠ a := fun y c e z => by
    obtain ⟨v, hv⟩ := I.cell y c e
    obtain ⟨o, ho, hx⟩ := hv
    rw [z, he] at ho
    cases ho
    first
      | (rw [hf] at hx; cases hx)
      | (obtain ⟨_, hx⟩ := hx; rw [hf] at hx; cases hx)
  refine ⟨I.ok, I.os, I.bare, ⟨I.base.keep, I.base.slot, fun b o e n hx => ?_, I.base.there, fun b xs e => old (I.base.tups b xs e), fun b o u e => old (I.base.frzs b o u e), fun b ps e => ?_⟩, I.loc, I.cell, ?_, fun y c e => ?_, fun p hp => ?_, fun b o e => ?_, I.len⟩
  · rw [upd_ne (fun z => by rw [z, s0] at e; cases e)]
    exact I.base.free b o e n hx
  · obtain ⟨more, z⟩ := I.base.tbls b ps e
    exact ⟨more, old z⟩
  · rw [upd_ne (Ne.symm nL)]
    exact I.free
  · rw [upd_ne (cel y c e)]
    exact I.freeC y c e
  · obtain ⟨x1, x2, x3⟩ := I.pin p hp
    exact ⟨x1, by rw [upd_ne (po p hp)]; exact x2, x3⟩
  · by_cases z : b = a
    · subst z
      rw [upd_same] at e
      cases e
      exact kept_ok he hc hd hf
    · rw [upd_ne z] at e
      exact (I.hok b o e).stay (fun _ _ _ q => q) (fun c hx => old hx) fun c xs hx => old hx
end
/-- what the clause wishes -/
def wKeep (K : PySem.W.Frag) (c : Value) (i j : Nat) (Wout : WX) (D : Ends) : WX := fun cls d σ H =>
  ∃ b, PySem.W.exmOne K cls c = some b ∧ (b = true → ∀ a, H a = none → D.nx (((σ.set i (some (.ref a))).set j (some (.ref a))).set i none) (upd H a (Kept cls d a))) ∧ (b = false → Wout cls d σ H)
section
variable {X : Cx} {x n y : Str} {c : Value} {i j : Nat} {body : List Stmt} {np p1 p2 p3 pos pos' : Pos} {tb : WX → TS} {Wout : WX}
theorem ps_try_keep (hs : X.stack = X.env :: X.outer) (hf : X.env.frame = some X.env.locals) (hex : X.ex = []) (hN : X.N.Nodup) (hi : X.N[i]? = some n) (hln : X.env.kindOf n = some .local) (hj : X.N[j]? = some y) (hly : X.env.scope.names.lookup y = some .local) (hc : Names X x c) (tk : Takes X Wout)
    (hv : ∀ (a : Addr) (pn : List (Addr × Obj)), PS (X.suite a pn) (.Assign [.Name y p1] (.Name n p2) p3) (tAsg (tVar i) (gName j)))
    (hb : ∀ (W : WX) (pn : List (Addr × Obj)) (xe : Value → Shared → Prop), Takes (X.tr pn xe) W → PassesOwn (model X.prog X.w) X.A X.env xe → PSs (X.tr pn xe) body (tb W)) :
    PS X (.Try body [.ExceptHandler (some (.Name x np)) (some n) [.Assign [.Name y p1] (.Name n p2) p3] pos'] [] [] pos) (fun D σ H => tb (wKeep X.K c i j Wout D) D σ H) := by
  refine ⟨fun pins s σ H D I q0 => ?_⟩
  have ok := I.ok
  have fr : X.A.frames = some (X.env :: X.outer) := by rw [ok.frames, hs]
  have lc : Loc X.env.scope n := .inl hln
  have run := (hb (wKeep X.K c i j Wout D) (X.pn ++ pins) (fun e s1 => wpAny (model X.prog X.w) X.A (noteFrame e X.env) (fun _ s2 => wpAny (model X.prog X.w) X.A (setFlight e none) (fun _ s3 =>
    wpAny (model X.prog X.w) X.A (handleBy e X.env [.ExceptHandler (some (.Name x np)) (some n) [.Assign [.Name y p1] (.Name n p2) p3] pos']) (SP X pins D) X.xe s3) X.xe s2) X.xe s1) ?caught PassesOwn.looking).run [] s σ H D (I.toTry _) q0
  · refine wpAny_Try_except (wpAny_mono run (fun fl s1 z => ?_) fun _ _ z => z)
    cases fl with
    | next =>
      obtain ⟨σ1, H1, J, q⟩ := z
      exact wpAny_execs_nil ⟨σ1, H1, J.ofTry ok, q⟩
    | brk =>
      obtain ⟨σ1, H1, J, q⟩ := z
      exact ⟨σ1, H1, J.ofTry ok, q⟩
    | cont =>
      obtain ⟨σ1, H1, J, q⟩ := z
      exact ⟨σ1, H1, J.ofTry ok, q⟩
    | ret u =>
      obtain ⟨v, σ1, H1, J, r, q⟩ := z
      exact ⟨v, σ1, H1, J.ofTry ok, r, q⟩
  · intro u s' air
    obtain ⟨a, G, sI, pins', σ', H', cls, d, rfl, J', nb, up, sky, na, os, ag, b, exm, yes, no⟩ := air
    have J : Inv X pins σ' H' sI := J'.ofTry ok
    have sky2 : Sky G (X.env :: X.outer) a (Zc cls d) X.env.locals s'.heap := by rw [← hs]; exact sky
    show wpAny (model X.prog X.w) X.A (noteFrame (.ref a) X.env) _ _ _
    refine Sky.land Zc.steady fr hf sky2 fun h3 fl3 up3 => ?_
    have I3 : Inv X pins σ' H' { s' with heap := h3 } := J.landed nb fl3.1 (up.trans up3) os ag
    obtain ⟨o3, v3, e3, z3, d3⟩ := fl3.there
    have nfr : a ∉ frs (X.env :: X.outer) := fun m => by
      obtain ⟨_, o, eo, nf⟩ := fl3.2.2.1.mem m
      rw [e3] at eo
      cases eo
      exact nf _ d3
    have gone : sI.heap.get? a = none := by
      cases g : sI.heap.get? a with
      | none => rfl
      | some o =>
        have := nb a o g (by rw [hs]; exact nfr)
        rw [fl3.2.1] at this
        cases this
    have nL : a ≠ X.env.locals := fun z => nfr (List.mem_filterMap.mpr ⟨X.env, List.mem_cons_self, by rw [hf, z]⟩)
    have s0 : X.s_0.heap.get? a = none := by
      cases g : X.s_0.heap.get? a with
      | none => rfl
      | some o =>
        obtain ⟨o2, g2⟩ := J.base.there a o g (by rw [hex]; exact List.not_mem_nil)
        rw [gone] at g2
        cases g2
    have po : ∀ p ∈ X.pn ++ pins, p.1 ≠ a := fun p hp z => by
      have := (J.pin p hp).1
      rw [z, gone] at this
      cases this
    have calmless : ∀ {σ : L2.St} {H : Hp} {s : Shared}, Inv X pins σ H s → Inv (X.suite a (X.pn ++ pins)) [] σ H s := fun {σ H s} Y =>
      ⟨Y.ok.suite _ _, Y.os, Y.bare, Y.base, Y.loc, Y.cell, Y.free, Y.freeC, fun p hp => Y.pin p (by rw [List.append_nil] at hp; exact hp), Y.hok, Y.len⟩
    have back : ∀ {σ : L2.St} {H : Hp} {s : Shared}, Inv (X.suite a (X.pn ++ pins)) [] σ H s → Inv X pins σ H s := fun {σ H s} Y =>
      ⟨ok, Y.os, Y.bare, Y.base, Y.loc, Y.cell, Y.free, Y.freeC, fun p hp => Y.pin p (List.mem_append_left _ hp), Y.hok, Y.len⟩
    refine wpAny_handleBy_cons (codeAny_handlers_test ?_) (by intro q; cases q)
    have LT : PySem.W.Looks (model X.prog X.w) h3 (typeOf (.ref a)) cls := fun A' Q' E' s4 k q => wpAny_typeOf_ref (k _ _ e3) (by rw [z3.1]; exact q)
    have LM := PySem.W.exm_one (M := model X.prog X.w) I3.kIn LT exm
    have test : ∀ {Q : Value → Shared → Prop} {E : Value → Shared → Prop}, Q c { s' with heap := h3 } → wpAny (model X.prog X.w) (X.A.mark (some (.ref a))) (eval (.Name x np) X.env) Q E { s' with heap := h3 } := fun {Q E} q => by
      obtain ⟨gl, dbg, g | ⟨g, v, nn⟩⟩ := hc
      · exact ld_glob (X := X.suite a (X.pn ++ pins)) (calmless I3) gl g q dbg
      · exact ld_blt (X := X.suite a (X.pn ++ pins)) (calmless I3) gl g v q nn dbg
    refine test (LM.here ?_)
    cases b with
    | true =>
      refine codeAny_handlers_suite_as (HandSPX.lands_againZ fl3 fun h4 fl4 up4 => ?_)
      have I4 : Inv X pins σ' H' { s' with heap := h4 } := J.landed nb fl4.1 ((up.trans up3).trans up4) os ag
      obtain ⟨o4, v4, e4, z4, d4⟩ := fl4.there
      have I5 := adopt I4 e4 z4.1 z4.2 d4 na nL s0 po
      refine store_ok (X := X.suite a (X.pn ++ pins)) (v := .ref a) (calmless I5) hN hi lc rfl (fun s5 Y5 => ?_) (.inr hln)
      have li : i < σ'.length := by
        rw [J.len]
        exact (List.getElem?_eq_some_iff.mp hi).1
      have fin : ∀ {σ6 : L2.St} {H6 : Hp} {s6 : Shared} {Q : Shared → Prop}, Inv (X.suite a (X.pn ++ pins)) [] σ6 H6 s6 → (∀ s7, Inv X pins (σ6.set i none) H6 s7 → Q s7) →
          wpAny (model X.prog X.w) X.A (do bindName X.env n .none; unbindBehindTheSuite X.env n pos') (fun _ s7 => Q s7) X.xe s6 := fun {σ6 H6 s6 Q} Y q => gone_ok (back Y) hN hi hln q
      refine wpAny_mono ((pss_one (hv a (X.pn ++ pins))).run [] s5 _ _ { nx := fun σ1 H1 => D.nx (σ1.set i none) H1, rt := D.rt, bk := fun σ1 H1 => D.bk (σ1.set i none) H1, ct := fun σ1 H1 => D.ct (σ1.set i none) H1 } Y5 ⟨.ref a, List.getElem?_set_self li, yes rfl a na⟩) (fun fl s6 z => ?_) fun _ _ z => False.elim z
      cases fl with
      | next =>
        obtain ⟨σ6, H6, Y6, q6⟩ := z
        exact fin Y6 fun s7 J7 => ⟨_, _, J7, q6⟩
      | brk =>
        obtain ⟨σ6, H6, Y6, q6⟩ := z
        exact fin Y6 fun s7 J7 => ⟨_, _, J7, q6⟩
      | cont =>
        obtain ⟨σ6, H6, Y6, q6⟩ := z
        exact fin Y6 fun s7 J7 => ⟨_, _, J7, q6⟩
      | ret u =>
        obtain ⟨v6, σ6, H6, Y6, r6, q6⟩ := z
        exact fin Y6 fun s7 J7 => ⟨_, _, _, J7, r6, q6⟩
    | false =>
      show wpAny _ X.A (handleBy (.ref a) X.env []) _ _ _
      refine wpAny_handleBy_nil ?_
      obtain ⟨k1, k2, k3, oe, vs, T, oT, ts, he, hz, hd, h1, hr⟩ := id fl3
      unfold PySem.passOn
      refine wpAny_bind (wpAny_field he hd h1 ?_)
      rw [if_neg (show ¬ ((Value.ref T == Value.none) = true) from by simp)]
      have out : wpAny (model X.prog X.w) X.A (setFlight (.ref a) X.env.frame) (fun _ s4 => wpAny (model X.prog X.w) X.A (throw (.ref a) : Sem Flow) (SP X pins D) X.xe s4) X.xe { s' with heap := h3 } := by
        rw [hf]
        refine HandSPX.setFlight_upZ fl3 fun h4 hh4 up4 => wpAny_throw (tk _ _ ?_)
        exact ⟨a, G, sI, pins, σ', H', cls, d, rfl, J, nb, (up.trans up3).trans up4, .inr (.inr (by rw [hs]; exact hh4)), na, os, ag, no rfl⟩
      first
        | exact wpAny_bind (wpAny_pure (wpAny_bind out))
        | exact wpAny_bind out
end
end Gd

set_option Elab.async false
set_option linter.all false
set_option maxRecDepth 100000
set_option maxHeartbeats 4000000
set_option autoImplicit false
namespace Gd
open PySem PySem.Spec PyProof.Rows L2

/-! ### defs that may raise -/
structure DnX (P : Program) (w : World) (K : PySem.W.Frag) (mg : Str → Option Value) (base : Heap)
    (k : Nat) (x : Str) (st : Stmt) (ps : List Str) (sp : Sp) : Prop where
  ex : ∃ f fd, Fun K x x st f fd ∧ Binds K fd ps [] ∧ mg x = some (.ref f) ∧ FnOk P w K mg base (L2.CX P w) k f fd ps sp
theorem DnX.mk' {P : Program} {w : World} {K : PySem.W.Frag} {mg : Str → Option Value} {base : Heap} {x : Str} {st : Stmt} {ps : List Str} {k : Nat} {sp : Sp} (h : At K mg x st ps)
    (ok : ∀ f fd, Fun K x x st f fd → FnOk P w K mg base (L2.CX P w) k f fd ps sp) : DnX P w K mg base k x st ps sp := by
  obtain ⟨f, fd, F, b, g⟩ := h
  exact ⟨f, fd, F, b, g, ok f fd F⟩
/-- what a raise leaves -/
theorem mk_raise {K : PySem.W.Frag} {C : Addr} {H1 : Hp} {v : V} {Q : Value → Option Addr → Hp → Prop} {E : XK} (T : OexC K C) (n : PySem.W.findIn K (.ref C) "value" = some none)
    (q : ∀ d H', Same H1 H' → H1 d = none → H' d = some (.xd [("value", v)]) → Q (.ref C) (some d) H') :
    ∀ a, H1 a = none → spIni K (.ref a :: ([v] ++ [])) (upd H1 a (exo a C none))
      (fun u H2 => u = .non ∧ ∃ (d : Addr) (fs : List (Str × V)), H2 a = some (exo a C (some d)) ∧ H2 d = some (exd d fs) ∧ H1 d = none ∧ Q (.ref C) (some d) (upd (del H2 a) d (.xd fs))) E := by
  intro a na
  refine ⟨a, C, v, rfl, T, n, upd_same, fun dx nd ne => ⟨rfl, ?_⟩⟩
  have nd1 : H1 dx = none := by rw [upd_ne ne] at nd; exact nd
  refine ⟨dx, [("value", v)], upd_same, by rw [upd_ne ne, upd_same], nd1, q dx _ (fun b o e => ?_) nd1 upd_same⟩
  have ba : b ≠ a := ne_of_none e na
  have bd : b ≠ dx := ne_of_none e nd1
  rw [upd_ne bd, del_ne ba, upd_ne ba, upd_ne bd, upd_ne ba]
  exact e
section
variable {X : Cx} {W : WX} {x qual : Str} {st : Stmt} {ps : List Str} {sp : Sp} {k j : Nat} {e : Expr} {es : List Expr} {ta t : TA} {p pos pos2 : Pos} {C fI : Addr}
theorem pe_cX (tk : Takes X W) (D : DnX X.prog X.w X.K X.mg X.base k x st ps sp) (hr : Room j X.A) (hg : Gl X x) (ha : PA X (e :: es) t) (hk : k ≤ j := by decide)
    (hdb : (x == ("__debug__" : Str)) = false := by decide) (he : starEach (e :: es) X.env = (false, eval e X.env) :: starEach es X.env := by rfl)
    (hpl : (backTo pos (starEach es X.env)).any (·.1) = false := by rfl) :
    PE X (.Call (.Name x p) (e :: es) [] pos) (tCallS sp (WE W) t) := by
  obtain ⟨f, fd, F, b, g, ok⟩ := D.ex
  exact pe_callS ok (hr.mono hk) hg g F.kp b (fun σ => passAt tk σ) ha hdb he hpl
theorem ps_raiseE (hc : X.calm = true) (T : ExT X.K X.mg C fI x) (D : DnI X.prog X.w X.K X.mg X.base k fI qual st ps sp) (hr : Room j X.A) (tk : Takes X W) (hg : Gl X x) (ha : PA X (e :: es) ta) (hk : k + 1 ≤ j := by decide)
    (hdb : (x == ("__debug__" : Str)) = false := by decide) (he : starEach (e :: es) X.env = (false, eval e X.env) :: starEach es X.env := by rfl)
    (hpl : (backTo pos (starEach es X.env)).any (·.1) = false := by rfl) :
    PS X (.Raise (some (.Call (.Name x p) (e :: es) [] pos)) none pos2) (fun _ σ H => tMkO C sp [] ta σ H fun cls d H' => W cls d σ H') := by
  obtain ⟨fd, F, b, ok⟩ := D.ex
  exact ps_raise hc tk (pmk_oex T.ox T.iC T.tI ok (hr.mono hk) b .nil pass0 hg T.mg_ ha hdb he hpl)
end

/-! ### a kept exception -/
def ErrK (H : Hp) (C a : Addr) (v : V) : Prop := ∃ d, H a = some (Kept (.ref C) (some d) a) ∧ H d = some (.xd [("value", v)])
theorem ErrK.same {H H' : Hp} {C a : Addr} {v : V} (k : Same H H') (h : ErrK H C a v) : ErrK H' C a v := by
  obtain ⟨d, h1, h2⟩ := h
  exact ⟨d, k _ _ h1, k _ _ h2⟩
theorem errK_inst {X : Cx} {pins : List (Addr × Obj)} {σ : L2.St} {H : Hp} {s : Shared} {C a : Addr} {v : V} (I : Inv X pins σ H s) (h : ErrK H C a v) :
    ∃ (oe od : Obj) (u : Value), PySem.W.InstAt s.heap a oe C (some od) ∧ RelV v u ∧ PySem.W.lookIn "value" od = some (some u) := by
  obtain ⟨d, e1, e2⟩ := h
  obtain ⟨oe, vs, he, hc, hd, hf⟩ := kept_at I.hok e1
  have z : ObjOk X.prog X.w H s.heap d (.xd [("value", v)]) := I.hok d _ e2
  obtain ⟨mA, ns, rel⟩ := z
  obtain ⟨od, ho, hl⟩ := lookIn_ns ns
  have l : List.lookup ("value" : Str) [(("value" : Str), v)] = some v := by simp [List.lookup]
  obtain ⟨u, hu, ru⟩ := RelO.some_of (v := v) (o := mA "value") (by rw [← l]; exact rel "value")
  exact ⟨oe, od, u, ⟨he, hc, by unfold PySem.W.notCls; rw [hf] <;> rfl, by rw [hd]; exact ho⟩, ru, by rw [hl, hu]⟩
def tValK (ta : TE) (S : Addr → Prop) : TE := fun σ H Q => ta σ H fun x H1 => ∃ a c v, x = .ref a ∧ S c ∧ ErrK H1 c a v ∧ Q v H1
theorem pe_valK {X : Cx} {e : Expr} {te : TE} {pos : Pos} {S : Addr → Prop} (T : ∀ c, S c → ∃ fI x, ExT X.K X.mg c fI x) (he : PE X e te) (hb : attributeBase e "value" X.env (eval e X.env) = eval e X.env := by rfl) :
    PE X (.Attribute e "value" pos) (tValK te S) := by
  refine ⟨fun pins s σ H Q I h => ?_⟩
  refine attr_of hb (thn (he.run pins s σ H _ I h) fun u s1 got => ?_)
  obtain ⟨x, H1, I1, rx, a, c, v, ex, sc, ea, q⟩ := got
  subst ex
  obtain rfl : u = Value.ref a := rx
  obtain ⟨fI, y, T⟩ := T c sc
  obtain ⟨oe, od, w, J, ru, hl⟩ := errK_inst I1 ea
  exact HandSPX.exc_get I1.kIn J T.hg T.hk T.ox.exC (PySem.W.findObj_own T.hd T.nV rfl hl) (handed_of ru) ⟨v, H1, I1.tok _, ru, q⟩
def rIsXK (K : PySem.W.Frag) (S : Addr → Prop) : List V → Hp → VK → Prop := fun xs H Q => ∃ (a C : Addr) (v c : V) (cv : Value) (b : Bool), xs = [.ref a, c] ∧ S C ∧ ErrK H C a v ∧ (∀ u, RelV c u → u = cv) ∧ PySem.W.kitOne K (.ref C) cv = some b ∧ Q (.bl b) H
theorem call_isXK {X : Cx} {S : Addr → Prop} (T : ∀ c, S c → ∃ fI x, ExT X.K X.mg c fI x) : CallR X (.builtin "isinstance") (rIsXK X.K S) := by
  intro pins s σ H xs us Q I r h
  obtain ⟨a, C, v, c, cv, b, rfl, sc, ea, hcv, e, q⟩ := h
  obtain ⟨u1, u2, rfl, r1, r2⟩ := vals2 r
  cases (show u1 = Value.ref a from r1)
  have ec := hcv _ r2
  subst ec
  obtain ⟨fI, y, T⟩ := T C sc
  obtain ⟨oe, od, w, J, _⟩ := errK_inst I ea
  exact PySem.W.kia_one (err_kit T) I.kIn ⟨_, _, J⟩ e (fun z => nomatch z) fun tk => ⟨.bl b, H, I.tok tk, rfl, q⟩
/-- isinstance(e, (C, ..)) -/
def rIsXT (K : PySem.W.Frag) (S : Addr → Prop) : List V → Hp → VK → Prop := fun xs H Q => ∃ (a C tp : Addr) (v : V) (cs : List V) (us : List Value) (b : Bool), xs = [.ref a, .ref tp] ∧ S C ∧ ErrK H C a v ∧ H tp = some (.tup cs) ∧
  (∀ ws, Vals cs ws → ws = us) ∧ PySem.W.kitAny K (.ref C) us = some b ∧ Q (.bl b) H
theorem call_isXT {X : Cx} {S : Addr → Prop} (T : ∀ c, S c → ∃ fI x, ExT X.K X.mg c fI x) : CallR X (.builtin "isinstance") (rIsXT X.K S) := by
  intro pins s σ H xs us Q I r h
  obtain ⟨a, C, tp, v, cs, ws, b, rfl, sc, ea, ht, hcs, e, q⟩ := h
  obtain ⟨u1, u2, rfl, r1, r2⟩ := vals2 r
  cases (show u1 = Value.ref a from r1)
  cases (show u2 = Value.ref tp from r2)
  obtain ⟨fI, y, T⟩ := T C sc
  obtain ⟨oe, od, w, J, _⟩ := errK_inst I ea
  obtain ⟨_, its, rv, o, h1, h2, n, h3⟩ := (show ObjOk X.prog X.w H s.heap tp (.tup cs) from I.hok tp _ ht)
  have e3 := hcs _ rv
  subst e3
  obtain ⟨oc, od2, dt, sl⟩ := o
  simp only at h2 h3
  subst h2 h3
  exact PySem.W.kia_tup (err_kit T) I.kIn ⟨_, _, J⟩ h1 e (fun z => nomatch z) fun tk => ⟨.bl b, H, I.tok tk, rfl, q⟩
theorem vals_refs : ∀ {cs : List Addr} {ws : List Value}, Vals (cs.map V.ref) ws → ws = cs.map Value.ref
  | [], _, .nil => rfl
  | c :: cs, _, .cons a b => by
    cases (show _ = Value.ref c from a)
    rw [vals_refs b]
    rfl
end Gd

set_option Elab.async false
set_option linter.all false
set_option maxRecDepth 100000
set_option maxHeartbeats 4000000
set_option autoImplicit false
namespace Gd
open PySem PySem.Spec PyProof.Rows L2

/-! ### the end of a list's walk where an exception is handled -/
theorem next_list_endH {prog : Program} {w : World} {A : Around} {E : Value → Shared → Prop} {s : Shared} {it l x1 : Addr} {i : Nat} {items : Array Value} {Q : Option Value → Shared → Prop}
    (hot : HotX.HotAt A x1 s.heap) (ne : x1 ≠ it) (hit : s.heap.IsListIter it l i) (hl : s.heap.IsList l items) (hx : items[i]? = none)
    (hQ : ∀ h', Heap.ExtBut it s.heap h' → Q none { heap := h', gens := s.gens, drawn := s.drawn, toks := s.toks, os := s.os }) :
    wpAny (model prog w) A (pyNext (.ref it)) Q E s := by
  obtain ⟨o, ho, hc, hd⟩ := id hit
  obtain ⟨ol, hol, hcl, nl, hdl⟩ := id hl
  obtain ⟨hh, o1, vs1, h1, d1, c1⟩ := hot
  unfold pyNext
  refine wpAny_bind (wpAny_attempt (wpAny_callSpecial?_slot (Heap.IsListIter.typeIs hit) slot_listiter_next (wpAny_call_entry slot_listiter_next (Heap.IsListIter.typeIs hit) entry_listiter_next ?_)))
  refine wpAny_bind (wpAny_of_eq rfl (wpAny_bind (wpAny_field ho hd rfl ?_)))
  dsimp only
  rw [if_neg (by simp)]
  refine wpAny_bind (wpAny_field ho hd rfl ?_)
  refine wpAny_bind (wpAny_seqItems hol hdl ?_)
  dsimp only
  rw [show ((i : Int).toNat) = i from rfl, hx]
  dsimp only
  refine wpAny_bind (wpAny_rule (wpAny_bind (wpAny_setField ho hd (by simp) ?_)))
  have k1 : (s.heap.update it (Obj.mapFields fun x => x.setIfInBounds 0 .none)).get? x1 = some o1 := by
    rw [Heap.get?_update_other _ _ ne.symm]
    exact h1
  refine wpAny_bind (wpAny_bind (wpAny_newObj_type (wpAny_bind (wpAny_of_eq (Eq.refl (firstArgMember (.type "StopIteration") [])) (wpAny_newObj_type ?_)))))
  have get2 := Heap.get?_push_size (((s.heap.update it (Obj.mapFields fun x => x.setIfInBounds 0 .none)).push { cls := .type "tuple", data := .seq #[] }))
    (o := { cls := .type "StopIteration", data := .fields (#[.ref (s.heap.update it (Obj.mapFields fun x => x.setIfInBounds 0 .none)).objs.size, .none, .none, .none, .bool false, .none] ++ ownMembersOf (.type "StopIteration") []) }) rfl
  have k2 := Heap.get?_push_of_some { cls := .type "tuple", data := .seq #[] } k1
  refine HotX.raiseNew_hot ⟨hh, o1, vs1, Heap.get?_push_of_some _ k2, d1, c1⟩ (Nat.ne_of_lt (Heap.lt_size k2)) get2 rfl (by simp; omega) ?_
  refine wpAny_bind (wpAny_isInstance (T := "StopIteration") ⟨_, Heap.get?_update_self _ get2 rfl, rfl⟩ isSubtype_stop ?_)
  refine wpAny_pure (hQ _ fun b ob nb eb => ?_)
  have nb2 := Heap.lt_size (Heap.get?_push_of_some { cls := .type "tuple", data := .seq #[] } ((Heap.get?_update_other s.heap (Obj.mapFields fun x => x.setIfInBounds 0 .none) nb.symm).trans eb))
  show Heap.get? _ b = some ob
  rw [Heap.get?_update_other _ _ (Nat.ne_of_lt nb2).symm]
  exact Heap.get?_push_of_some _ (Heap.get?_push_of_some _ ((Heap.get?_update_other _ _ nb.symm).trans eb))
/-! ### the end of a tuple's walk, and a tuple unpacked, there -/
theorem next_tuple_endH {prog : Program} {w : World} {A : Around} {E : Value → Shared → Prop} {s : Shared} {it l x1 : Addr} {i : Nat} {items : Array Value} {Q : Option Value → Shared → Prop}
    (hot : HotX.HotAt A x1 s.heap) (ne : x1 ≠ it) (hit : s.heap.IsTupleIter it l i) (hl : IsTup s.heap l items) (hx : items[i]? = none)
    (hQ : ∀ h', Heap.ExtBut it s.heap h' → Q none { heap := h', gens := s.gens, drawn := s.drawn, toks := s.toks, os := s.os }) :
    wpAny (model prog w) A (pyNext (.ref it)) Q E s := by
  obtain ⟨o, ho, hc, hd⟩ := id hit
  obtain ⟨ol, hol, hcl, nl, hdl⟩ := id hl
  obtain ⟨hh, o1, vs1, h1, d1, c1⟩ := hot
  unfold pyNext
  refine wpAny_bind (wpAny_attempt (wpAny_callSpecial?_slot (Heap.IsTupleIter.typeIs hit) F.slot_tuple_iterator_next (wpAny_call_entry F.slot_tuple_iterator_next (Heap.IsTupleIter.typeIs hit) F.entry_tuple_iterator_next ?_)))
  refine wpAny_bind (wpAny_of_eq rfl (wpAny_bind (wpAny_field ho hd rfl ?_)))
  dsimp only
  rw [if_neg (by simp)]
  refine wpAny_bind (wpAny_field ho hd rfl ?_)
  refine wpAny_bind (wpAny_seqItems hol hdl ?_)
  dsimp only
  rw [show ((i : Int).toNat) = i from rfl, hx]
  dsimp only
  refine wpAny_bind (wpAny_rule (wpAny_bind (wpAny_setField ho hd (by simp) ?_)))
  have k1 : (s.heap.update it (Obj.mapFields fun x => x.setIfInBounds 0 .none)).get? x1 = some o1 := by
    rw [Heap.get?_update_other _ _ ne.symm]
    exact h1
  refine wpAny_bind (wpAny_bind (wpAny_newObj_type (wpAny_bind (wpAny_of_eq (Eq.refl (firstArgMember (.type "StopIteration") [])) (wpAny_newObj_type ?_)))))
  have get2 := Heap.get?_push_size (((s.heap.update it (Obj.mapFields fun x => x.setIfInBounds 0 .none)).push { cls := .type "tuple", data := .seq #[] }))
    (o := { cls := .type "StopIteration", data := .fields (#[.ref (s.heap.update it (Obj.mapFields fun x => x.setIfInBounds 0 .none)).objs.size, .none, .none, .none, .bool false, .none] ++ ownMembersOf (.type "StopIteration") []) }) rfl
  have k2 := Heap.get?_push_of_some { cls := .type "tuple", data := .seq #[] } k1
  refine HotX.raiseNew_hot ⟨hh, o1, vs1, Heap.get?_push_of_some _ k2, d1, c1⟩ (Nat.ne_of_lt (Heap.lt_size k2)) get2 rfl (by simp; omega) ?_
  refine wpAny_bind (wpAny_isInstance (T := "StopIteration") ⟨_, Heap.get?_update_self _ get2 rfl, rfl⟩ isSubtype_stop ?_)
  refine wpAny_pure (hQ _ fun b ob nb eb => ?_)
  have nb2 := Heap.lt_size (Heap.get?_push_of_some { cls := .type "tuple", data := .seq #[] } ((Heap.get?_update_other s.heap (Obj.mapFields fun x => x.setIfInBounds 0 .none) nb.symm).trans eb))
  show Heap.get? _ b = some ob
  rw [Heap.get?_update_other _ _ (Nat.ne_of_lt nb2).symm]
  exact Heap.get?_push_of_some _ (Heap.get?_push_of_some _ ((Heap.get?_update_other _ _ nb.symm).trans eb))

theorem unpackItemsH {prog : Program} {w : World} {A : Around} {E : Value → Shared → Prop} {s : Shared} {t x1 : Addr} {items : Array Value} {Q : List Value → Shared → Prop}
    (hot : HotX.HotAt A x1 s.heap) (ht : IsTup s.heap t items)
    (hQ : ∀ h', Heap.ExtBut s.heap.objs.size s.heap h' → Q items.toList { heap := h', gens := s.gens, drawn := s.drawn, toks := s.toks, os := s.os }) :
    wpAny (model prog w) A (unpackItems (.ref t) items.size none) Q E s := by
  obtain ⟨hh, o1, vs1, h1, d1, c1⟩ := hot
  have lx : x1 < s.heap.objs.size := Heap.lt_size h1
  have hlt : t ≠ s.heap.objs.size := by
    obtain ⟨o, ho, _⟩ := ht
    exact Nat.ne_of_lt (Heap.lt_size ho)
  unfold unpackItems notIterableAtAll
  refine wpAny_bind (wpAny_bind (wpAny_specialOf (IsTup.typeIs ht) slot_tuple_iter.lookup (wpAny_pure ?_)))
  dsimp only
  rw [if_neg (by simp)]
  refine wpAny_bind (wpAny_holding (iter_tuple ht (wpAny_bind (wpAny_holding (draw_tuple hlt items.size 0 _ _ ⟨_, Heap.get?_push_size s.heap rfl, rfl, rfl⟩ (IsTup.push ht _) (by omega) fun h2 hit2 hs2 => ?_)))))
  have hall : List.take items.size (List.drop 0 items.toList) = items.toList := by
    rw [List.drop_zero]
    exact List.take_of_length_le (by simp)
  rw [hall, if_neg (by simp)]
  have g2 : ∀ b ob, s.heap.get? b = some ob → h2.get? b = some ob := fun b ob e => by
    have nb : b ≠ s.heap.objs.size := Nat.ne_of_lt (Heap.lt_size e)
    rw [hs2.2 b nb]
    exact Heap.get?_push_of_some _ e
  refine wpAny_bind (wpAny_holding (next_tuple_endH (x1 := x1) ⟨hh, o1, vs1, g2 _ _ h1, d1, c1⟩ (Nat.ne_of_lt lx) hit2 (IsTup.extBut (IsTup.push ht _) hs2.extBut hlt) (by simp) fun h3 e3 => ?_))
  exact wpAny_pure (hQ _ fun b ob nb e => e3 b ob nb (g2 b ob e))
theorem pg_tupH {X : Cx} {pos : Pos} {es : List Expr} {k : Nat} {t : TGs} {n : Nat} (hot : ∀ pins s σ H, Inv X pins σ H s → ∃ x1, HotX.HotAt X.A x1 s.heap) (h : PGs X es t)
    (hn : (assignEach es X.env).length = n := by rfl) (hp : List.findIdx? (fun x => x.1) (assignEach es X.env) = none := by rfl) : PG X (.Tuple es k pos) (gTup X.K n t) := by
  refine ⟨fun pins s σ H v u Q I r q => ?_⟩
  obtain ⟨a, xs, rfl, sq, ln, q⟩ := q
  cases (show u = Value.ref a from r)
  obtain ⟨its, rv, tp, sz⟩ := I.tuple sq
  obtain ⟨x1, hx⟩ := hot _ _ _ _ I
  have sx : its.toArray.size = n := by rw [List.size_toArray, ← ln]; exact (Paired.length rv).symm
  rw [assign_Tuple]
  refine wpAny_bind (wpAny_standAt ?_)
  unfold unpack
  rw [hp, hn, ← sx]
  refine wpAny_bind (wpAny_holding (unpackItemsH hx tp fun h' e => ?_))
  refine h.run pins _ σ H xs its Q ?_ rv q
  exact I.kept fun b ob e2 => e b ob (Nat.ne_of_lt (Heap.lt_size e2)) e2
end Gd

set_option Elab.async false
set_option linter.all false
set_option maxRecDepth 100000
set_option maxHeartbeats 4000000
set_option autoImplicit false
namespace Gd
open PySem PySem.Spec PyProof.Rows L2

/-! ### a list comprehension over a list where an exception is handled -/
theorem lc_coreH {X : Cx} {p : Addr × Obj} {pins : List (Addr × Obj)} {s : Shared} {σ : L2.St} {H : Hp} {Q : VK} {elt tg iter : Expr} {ifs : List Expr} {scope : Scope} {own : List (Str × Nat)} {pos pos' : Pos} {ti : TE} {g : TG} {tt : TT} {te : TE}
    {use : Option (Value → Sem Unit)} {Qf : Value → Shared → Prop}
    (h1 : L2H.Hot1 X.A p) (hp : p ∈ X.pn) (hN : X.N.Nodup) (I : Inv X pins σ H s) (hi : PE X iter ti) (ok : BlkOk X.N X.env.scope scope own)
    (hg : ∀ (s : Shared) (H : Hp) (C : Addr) (cl : List (Str × Addr)) (fp : List Addr),
      (∀ pins s' σ H', Inv (X.blk s H scope (compEnvC scope cl C X.env) fp) pins σ H' s' → ∃ x1, HotX.HotAt X.A x1 s'.heap) → PG (X.blk s H scope (compEnvC scope cl C X.env) fp) tg g)
    (ht : ∀ (s : Shared) (H : Hp) (C : Addr) (cl : List (Str × Addr)) (fp : List Addr), PTs (X.blk s H scope (compEnvC scope cl C X.env) fp) ifs tt)
    (he : ∀ (s : Shared) (H : Hp) (C : Addr) (cl : List (Str × Addr)) (fp : List Addr), PE (X.blk s H scope (compEnvC scope cl C X.env) fp) elt te)
    (hs : ∀ x, foldedSetIterable iter X.env x = pure x) (h : tLc (iList X.K ti) g tt te (own.map (·.2)) σ H Q)
    (hRR : ∀ (D C : Addr) (s' : Shared) (m : Str → Option Value) (H' : Hp), Inv X pins σ H' s' → Q (V.ref D) H' → s'.heap.Ns C m → FpOk X pins H' C → compPost (model X.prog X.w) X.A X.xe use Qf (.ref D) C (.ok .next) s') :
    wpAny (model X.prog X.w) X.A (comprehension (elt.ListComp [{ target := tg, iter := iter, ifs := ifs, is_async := 0 }] scope pos) scope X.env pos' (newList []) false (eval iter X.env) use) Qf X.xe s := by
  have hfree : ∀ y ∈ scope.names, y.2 = .free → ∃ c, X.env.cells.lookup y.1 = some c := fun y hy e => (ok.free y hy e).elim (fun k => I.ok.has y.1 (.inl k)) (fun k => I.ok.has y.1 (.inr k))
  refine wpAny_comprehension_free (cl := cloFrom X.env.cells scope.names []) rfl hs (closure_ok hfree) ok.kind (fun y hy e => by rw [ok.uniq y hy, e]) ?_
  refine thn (hi.run pins s σ H _ I h) fun u s1 got => ?_
  obtain ⟨xv, H1, I1, rx, a, rfl, ⟨xs0, sq0⟩, q⟩ := got
  cases (show u = Value.ref a from rx)
  obtain ⟨its0, rv0, pl0, sz0⟩ := I1.list sq0
  obtain ⟨gp, hpn, pL, pfs, pnc⟩ := I1.pin p (List.mem_append_left _ hp)
  refine wpAny_pyIter_list pl0.isList ?_
  have pit : p.1 < s1.heap.objs.size := Heap.lt_size gp
  have nit : H1 s1.heap.objs.size = none := I1.hok.fresh (Nat.le_refl _)
  have I2 := I1.kept (t' := s1.toks) (h' := s1.heap.push { cls := .type "list_iterator", data := .fields #[.ref a, .int 0 0] }) fun b o e => Heap.get?_push_of_some _ e
  have fp1 : ∀ H', H' s1.heap.objs.size = none → FpOk X pins H' s1.heap.objs.size := fun H' e => Inv.fpOk I1 (Nat.le_refl _) e
  have li2 : (s1.heap.push { cls := .type "list_iterator", data := .fields #[.ref a, .int 0 0] }).IsListIter s1.heap.objs.size a 0 := ⟨_, Heap.get?_push_size _ rfl, rfl, rfl⟩
  have sz2 : s1.heap.objs.size < (s1.heap.push { cls := .type "list_iterator", data := .fields #[.ref a, .int 0 0] }).objs.size := by rw [Heap.size_push]; exact Nat.lt_succ_self _
  have gp2 : (s1.heap.push { cls := .type "list_iterator", data := .fields #[.ref a, .int 0 0] }).get? p.1 = some p.2 := Heap.get?_push_of_some _ gp
  generalize hit : s1.heap.objs.size = it at *
  generalize hh2 : s1.heap.push { cls := .type "list_iterator", data := .fields #[.ref a, .int 0 0] } = h2 at *
  refine wpAny_newObj_type (newEnv_comp ?_)
  have hDn : H1 h2.objs.size = none := I2.hok.fresh (Nat.le_refl _)
  obtain ⟨W, ⟨m0, w0⟩, turn⟩ := q h2.objs.size hDn
  have I3 := I2.laid (t' := s1.toks) (h' := h2.push { cls := .type "list", data := .seq #[] }) (a := h2.objs.size) (o := .lst []) (fun b o e => Heap.get?_push_of_some _ e) (Nat.le_refl _)
    ⟨Nat.zero_le _, [], 0, .nil, Heap.get?_push_size _ rfl⟩
  have itD : it ≠ h2.objs.size := Nat.ne_of_lt sz2
  have f3 : ∀ b ∈ [it], FpOk X pins (upd H1 h2.objs.size (.lst [])) b ∧ b < (h2.push { cls := .type "list", data := .seq #[] }).objs.size := fun b hb => by
    obtain rfl : b = it := by simpa using hb
    refine ⟨fp1 _ (by rw [upd_ne itD]; exact nit), ?_⟩
    rw [Heap.size_push]
    exact Nat.lt_succ_of_lt sz2
  have I4 := block_start I3 ok hN f3
  have gp3 : (h2.push { cls := .type "list", data := .seq #[] }).get? p.1 = some p.2 := Heap.get?_push_of_some _ gp2
  have li3 : (h2.push { cls := .type "list", data := .seq #[] }).IsListIter it a 0 := by
    obtain ⟨o, e, r⟩ := li2
    exact ⟨o, Heap.get?_push_of_some _ e, r⟩
  have pD : p.1 ≠ h2.objs.size := Nat.ne_of_lt (Heap.lt_size gp2)
  have pst : p.1 ∉ frs X.stack := by
    rcases I.ok.stk with e | ⟨e, f⟩
    · rw [e]; exact pfs
    · rw [e]
      intro m
      rcases List.mem_filterMap.mp m with ⟨en, me, ee⟩
      rcases List.mem_cons.mp me with rfl | me
      · rw [f] at ee
        exact pL (Option.some.inj ee).symm
      · exact pfs (List.mem_filterMap.mpr ⟨en, me, ee⟩)
  have h3p : upd H1 h2.objs.size (.lst []) p.1 = none := by rw [upd_ne pD]; exact hpn
  have itp : p.1 ≠ it := Nat.ne_of_lt pit
  have nCx : ∀ H', H' (h2.push { cls := .type "list", data := .seq #[] }).objs.size = none → FpOk X pins H' (h2.push { cls := .type "list", data := .seq #[] }).objs.size := fun H' e => Inv.fpOk I3 (Nat.le_refl _) e
  generalize hD : h2.objs.size = D at *
  generalize hh3 : h2.push { cls := .type "list", data := .seq #[] } = h3 at *
  have f3' := fun b hb => (f3 b hb).1
  have st4 : (pushCells (h3.push { cls := .type "dict", data := .dict #[] }) scope.names).IsListIter it a 0 := by
    obtain ⟨o, e, r⟩ := li3
    exact ⟨o, pushCells_keeps _ _ _ _ (Heap.get?_push_of_some _ e), r⟩
  have hotB : ∀ pins' s' σ' H', Inv (X.blk { heap := h3, gens := s1.gens, drawn := s1.drawn, toks := s1.toks, os := s1.os } (upd H1 D (.lst [])) scope (compEnvC scope (cellsFrom (h3.objs.size + 1) scope.names (cloFrom X.env.cells scope.names [])) h3.objs.size X.env) [it]) pins' σ' H' s' → HotX.HotAt X.A p.1 s'.heap := fun pins' s' σ' H' J => by
    obtain ⟨hh, vs, e1, c1⟩ := h1
    refine ⟨hh, p.2, vs, J.base.keep p.1 p.2 gp3 h3p pst ?_, e1, c1⟩
    simpa using itp
  have pg := hg { heap := h3, gens := s1.gens, drawn := s1.drawn, toks := s1.toks, os := s1.os } (upd H1 D (.lst [])) h3.objs.size (cellsFrom (h3.objs.size + 1) scope.names (cloFrom X.env.cells scope.names [])) [it] (fun _ _ _ _ J => ⟨_, hotB _ _ _ _ J⟩)
  have pt := ht { heap := h3, gens := s1.gens, drawn := s1.drawn, toks := s1.toks, os := s1.os } (upd H1 D (.lst [])) h3.objs.size (cellsFrom (h3.objs.size + 1) scope.names (cloFrom X.env.cells scope.names [])) [it]
  have pe := he { heap := h3, gens := s1.gens, drawn := s1.drawn, toks := s1.toks, os := s1.os } (upd H1 D (.lst [])) h3.objs.size (cellsFrom (h3.objs.size + 1) scope.names (cloFrom X.env.cells scope.names [])) [it]
  generalize hcl : cellsFrom (h3.objs.size + 1) scope.names (cloFrom X.env.cells scope.names []) = cl at *
  have loop := compLoop_any (prog := X.prog) (w := X.w) (A := X.A) (elt := elt) (target := tg) (iter := iter) (ifs := ifs) (scope := scope) (pos := pos) (it := .ref it) (acc := .ref D) (env := compEnvC scope cl h3.objs.size X.env)
    (R := compPost (model X.prog X.w) X.A X.xe use Qf (.ref D) h3.objs.size)
    (fun n s' => ∃ i H', Inv (X.blk { heap := h3, gens := s1.gens, drawn := s1.drawn, toks := s1.toks, os := s1.os } (upd H1 D (.lst [])) scope (compEnvC scope cl h3.objs.size X.env) [it]) [] (wipe σ (own.map (·.2))) H' s' ∧ s'.heap.IsListIter it a i ∧ H' it = none ∧ W i n H') ?step m0
    ⟨0, _, I4, st4, by rw [upd_ne itD]; exact nit, w0⟩
  · refine codeAny_compStart_list loop (wpAny_pyIter_listiter st4 loop)
  · rintro n s5 ⟨i, H5, I5, st5, n5, w5⟩
    have exI : ∀ {b}, b ∈ [it] → b = it := fun {b} hb => by simpa using hb
    have itL : it ≠ (compEnvC scope cl h3.objs.size X.env).locals := (I5.ok.exf it (by simp)).1
    have itC : ∀ (x : Str) (c : Addr), (compEnvC scope cl h3.objs.size X.env).cells.lookup x = some c → c ≠ it := (I5.ok.exf it (by simp)).2
    rcases turn i n H5 w5 with ⟨stop, qq⟩ | ⟨go, Nx, hNx, step⟩
    · obtain ⟨xs, sq, le⟩ := stop
      obtain ⟨its, rv, pl, sz⟩ := I5.list sq
      refine next_list_endH (hotB _ _ _ _ I5) itp st5 pl.isList (by simp; rw [← Paired.length rv]; exact le) fun h' eb => ?_
      have I6 := I5.turned (t' := s5.toks) (h' := h') (it := it) eb n5 itL (.inl (by simp)) itC (fun q hq => by simp at hq)
      have I7 := Inv.call' I3 I6.os I6.base I6.hok I6.bare (fun b hb => by
        have F := f3' b hb
        exact ⟨F.2.2.2.1, F.2.1, F.2.2.2.2.1, F.2.2.2.2.2⟩)
      obtain ⟨m, hn, _⟩ := I6.loc
      have nC : H5 h3.objs.size = none := I6.free
      exact hRR D h3.objs.size _ m H5 I7 qq hn (nCx H5 nC)
    · obtain ⟨xs, x, sq, ex⟩ := go
      obtain ⟨its, rv, pl, sz⟩ := I5.list sq
      obtain ⟨u, eu, ru⟩ := rv.get ex
      refine wpAny_pyNext_list_item st5 pl.isList (x := u) (by simpa using eu) fun h' it' sb => ?_
      have I6 := I5.turned (t' := s5.toks) (h' := h') (it := it) (fun b o nb e => (sb.2 b nb).trans e) n5 itL (.inl (by simp)) itC (fun q hq => by simp at hq)
      obtain ⟨o6, g6, c6, d6⟩ := id it'
      dsimp only
      refine go_of (n := "list_iterator") (vs := #[.ref a, .int ((i + 1 : Nat) : Int) 0]) g6 c6 d6 (by decide) ?_
      have d0 := step x H5 ⟨rfl, fun xs' sq' => by rw [I5.list_inj sq' sq]; exact ex⟩
      have I7 := I6.pinned (fp := [it]) (fun b hb => by
        obtain rfl := exI hb
        exact ⟨n5, itL, I5.ok.exfs b (by simp), .inl (by simp), itC, fun q hq => by simp at hq⟩) (fun b hb => by
        obtain rfl := exI hb
        exact ⟨o6, g6, fun v z => by rw [d6] at z; cases z⟩)
      refine thnF (pg.run _ _ _ _ x u _ I7 ru d0) fun _ s8 got8 => ?_
      obtain ⟨σ2, H8, I8, wz, q8⟩ := got8
      have fin : ∀ s' H', Inv (X.blk { heap := h3, gens := s1.gens, drawn := s1.drawn, toks := s1.toks, os := s1.os } (upd H1 D (.lst [])) scope (compEnvC scope cl h3.objs.size X.env) [it]) ([] ++ pinsAt [it] h') σ2 H' s' → Nx H' →
          ∃ m, m < n ∧ ∃ i H', Inv (X.blk { heap := h3, gens := s1.gens, drawn := s1.drawn, toks := s1.toks, os := s1.os } (upd H1 D (.lst [])) scope (compEnvC scope cl h3.objs.size X.env) [it]) [] (wipe σ (own.map (·.2))) H' s' ∧ s'.heap.IsListIter it a i ∧ H' it = none ∧ W i m H' := fun s' H' J nx => by
        obtain ⟨m', lt, w'⟩ := hNx _ nx
        obtain ⟨g7, n7, _⟩ := J.pin (it, o6) (List.mem_append_right _ (List.mem_append_right _ (mem_pinsAt (by simp) g6)))
        refine ⟨m', lt, i + 1, H', (Inv.unpinned J).weak ?_ (fun k v e => ?_), ⟨o6, g7, c6, d6⟩, n7, w'⟩
        · rw [← wz, wipe_length]
        · rw [← wz] at e
          exact (wipe_some e).1
      refine thnF (pt.run _ _ _ _ _ I8 q8) fun b s9 got9 => ?_
      obtain ⟨H9, I9, q9⟩ := got9
      cases b with
      | false => exact fin _ _ I9 q9
      | true =>
        refine thnF (pe.run _ _ _ _ _ I9 q9) fun y s10 got10 => ?_
        obtain ⟨yv, H10, I10, ry, acc, eD, szA, nx⟩ := got10
        exact app_ok (X := X.blk { heap := h3, gens := s1.gens, drawn := s1.drawn, toks := s1.toks, os := s1.os } (upd H1 D (.lst [])) scope (compEnvC scope cl h3.objs.size X.env) [it]) I10 eD szA ry fun s11 I11 => fin _ _ I11 nx
theorem pe_lcH {X : Cx} {p : Addr × Obj} {elt tg iter : Expr} {ifs : List Expr} {scope : Scope} {own : List (Str × Nat)} {pos : Pos} {ti : TE} {g : TG} {tt : TT} {te : TE}
    (h1 : L2H.Hot1 X.A p) (hp : p ∈ X.pn) (hN : X.N.Nodup) (hi : PE X iter ti) (ok : BlkOk X.N X.env.scope scope own)
    (hg : ∀ (s : Shared) (H : Hp) (C : Addr) (cl : List (Str × Addr)) (fp : List Addr),
      (∀ pins s' σ H', Inv (X.blk s H scope (compEnvC scope cl C X.env) fp) pins σ H' s' → ∃ x1, HotX.HotAt X.A x1 s'.heap) → PG (X.blk s H scope (compEnvC scope cl C X.env) fp) tg g)
    (ht : ∀ (s : Shared) (H : Hp) (C : Addr) (cl : List (Str × Addr)) (fp : List Addr), PTs (X.blk s H scope (compEnvC scope cl C X.env) fp) ifs tt)
    (he : ∀ (s : Shared) (H : Hp) (C : Addr) (cl : List (Str × Addr)) (fp : List Addr), PE (X.blk s H scope (compEnvC scope cl C X.env) fp) elt te)
    (hs : ∀ x, foldedSetIterable iter X.env x = pure x := by intro x; rfl) :
    PE X (.ListComp elt [{ target := tg, iter := iter, ifs := ifs, is_async := 0 }] scope pos) (tLc (iList X.K ti) g tt te (own.map (·.2))) := by
  refine ⟨fun pins s σ H Q I h => ?_⟩
  rw [eval_ListComp]
  refine lc_coreH h1 hp hN I hi ok hg ht he hs h fun D C s' m H' I' q hn f => ⟨m, hn, fun h'' sb => ?_⟩
  exact ⟨.ref D, H', I'.turned (fun b o nb e => (sb.2 b nb).trans e) f.1 f.2.1 f.2.2.2.1 f.2.2.2.2.1 f.2.2.2.2.2, rfl, q⟩
theorem ps_setLcH {X : Cx} {p : Addr × Obj} {i : Nat} {y : Str} {py : Pos} {elt tg iter : Expr} {ifs : List Expr} {scope : Scope} {own : List (Str × Nat)} {pos spos : Pos} {ti : TE} {g : TG} {tt : TT} {te : TE}
    (h1 : L2H.Hot1 X.A p) (hp : p ∈ X.pn) (hN : X.N.Nodup) (hy : X.N[i]? = some y) (hyl : X.env.scope.names.lookup y = some .local)
    (hsw : swapsWith (elt.ListComp [{ target := tg, iter := iter, ifs := ifs, is_async := 0 }] scope pos) (some (.Name y py)) spos.line X.env = pure true) (hi : PE X iter ti) (ok : BlkOk X.N X.env.scope scope own)
    (hg : ∀ (s : Shared) (H : Hp) (C : Addr) (cl : List (Str × Addr)) (fp : List Addr),
      (∀ pins s' σ H', Inv (X.blk s H scope (compEnvC scope cl C X.env) fp) pins σ H' s' → ∃ x1, HotX.HotAt X.A x1 s'.heap) → PG (X.blk s H scope (compEnvC scope cl C X.env) fp) tg g)
    (ht : ∀ (s : Shared) (H : Hp) (C : Addr) (cl : List (Str × Addr)) (fp : List Addr), PTs (X.blk s H scope (compEnvC scope cl C X.env) fp) ifs tt)
    (he : ∀ (s : Shared) (H : Hp) (C : Addr) (cl : List (Str × Addr)) (fp : List Addr), PE (X.blk s H scope (compEnvC scope cl C X.env) fp) elt te)
    (hs : ∀ x, foldedSetIterable iter X.env x = pure x := by intro x; rfl) :
    PS X (.Assign [.Name y py] (elt.ListComp [{ target := tg, iter := iter, ifs := ifs, is_async := 0 }] scope pos) spos) (tAsg (tLc (iList X.K ti) g tt te (own.map (·.2))) (gName i)) := by
  refine ⟨fun pins s σ H D I h => ?_⟩
  rw [exec_Assign_Name_used y py _ spos hsw]
  refine wpAny_bind (wpAny_standAt (wpAny_bind (wpAny_bind (thn (lc_coreH h1 hp hN I hi ok hg ht he hs h fun L C s' m H' I' q hn f => ?_) fun x s' hq => wpAny_pure (wpAny_pure hq)))))
  refine wpAny_assign_Name (store_ok2 (v := .ref L) I' hN hy (.inl hyl) rfl (fun s2 I2 x => ?_) (.inr hyl))
  obtain ⟨a, sb, ha⟩ := x
  obtain ⟨f0, f1, f2, f3, f4, f5⟩ := f
  have haC : C ≠ a := ha.elim (fun z => by rw [z]; exact f1) fun z e => f4 y a z e.symm
  refine ⟨m, Heap.Ns.sameBut hn sb haC, fun h3 sb3 => ⟨_, _, I2.turned (fun b o hb e => (sb3.2 b hb).trans e) f0 f1 f3 f4 f5, q⟩⟩
end Gd

set_option Elab.async false
set_option linter.all false
set_option maxRecDepth 100000
set_option maxHeartbeats 4000000
set_option autoImplicit false
namespace Gd
open PySem PySem.Spec PyProof.Rows L2

/-! ### raising what has no chain -/
theorem takes0N {X : Cx} : L2N.Takes X (fun _ _ _ _ => False) := fun u s' h => by
  obtain ⟨_, _, _, _, _, _, _, _, _, _, _, _, _, _, _, _, no⟩ := h
  exact no.elim
section
variable {X : Cx} {x qual : Str} {st : Stmt} {ps : List Str} {sp : Sp} {k j : Nat} {e : Expr} {es : List Expr} {ta t : TA} {p pos pos2 : Pos} {C fI : Addr} {W : WX}
theorem pmk_oexN (T : ExT X.K X.mg C fI x) (D : DnI X.prog X.w X.K X.mg X.base k fI qual st ps sp) (hr : Room j X.A) (hg : Gl X x) (ha : PA X (e :: es) ta) (hk : k + 1 ≤ j := by decide)
    (hdb : (x == ("__debug__" : Str)) = false := by decide) (he : starEach (e :: es) X.env = (false, eval e X.env) :: starEach es X.env := by rfl)
    (hpl : (backTo pos (starEach es X.env)).any (·.1) = false := by rfl) :
    L2N.PMk X (.Call (.Name x p) (e :: es) [] pos) (tMkO C sp [] ta) := by
  obtain ⟨fd, F, b, ok⟩ := D.ex
  have hr' := hr.mono hk
  intro pins s σ H Q I h
  obtain ⟨nm, q, N, bs, bm, sn, sub, ab, col, dd, k0, k1, k2, k3, k5, hC, hbm⟩ := T.ox.cls
  refine wpAny_Call_Name_kw (ld_glob I hg T.mg_ ?_ hdb)
  refine PySem.W.callWith_K (h₀ := X.base) I.ok.mod.kin T.ox.kC (thn (ha.run pos pins s σ H _ I h) fun us s1 got => ?_) he hpl
  obtain ⟨vs, H1, I1, r1, hz, q1⟩ := got
  refine ⟨I1.kIn, ?_⟩
  show wpAny _ _ (call (.ref C) us) _ _ _
  obtain ⟨hp, g, dr, tk, os⟩ := s1
  have big : hp.objs.size ≤ hp.objs.size + 1 := Nat.le_succ _
  have new : H1 (hp.objs.size + 1) = none := I1.hok.fresh big
  have hq := q1 (hp.objs.size + 1) new
  rw [List.append_nil] at hq
  have grow : ∀ b o, hp.get? b = some o → ((hp.push (PySem.W.kdv_tup us)).push (PySem.HandSPX.excO C hp.objs.size)).get? b = some o := fun b o z => Heap.get?_push_of_some _ (Heap.get?_push_of_some _ z)
  have there : ((hp.push (PySem.W.kdv_tup us)).push (PySem.HandSPX.excO C hp.objs.size)).get? (hp.objs.size + 1) = some (PySem.HandSPX.excO C hp.objs.size) := by heap_get
  have I2 : Inv X pins σ (upd H1 (hp.objs.size + 1) (exo (hp.objs.size + 1) C none)) ⟨(hp.push (PySem.W.kdv_tup us)).push (PySem.HandSPX.excO C hp.objs.size), g, dr, tk, os⟩ := I1.laid (t' := tk) grow big (exo_ok there)
  have r2 : Vals (V.ref (hp.objs.size + 1) :: vs) (Value.ref (hp.objs.size + 1) :: us) := .cons rfl r1
  have cnt : (Value.ref (hp.objs.size + 1) :: us).length = ps.length := by
    rw [← r2.length]
    exact ok.len _ _ _ _ hq
  have bnd : BindsTo ⟨(hp.push (PySem.W.kdv_tup us)).push (PySem.HandSPX.excO C hp.objs.size), g, dr, tk, os⟩ fd ⟨Value.ref (hp.objs.size + 1) :: us, []⟩ (ps.zip (Value.ref (hp.objs.size + 1) :: us)) := by
    have z := b _ (Value.ref (hp.objs.size + 1) :: us) I2.kIn (by simpa using cnt)
    simpa using z
  have few : us.length ≤ sizeLine := by
    rw [← Paired.length r1, sizeLine_eq]
    omega
  refine wpAny_call (PySem.HandSPX.call_own PySem.F.excBase_ValueError (fun Y => PySem.HandSPX.refsVE_contains Y bm hbm) (I1.kIn _ _ hC) (PySem.W.looks_findIn I1.kIn T.iC) (fun self => PySem.W.bind_fn I1.kIn self T.tI) few ?_)
  refine codeAny_mono (ok.run _ X.stack _ _ ⟨Value.ref (hp.objs.size + 1) :: us, []⟩ (Value.ref (hp.objs.size + 1) :: us) _ _ E0 (hr'.make C us []) (I2.env0.make C us []) bnd r2 hq) fun r s' post => ?_
  cases r with
  | error er => exact (post : False).elim
  | ok fl =>
    cases fl with
    | ret u =>
      obtain ⟨v, H2, os2, bare2, un2, hok2, rv, ev, d, fs, ea, ed, hd1, q2⟩ := post
      subst ev
      obtain ⟨h2, g2, d2, t2, os'⟩ := s'
      refine ⟨rv, ?_⟩
      obtain ⟨t0, G, IG, gk, ga, gx, na⟩ := mk_end0 (d2 := d2) (t2 := t2) I1 big grow un2 hok2 os2 bare2 ea ed hd1
      exact ⟨_, _, _, _, _, _, _, rfl, IG, gk, ga, gx, ⟨rfl, rfl, fun vs z => by cases z; rfl⟩, rfl, rfl, na, rfl, bare2, raises_own T.ox.exC T.ox.tyC, q2⟩
    | next => exact (post : False).elim
    | brk => exact (post : False).elim
    | cont => exact (post : False).elim
theorem ps_raiseN (hc : X.calm = true) (T : ExT X.K X.mg C fI x) (D : DnI X.prog X.w X.K X.mg X.base k fI qual st ps sp) (hr : Room j X.A) (tk : L2N.Takes X W) (hg : Gl X x) (ha : PA X (e :: es) ta) (hk : k + 1 ≤ j := by decide)
    (hdb : (x == ("__debug__" : Str)) = false := by decide) (he : starEach (e :: es) X.env = (false, eval e X.env) :: starEach es X.env := by rfl)
    (hpl : (backTo pos (starEach es X.env)).any (·.1) = false := by rfl) :
    PS X (.Raise (some (.Call (.Name x p) (e :: es) [] pos)) none pos2) (fun _ σ H => tMkO C sp [] ta σ H fun cls d H' => W cls d σ H') :=
  L2N.ps_raise hc tk (pmk_oexN T D hr hg ha hk hdb he hpl)
/-- defs that may raise so -/
structure DnN (P : Program) (w : World) (K : PySem.W.Frag) (mg : Str → Option Value) (base : Heap)
    (k : Nat) (x : Str) (st : Stmt) (ps : List Str) (sp : Sp) : Prop where
  ex : ∃ f fd, Fun K x x st f fd ∧ Binds K fd ps [] ∧ mg x = some (.ref f) ∧ FnOk P w K mg base (L2N.CX P w) k f fd ps sp
theorem DnN.mk' {P : Program} {w : World} {K : PySem.W.Frag} {mg : Str → Option Value} {base : Heap} {x : Str} {st : Stmt} {ps : List Str} {k : Nat} {sp : Sp} (h : At K mg x st ps)
    (ok : ∀ f fd, Fun K x x st f fd → FnOk P w K mg base (L2N.CX P w) k f fd ps sp) : DnN P w K mg base k x st ps sp := by
  obtain ⟨f, fd, F, b, g⟩ := h
  exact ⟨f, fd, F, b, g, ok f fd F⟩
theorem okN {P : Program} {w : World} {K : PySem.W.Frag} {mg : Str → Option Value} {base : Heap} {x qual : Str} {st : Stmt} {f : Addr} {fd : FuncData} {N ps : List Str} {k : Nat} {sp : Sp}
    (F : Fun K x qual st f fd) (S : FnScope N ps (defScope st)) (len : ∀ vs H Q E, sp vs H Q E → vs.length = ps.length)
    (hb : ∀ (cdv : Value) (A : Around) (outer : List Env) (s : Shared) (H : Hp) (vs : List V) (Q : VK) (E : XK), Room k (A.deeper (envOfC qual (defScope st) s.heap.objs.size f cdv)) → sp vs H Q E →
      ∃ t, PSs (cxOf (L2N.CX P w) P w K mg base N qual (defScope st) f cdv A outer s H E) (defBody st) t ∧ t { nx := fun _ H' => Q .non H', rt := Q } (start N vs) H) :
    FnOk P w K mg base (L2N.CX P w) (k + 1) f fd ps sp := by
  obtain ⟨oc, od, kV, doc, pm, an, cdv, ct, osl, rfl, lk, cdok⟩ := F.ex
  exact fn_of lk cdok S len fun A outer s H vs Q E rm h => hb cdv A outer s H vs Q E rm h
theorem pe_cN (tk : L2N.Takes X W) (D : DnN X.prog X.w X.K X.mg X.base k x st ps sp) (hr : Room j X.A) (hg : Gl X x) (ha : PA X (e :: es) t) (hk : k ≤ j := by decide)
    (hdb : (x == ("__debug__" : Str)) = false := by decide) (he : starEach (e :: es) X.env = (false, eval e X.env) :: starEach es X.env := by rfl)
    (hpl : (backTo pos (starEach es X.env)).any (·.1) = false := by rfl) :
    PE X (.Call (.Name x p) (e :: es) [] pos) (tCallS sp (WE W) t) := by
  obtain ⟨f, fd, F, b, g, ok⟩ := D.ex
  exact pe_callS ok (hr.mono hk) hg g F.kp b (fun σ => L2N.passAt tk σ) ha hdb he hpl
end

/-! ### a def called in an except suite: what it knows of the exception -/
abbrev SpE := Addr → Value → Option Addr → Sp
structure FnE (P : Program) (w : World) (K : PySem.W.Frag) (mg : Str → Option Value) (base : Heap) (k : Nat) (f : Addr) (fd : FuncData) (ps : List Str) (sp : SpE) : Prop where
  len : ∀ a cls d vs H Q E, sp a cls d vs H Q E → vs.length = ps.length
  run : ∀ (A : Around) (outer : List Env) (s : Shared) (H : Hp) (args : Args) (us : List Value) (vs : List V) (Q : VK) (E : XK) (p : Addr × Obj),
    L2H.RoomH k A → L2H.Hot1 A p → L2H.PinOk outer H s p → Env0 P w K mg base A outer s H → BindsTo s fd args (ps.zip us) → Vals vs us →
    sp p.1 p.2.cls p.2.dict vs H Q E → codeAny (model P w) A (.call (.ref f) args) (CR CX0 outer P w H s Q E) s
structure DnE (P : Program) (w : World) (K : PySem.W.Frag) (mg : Str → Option Value) (base : Heap)
    (k : Nat) (x : Str) (st : Stmt) (ps : List Str) (sp : SpE) : Prop where
  ex : ∃ f fd, Fun K x x st f fd ∧ Binds K fd ps [] ∧ mg x = some (.ref f) ∧ FnE P w K mg base k f fd ps sp
theorem DnE.mk' {P : Program} {w : World} {K : PySem.W.Frag} {mg : Str → Option Value} {base : Heap} {x : Str} {st : Stmt} {ps : List Str} {k : Nat} {sp : SpE} (h : At K mg x st ps)
    (ok : ∀ f fd, Fun K x x st f fd → FnE P w K mg base k f fd ps sp) : DnE P w K mg base k x st ps sp := by
  obtain ⟨f, fd, F, b, g⟩ := h
  exact ⟨f, fd, F, b, g, ok f fd F⟩
theorem okE {P : Program} {w : World} {K : PySem.W.Frag} {mg : Str → Option Value} {base : Heap} {x qual : Str} {st : Stmt} {f : Addr} {fd : FuncData} {N ps : List Str} {k : Nat} {sp : SpE}
    (F : Fun K x qual st f fd) (S : FnScope N ps (defScope st))
    (len : ∀ a cls d vs H Q E, sp a cls d vs H Q E → vs.length = ps.length)
    (hb : ∀ (cdv : Value) (A : Around) (out : List Env) (s : Shared) (H : Hp) (vs : List V) (Q : VK) (E : XK) (p : Addr × Obj),
      L2H.Hot1 A p → L2H.RoomH k (A.deeper (envOfC qual (defScope st) s.heap.objs.size f cdv)) → sp p.1 p.2.cls p.2.dict vs H Q E →
      ∃ t, PSs (L2H.cxH CX0 P w K mg base N qual (defScope st) f cdv A out s H E p).nox (defBody st) t ∧ t { nx := fun _ H' => Q .non H', rt := Q } (start N vs) H) :
    FnE P w K mg base (k + 1) f fd ps sp := by
  obtain ⟨oc, od, kV, doc, pm, an, cdv, ct, osl, rfl, lk, cdok⟩ := F.ex
  constructor
  · exact len
  intro A out s H args us vs Q E p rm hot pin env bnd rel pre
  have pl := len _ _ _ vs H Q E pre
  have keep : ∀ b o, base.get? b = some o → s.heap.get? b = some o := fun b o e => (env.bs b o e).1
  have kin := env.mod.kin.keeps keep
  have nol := env.mod.nolimit.keeps keep
  refine codeAny_call_function rm.depth (kin _ _ lk) rfl S.co S.gen rfl (PySem.W.codeRec_of kin cdok) (bnd _ _ _ _ ?_)
  refine wpAny_newFunctionEnv_cells S.kind ?_ fun en he s1 xx => ?_
  · rintro ⟨nm, val⟩ mem
    cases S.par nm (List.of_mem_zip mem).1 with
    | inl q => exact .inl q
    | inr q => exact .inr ⟨q, PySem.W.cellsFrom_some _ _ _ (.inl q)⟩
  subst he
  refine ⟨nol.keeps xx.toInCall.keep, codeAny_func ?_⟩
  obtain ⟨t, ht, hq⟩ := hb cdv A out s H vs Q E p hot (rm.deeper _) pre
  have J0 := L2H.inv_startH (CX := CX0) (E := E) (qual := qual) (f := f) (cd := cdv) S pin env pl rel xx
  refine wpAny_mono (ht.nox.run [] s1 (start N vs) H _ J0 hq) ?_ (fun _ _ z => z)
  intro fl s' post
  cases fl with
  | next =>
    obtain ⟨_, H', J, q⟩ := post
    exact ⟨.non, H', J.os, J.bare, J.base, J.hok, rfl, q⟩
  | ret u =>
    obtain ⟨v, _, H', J, rv, q⟩ := post
    exact ⟨v, H', J.os, J.bare, J.base, J.hok, rv, q⟩
  | brk =>
    obtain ⟨_, _, _, no⟩ := post
    cases no
  | cont =>
    obtain ⟨_, _, _, no⟩ := post
    cases no
theorem pe_cE {X : Cx} {x : Str} {st : Stmt} {ps : List Str} {sp : SpE} {k j : Nat} {e : Expr} {es : List Expr} {t : TA} {p pos : Pos} {a : Addr} {oe : Obj} {cls : Value} {d : Option Addr}
    (hx : X.A.handled = some (.ref a)) (hm : (a, oe) ∈ X.pn) (zn : L2N.Zn cls d oe) (fl : ∃ vs, oe.data = .fields vs)
    (D : DnE X.prog X.w X.K X.mg X.base k x st ps sp) (hr : L2H.RoomH j X.A) (hg : Gl X x) (ha : PA X (e :: es) t) (hk : k ≤ j := by decide)
    (hdb : (x == ("__debug__" : Str)) = false := by decide) (he : starEach (e :: es) X.env = (false, eval e X.env) :: starEach es X.env := by rfl)
    (hpl : (backTo pos (starEach es X.env)).any (·.1) = false := by rfl) :
    PE X (.Call (.Name x p) (e :: es) [] pos) (tCl (sp a cls d) t) := by
  obtain ⟨f, fd, F, b, g, ok⟩ := D.ex
  obtain ⟨rfl, rfl, zc⟩ := zn
  obtain ⟨fvs, fe⟩ := fl
  refine ⟨fun pins s σ H Q I h => ?_⟩
  refine wpAny_Call_Name_kw (ld_glob I hg g ?_ hdb)
  refine PySem.W.callWith_K (h₀ := X.base) I.ok.mod.kin F.kp (thn (ha.run pos pins s σ H _ I h) fun us s1 got => ?_) he hpl
  obtain ⟨vs, H1, I1, r1, q2⟩ := got
  refine ⟨I1.kIn, ?_⟩
  have cnt : us.length = ps.length := by
    rw [← r1.length]
    exact ok.len _ _ _ _ _ _ _ q2
  have bnd : BindsTo s1 fd ⟨us, []⟩ (ps.zip us) := by
    have z := b s1 us I1.kIn (by simpa using cnt)
    simpa using z
  have P1 := I1.pin (a, oe) (List.mem_append_left _ hm)
  have pin : L2H.PinOk X.stack H1 s1 (a, oe) := ⟨P1.1, P1.2.1, fun m => (List.mem_cons.mp (Inv.stkSub I1 a m)).elim P1.2.2.1 P1.2.2.2.1, P1.2.2.2.2⟩
  refine wpAny_call (codeAny_mono (ok.run X.A X.stack s1 H1 ⟨us, []⟩ us vs _ E0 (a, oe) (hr.mono hk) ⟨hx, fvs, fe, zc fvs fe⟩ pin I1.env0 bnd r1 q2) ?_)
  intro r s' post
  cases r with
  | error e => exact (post : False).elim
  | ok fl =>
    cases fl with
    | ret u => exact I1.after post
    | next => exact (post : False).elim
    | brk => exact (post : False).elim
    | cont => exact (post : False).elim

theorem unitsD {k : Nat} {A : Around} (h : Room k A) : A.units + 65 < cLine := by
  have := h.un
  omega
theorem roomS {k : Nat} {A : Around} {v : Option Value} (h : Room k A) : L2H.RoomH k (A.mark v) := ⟨(L2H.roomH_of h).dp, (L2H.roomH_of h).un⟩
/-! ### what is asked of it there -/
/-- what is known of the exception p: its class, its dict -/
def ErrP (H : Hp) (p : Addr × Obj) (C : Addr) (v : V) : Prop := ∃ d, p.2.cls = .ref C ∧ p.2.dict = some d ∧ H d = some (.xd [("value", v)])
theorem ErrP.same {H H' : Hp} {p : Addr × Obj} {C : Addr} {v : V} (k : Same H H') (h : ErrP H p C v) : ErrP H' p C v := by
  obtain ⟨d, h1, h2, h3⟩ := h
  exact ⟨d, h1, h2, k _ _ h3⟩
theorem errP_inst {X : Cx} {pins : List (Addr × Obj)} {σ : L2.St} {H : Hp} {s : Shared} {p : Addr × Obj} {C : Addr} {v : V} (I : Inv X pins σ H s) (hm : p ∈ X.pn) (h1 : L2H.Hot1 X.A p) (h : ErrP H p C v) :
    ∃ (od : Obj) (u : Value), PySem.W.InstAt s.heap p.1 p.2 C (some od) ∧ RelV v u ∧ PySem.W.lookIn "value" od = some (some u) := by
  obtain ⟨d, hc, hd, e2⟩ := h
  obtain ⟨_, vs, hf, _⟩ := h1
  have he := (I.pin p (List.mem_append_left _ hm)).1
  have z : ObjOk X.prog X.w H s.heap d (.xd [("value", v)]) := I.hok d _ e2
  obtain ⟨mA, ns, rel⟩ := z
  obtain ⟨od, ho, hl⟩ := lookIn_ns ns
  have l : List.lookup ("value" : Str) [(("value" : Str), v)] = some v := by simp [List.lookup]
  obtain ⟨u, hu, ru⟩ := RelO.some_of (v := v) (o := mA "value") (by rw [← l]; exact rel "value")
  exact ⟨od, u, ⟨he, hc, by unfold PySem.W.notCls; rw [hf] <;> rfl, by rw [hd]; exact ho⟩, ru, by rw [hl, hu]⟩
def tValP (ta : TE) (p : Addr × Obj) (S : Addr → Prop) : TE := fun σ H Q => ta σ H fun x H1 => ∃ c v, x = .ref p.1 ∧ S c ∧ ErrP H1 p c v ∧ Q v H1
theorem pe_valP {X : Cx} {p : Addr × Obj} {e : Expr} {te : TE} {pos : Pos} {S : Addr → Prop} (hm : p ∈ X.pn) (h1 : L2H.Hot1 X.A p) (T : ∀ c, S c → ∃ fI x, ExT X.K X.mg c fI x) (he : PE X e te) (hb : attributeBase e "value" X.env (eval e X.env) = eval e X.env := by rfl) :
    PE X (.Attribute e "value" pos) (tValP te p S) := by
  refine ⟨fun pins s σ H Q I h => ?_⟩
  refine attr_of hb (thn (he.run pins s σ H _ I h) fun u s1 got => ?_)
  obtain ⟨x, H1, I1, rx, c, v, ex, sc, ea, q⟩ := got
  subst ex
  obtain rfl : u = Value.ref p.1 := rx
  obtain ⟨fI, y, T⟩ := T c sc
  obtain ⟨od, w, J, ru, hl⟩ := errP_inst I1 hm h1 ea
  exact HandSPX.exc_get I1.kIn J T.hg T.hk T.ox.exC (PySem.W.findObj_own T.hd T.nV rfl hl) (handed_of ru) ⟨v, H1, I1.tok _, ru, q⟩
def rIsXP (K : PySem.W.Frag) (p : Addr × Obj) (S : Addr → Prop) : List V → Hp → VK → Prop := fun xs H Q => ∃ (C : Addr) (v c : V) (cv : Value) (b : Bool), xs = [.ref p.1, c] ∧ S C ∧ ErrP H p C v ∧ (∀ u, RelV c u → u = cv) ∧ PySem.W.kitOne K (.ref C) cv = some b ∧ Q (.bl b) H
theorem call_isXP {X : Cx} {p : Addr × Obj} {S : Addr → Prop} (hm : p ∈ X.pn) (h1 : L2H.Hot1 X.A p) (T : ∀ c, S c → ∃ fI x, ExT X.K X.mg c fI x) : CallR X (.builtin "isinstance") (rIsXP X.K p S) := by
  intro pins s σ H xs us Q I r h
  obtain ⟨C, v, c, cv, b, rfl, sc, ea, hcv, e, q⟩ := h
  obtain ⟨u1, u2, rfl, r1, r2⟩ := vals2 r
  cases (show u1 = Value.ref p.1 from r1)
  have ec := hcv _ r2
  subst ec
  obtain ⟨fI, y, T⟩ := T C sc
  obtain ⟨od, w, J, _⟩ := errP_inst I hm h1 ea
  exact PySem.W.kia_one (err_kit T) I.kIn ⟨_, _, J⟩ e (fun z => nomatch z) fun tk => ⟨.bl b, H, I.tok tk, rfl, q⟩
end Gd

namespace Pk04
open PySem PySem.Spec PyProof.Rows L2 Gd
def topS (i : Nat) : Stmt := PySem.Challenge.pw_tightranges_k04_errors_of_ranges.main.body.getD i (.Pass ⟨0, 0, 0, 0⟩)
abbrev s_is_upside_down : Stmt := topS 12
theorem sc_is_upside_down : FnScope ["one", "low", "high"] ["one"] (defScope s_is_upside_down) := ⟨rfl, rfl, rfl, by decide +kernel, rfl, by decide +kernel, by decide +kernel⟩
abbrev s_check_range : Stmt := topS 13
theorem sc_check_range : FnScope ["one"] ["one"] (defScope s_check_range) := ⟨rfl, rfl, rfl, by decide +kernel, rfl, by decide +kernel, by decide +kernel⟩
abbrev s__least : Stmt := topS 20
theorem sc__least : FnScope ["one", "other"] ["one", "other"] (defScope s__least) := ⟨rfl, rfl, rfl, by decide +kernel, rfl, by decide +kernel, by decide +kernel⟩
abbrev s__greatest : Stmt := topS 21
theorem sc__greatest : FnScope ["one", "other"] ["one", "other"] (defScope s__greatest) := ⟨rfl, rfl, rfl, by decide +kernel, rfl, by decide +kernel, by decide +kernel⟩
abbrev s_common : Stmt := topS 16
theorem sc_common : FnScope ["one", "other", "both"] ["one", "other"] (defScope s_common) := ⟨rfl, rfl, rfl, by decide +kernel, rfl, by decide +kernel, by decide +kernel⟩
abbrev s_meets : Stmt := topS 14
theorem sc_meets : FnScope ["one", "other"] ["one", "other"] (defScope s_meets) := ⟨rfl, rfl, rfl, by decide +kernel, rfl, by decide +kernel, by decide +kernel⟩
abbrev s_lies_within : Stmt := topS 15
theorem sc_lies_within : FnScope ["one", "other"] ["one", "other"] (defScope s_lies_within) := ⟨rfl, rfl, rfl, by decide +kernel, rfl, by decide +kernel, by decide +kernel⟩
abbrev s__least_or_none : Stmt := topS 22
theorem sc__least_or_none : FnScope ["one", "other"] ["one", "other"] (defScope s__least_or_none) := ⟨rfl, rfl, rfl, by decide +kernel, rfl, by decide +kernel, by decide +kernel⟩
abbrev s__greatest_or_none : Stmt := topS 23
theorem sc__greatest_or_none : FnScope ["one", "other"] ["one", "other"] (defScope s__greatest_or_none) := ⟨rfl, rfl, rfl, by decide +kernel, rfl, by decide +kernel, by decide +kernel⟩
abbrev s_joined : Stmt := topS 17
theorem sc_joined : FnScope ["one", "other"] ["one", "other"] (defScope s_joined) := ⟨rfl, rfl, rfl, by decide +kernel, rfl, by decide +kernel, by decide +kernel⟩
abbrev s__taken : Stmt := topS 19
theorem sc__taken : FnScope ["bound", "factor", "add"] ["bound", "factor", "add"] (defScope s__taken) := ⟨rfl, rfl, rfl, by decide +kernel, rfl, by decide +kernel, by decide +kernel⟩
abbrev s_stepped : Stmt := topS 18
theorem sc_stepped : FnScope ["one", "factor", "add", "ends"] ["one", "factor", "add"] (defScope s_stepped) := ⟨rfl, rfl, rfl, by decide +kernel, rfl, by decide +kernel, by decide +kernel⟩
abbrev s__law_draw : Stmt := topS 26
theorem sc__law_draw : FnScope ["rng", "limit", "digit", "blend"] ["rng", "limit"] (defScope s__law_draw) := ⟨rfl, rfl, rfl, by decide +kernel, rfl, by decide +kernel, by decide +kernel⟩
abbrev s__law_rng : Stmt := topS 25
theorem sc__law_rng : FnScope ["script", "digits", "seed", "number", "far"] ["script"] (defScope s__law_rng) := ⟨rfl, rfl, rfl, by decide +kernel, rfl, by decide +kernel, by decide +kernel⟩
abbrev s__law_bound : Stmt := topS 27
theorem sc__law_bound : FnScope ["rng", "most"] ["rng", "most"] (defScope s__law_bound) := ⟨rfl, rfl, rfl, by decide +kernel, rfl, by decide +kernel, by decide +kernel⟩
abbrev s__law_range : Stmt := topS 28
theorem sc__law_range : FnScope ["rng", "most", "low", "high"] ["rng", "most"] (defScope s__law_range) := ⟨rfl, rfl, rfl, by decide +kernel, rfl, by decide +kernel, by decide +kernel⟩
abbrev s_RangeError___init__ : Stmt := inClass (topS 1) 0
theorem sc_RangeError___init__ : FnScope ["self", "value"] ["self", "value"] (defScope s_RangeError___init__) := ⟨rfl, rfl, rfl, by decide +kernel, rfl, by decide +kernel, by decide +kernel⟩
abbrev s__law_caught : Stmt := topS 29
theorem sc__law_caught : FnScope ["e", "some", "words", "word", "so"] ["e"] (defScope s__law_caught) := ⟨rfl, rfl, rfl, by decide +kernel, rfl, by decide +kernel, by decide +kernel⟩
abbrev s__law_raised : Stmt := topS 30
theorem sc__law_raised : FnScope ["door", "one", "two", "e"] ["door", "one", "two"] (defScope s__law_raised) := ⟨rfl, rfl, rfl, by decide +kernel, rfl, by decide +kernel, by decide +kernel⟩
abbrev s__law_odd : Stmt := topS 31
theorem sc__law_odd : FnScope ["rng", "low", "high"] ["rng"] (defScope s__law_odd) := ⟨rfl, rfl, rfl, by decide +kernel, rfl, by decide +kernel, by decide +kernel⟩
abbrev s_law : Stmt := topS 32
theorem sc_law : FnScope ["script", "rng", "lap", "some", "bad", "due", "one", "door"] ["script"] (defScope s_law) := ⟨rfl, rfl, rfl, by decide +kernel, rfl, by decide +kernel, by decide +kernel⟩
/-- low above high -/
def up : Rg → Bool
  | some (some l, some h) => decide (l > h)
  | _ => false
theorem up_ok {r : Rg} (h : RgFit r) : up r = false := by
  match r, h with
  | none, _ => rfl
  | some (none, _), _ => rfl
  | some (some _, none), _ => rfl
  | some (some l, some h), q =>
    have q' : l ≤ h := q
    exact decide_eq_false (by omega)
def gr : Option Int → Option Int → Option Int
  | none, b => b
  | some a, none => some a
  | some a, some b => some (if b > a then b else a)
def le2 : Option Int → Option Int → Option Int
  | none, b => b
  | some a, none => some a
  | some a, some b => some (if b < a then b else a)
def comR : Rg → Rg → Rg
  | some (l1, h1), some (l2, h2) => if up (some (gr l1 l2, le2 h1 h2)) = true then none else some (gr l1 l2, le2 h1 h2)
  | _, _ => none
def oD : Option Int → PyData
  | none => .none
  | some i => .int i
def rgD : Rg → PyData
  | none => .none
  | some (l, h) => .tuple [oD l, oD h]
theorem dp_ov {K : PySem.W.Frag} {H : Hp} (o : Option Int) : Dp K H (ov o) (oD o) := by
  cases o with
  | none => exact .non
  | some i => exact .int i
theorem dp_rg {K : PySem.W.Frag} {H : Hp} {v : V} {r : Rg} (h : RgV K H v r) : Dp K H v (rgD r) := by
  match r, h with
  | none, h =>
    have h' : v = .non := h
    subst h'
    exact .non
  | some (l, u), h =>
    obtain ⟨p, rfl, s⟩ := h
    exact .tup s (.cons (dp_ov l) (.cons (dp_ov u) .nil))


def sp_is_upside_down (K : PySem.W.Frag) : Sp := fun vs H Q _ => ∃ v r, vs = [v] ∧ RgV K H v r ∧ Q (.bl (up r)) H

/-- the clause for a range that is refused -/
def BadR (cs : List Addr) (H : Hp) (v : V) (E : XK) : Prop := ∃ c, cs[1]? = some c ∧ ∀ d H', Same H H' → H d = none → H' d = some (.xd [("value", v)]) → E (.ref c) (some d) H'
def sp_check_range (K : PySem.W.Frag) (cs : List Addr) : Sp := fun vs H Q E => ∃ v r, vs = [v] ∧ RgV K H v r ∧ (up r = false → Q .non H) ∧ (up r = true → BadR cs H v E)

def sp__least (_ : PySem.W.Frag) : Sp := fun vs H Q _ => ∃ a b, vs = [ov a, ov b] ∧ Q (ov (le2 a b)) H

def sp__greatest (_ : PySem.W.Frag) : Sp := fun vs H Q _ => ∃ a b, vs = [ov a, ov b] ∧ Q (ov (gr a b)) H

def sp_common (K : PySem.W.Frag) (cs : List Addr) : Sp := fun vs H Q E => ∃ v1 v2 r1 r2, vs = [v1, v2] ∧ RgV K H v1 r1 ∧ RgV K H v2 r2 ∧
  (up r1 = false → up r2 = false → ∀ v H', Same H H' → RgV K H' v (comR r1 r2) → Q v H') ∧ (up r1 = true → BadR cs H v1 E) ∧ (up r1 = false → up r2 = true → BadR cs H v2 E)

def sp_meets (K : PySem.W.Frag) (cs : List Addr) : Sp := fun vs H Q E => ∃ v1 v2 r1 r2, vs = [v1, v2] ∧ RgV K H v1 r1 ∧ RgV K H v2 r2 ∧
  (up r1 = false → up r2 = false → ∀ H', Same H H' → Q (.bl (comR r1 r2).isSome) H') ∧ (up r1 = true → BadR cs H v1 E) ∧ (up r1 = false → up r2 = true → BadR cs H v2 E)

theorem eqv_oD (a b : Option Int) : PyData.eqv (oD a) (oD b) = decide (a = b) := by
  cases a with
  | none => cases b <;> simp [oD, PyData.eqv]
  | some x =>
    cases b with
    | none => simp [oD, PyData.eqv]
    | some y => by_cases h : x = y <;> simp [oD, PyData.eqv, h]
theorem eqv_rgD (a b : Rg) : PyData.eqv (rgD a) (rgD b) = decide (a = b) := by
  match a, b with
  | none, none => simp [rgD, PyData.eqv]
  | none, some (l, h) => simp [rgD, PyData.eqv]
  | some (l, h), none => simp [rgD, PyData.eqv]
  | some (l, h), some (l2, h2) =>
    simp only [rgD, PyData.eqv, PyData.eqvAll, eqv_oD]
    by_cases c1 : l = l2 <;> by_cases c2 : h = h2 <;> simp [c1, c2]
theorem shaped_oD (a : Option Int) : SeqAt.shaped (oD a) = true := by cases a <;> rfl
theorem shaped_rgD (a : Rg) : SeqAt.shaped (rgD a) = true := by
  match a with
  | none => rfl
  | some (some l, some h) => rfl
  | some (none, some h) => rfl
  | some (some l, none) => rfl
  | some (none, none) => rfl
def sp_lies_within (K : PySem.W.Frag) (cs : List Addr) : Sp := fun vs H Q E => ∃ v1 v2 r1 r2, vs = [v1, v2] ∧ RgV K H v1 r1 ∧ RgV K H v2 r2 ∧
  (up r1 = false → up r2 = false → ∀ H', Same H H' → Q (.bl (decide (comR r1 r2 = r1))) H') ∧ (up r1 = true → BadR cs H v1 E) ∧ (up r1 = false → up r2 = true → BadR cs H v2 E)

def lon : Option Int → Option Int → Option Int
  | some a, some b => some (if b < a then b else a)
  | _, _ => none
def gon : Option Int → Option Int → Option Int
  | some a, some b => some (if b > a then b else a)
  | _, _ => none
def joinR : Rg → Rg → Rg
  | none, r => r
  | r, none => r
  | some (l1, h1), some (l2, h2) => some (lon l1 l2, gon h1 h2)
def sp__least_or_none (_ : PySem.W.Frag) : Sp := fun vs H Q _ => ∃ a b, vs = [ov a, ov b] ∧ Q (ov (lon a b)) H

def sp__greatest_or_none (_ : PySem.W.Frag) : Sp := fun vs H Q _ => ∃ a b, vs = [ov a, ov b] ∧ Q (ov (gon a b)) H

def sp_joined (K : PySem.W.Frag) (cs : List Addr) : Sp := fun vs H Q E => ∃ v1 v2 r1 r2, vs = [v1, v2] ∧ RgV K H v1 r1 ∧ RgV K H v2 r2 ∧
  (up r1 = false → up r2 = false → ∀ v H', Same H H' → RgV K H' v (joinR r1 r2) → Q v H') ∧ (up r1 = true → BadR cs H v1 E) ∧ (up r1 = false → up r2 = true → BadR cs H v2 E)

def tk (f a : Int) (o : Option Int) : Option Int := o.map fun x => f * x + a
def stepR (f a : Int) : Rg → Rg
  | none => none
  | some (l, h) => if f > 0 then some (tk f a l, tk f a h) else some (tk f a h, tk f a l)
def SzO (o : Option Int) : Prop := ∀ i, o = some i → i.natAbs < 2 ^ 1000
def SzR : Rg → Prop
  | none => True
  | some (l, h) => SzO l ∧ SzO h
def sp__taken (_ : PySem.W.Frag) : Sp := fun vs H Q _ => ∃ o f a, vs = [ov o, .int f, .int a] ∧ SzO o ∧ f.natAbs < 2 ^ 64 ∧ Q (ov (tk f a o)) H

def sp_stepped (K : PySem.W.Frag) (cs : List Addr) : Sp := fun vs H Q E => ∃ v r f a, vs = [v, .int f, .int a] ∧ RgV K H v r ∧ SzR r ∧ f.natAbs < 2 ^ 64 ∧
  (up r = false → ∀ v' H', Same H H' → RgV K H' v' (stepR f a r) → Q v' H') ∧ (up r = true → BadR cs H v E)

theorem powW_ok {x : Int} {a : Nat} (h : x.natAbs < 2 ^ a) (h0 : 0 < a) (h2 : a ≤ 1000000) : CPowW x 3 := by
  have l := PySem.Flt.log2_lt_of h0 h
  have b : Builtin.Int.intBits x ≤ x.natAbs.log2 + 1 := by
    unfold Builtin.Int.intBits
    split <;> omega
  refine ⟨by decide, ?_⟩
  have e : (2 : Int) ^ 27 = 134217728 := by decide
  rw [e]
  omega
theorem ten60 : CPowW 10 60 := ⟨by decide, by decide⟩
theorem ten18 : CPowW 10 18 := ⟨by decide, by decide⟩
theorem ten31 : CPowW 10 31 := ⟨by decide, by decide⟩


def sp__law_draw (_ : PySem.W.Frag) : Sp := fun vs H Q _ => ∃ a lim n, vs = [.ref a, .int lim] ∧ RS n H a ∧ n ≤ 1000000 ∧ 0 < lim ∧ lim.natAbs < 2 ^ 200 ∧
  ∀ r H', 0 ≤ r → r < lim → Kp a H H' → RS (n + 1) H' a → Q (.int r) H'

theorem cut_ints {ns : List Int} {lo hi : Option Int} {i : Nat} {x : V} (h : (cutV (ns.map V.int) lo hi)[i]? = some x) : ∃ z : Int, x = .int z := by
  have m : x ∈ cutV (ns.map V.int) lo hi := List.mem_of_getElem? h
  unfold cutV at m
  have m2 := List.mem_of_mem_drop (List.mem_of_mem_take m)
  obtain ⟨z, _, e⟩ := List.mem_map.mp m2
  exact ⟨z, e.symm⟩
theorem big_step {dg f : Int} {i : Nat} (h0 : 0 ≤ dg) (h : dg.natAbs < 2 ^ (200 * i + 1)) :
    0 ≤ dg * (10 : Int) ^ (60 : Int).toNat + f % (10 : Int) ^ (60 : Int).toNat ∧
    (dg * (10 : Int) ^ (60 : Int).toNat + f % (10 : Int) ^ (60 : Int).toNat).natAbs < 2 ^ (200 * (i + 1) + 1) := by
  have T : (10 : Int) ^ (60 : Int).toNat = 1000000000000000000000000000000000000000000000000000000000000 := by decide
  rw [T]
  have m0 : 0 ≤ f % 1000000000000000000000000000000000000000000000000000000000000 := Int.emod_nonneg _ (by decide)
  have m1 : f % 1000000000000000000000000000000000000000000000000000000000000 < 1000000000000000000000000000000000000000000000000000000000000 := Int.emod_lt_of_pos _ (by decide)
  generalize f % 1000000000000000000000000000000000000000000000000000000000000 = g at m0 m1
  have e : 2 ^ (200 * (i + 1) + 1) = 2 ^ (200 * i + 1) * 2 ^ 200 := by rw [← Nat.pow_add]; congr 1
  have T2 : (2 : Nat) ^ 200 = 1606938044258990275541962092341162602522202993782792835301376 := by decide
  rw [e, T2]
  generalize 2 ^ (200 * i + 1) = B at h
  omega
theorem keep_step {dg : Int} {i : Nat} (h : dg.natAbs < 2 ^ (200 * i + 1)) : dg.natAbs < 2 ^ (200 * (i + 1) + 1) :=
  Nat.lt_of_lt_of_le h (Nat.pow_le_pow_right (by decide) (by omega))
theorem end_step {dg : Int} {i : Nat} (hi : i ≤ 63) (h : dg.natAbs < 2 ^ (200 * i + 1)) : dg.natAbs < 2 ^ 13000 :=
  Nat.lt_of_lt_of_le h (Nat.pow_le_pow_right (by decide) (by omega))
def sp__law_rng (K : PySem.W.Frag) : Sp := fun vs H Q _ => ∃ (a : Addr) (ns : List Int), vs = [.ref a] ∧ SqL K H a (ns.map V.int) ∧ ns.length ≤ 63 ∧
  ∀ p H', Same H H' → H p = none → RS 0 H' p → Q (.ref p) H'

/-- a drawn bound -/
def BdOk (m : Int) : Option Int → Prop
  | none => True
  | some i => -m ≤ i ∧ i ≤ m
def sp__law_bound (_ : PySem.W.Frag) : Sp := fun vs H Q _ => ∃ a m n, vs = [.ref a, .int m] ∧ RS n H a ∧ n ≤ 900000 ∧ 2 ≤ m ∧ m ≤ 10 ^ 31 ∧
  ∀ b H', BdOk m b → Kp a H H' → RS (n + 3) H' a → Q (ov b) H'

def RgIn (m : Int) : Rg → Prop
  | none => True
  | some (l, h) => BdOk m l ∧ BdOk m h
def sp__law_range (K : PySem.W.Frag) : Sp := fun vs H Q _ => ∃ a m n, vs = [.ref a, .int m] ∧ RS n H a ∧ n ≤ 800000 ∧ 2 ≤ m ∧ m ≤ 10 ^ 31 ∧
  ∀ v r H', RgFit r → RgIn m r → Kp a H H' → RS (n + 7) H' a → RgV K H' v r → Q v H'

def loR : Option Int → Int
  | none => -40
  | some x => x
def hiR : Option Int → Int
  | none => 41
  | some x => x + 1
def rgI (a b : Int) : List Int := (List.range (b - a).toNat).map fun i => a + (i : Nat)
theorem rgV_rgI (a b : Int) : rgV a b = (rgI a b).map V.int := by
  unfold rgV rgI
  rw [List.map_map]
  rfl
def listR : Rg → List Int
  | none => []
  | some (l, h) => rgI (loR l) (hiR h)

def farO (k : Int) (o : Option Int) : Option Int := o.map (· + k)
def farR (k : Int) (r : Rg) : Rg := r.map fun q => (farO k q.1, farO k q.2)

theorem mem_rgI {x a b : Int} : x ∈ rgI a b ↔ a ≤ x ∧ x < b := by
  unfold rgI
  rw [List.mem_map]
  constructor
  · rintro ⟨i, hi, e⟩
    have := List.mem_range.mp hi
    omega
  · rintro ⟨h1, h2⟩
    exact ⟨(x - a).toNat, List.mem_range.mpr (by omega), by omega⟩
theorem rgI_len (a b : Int) : (rgI a b).length = (b - a).toNat := by
  unfold rgI
  rw [List.length_map, List.length_range]
theorem gr_comm (a b : Option Int) : gr a b = gr b a := by
  cases a <;> cases b <;> simp only [gr] <;> (try rfl)
  congr 1
  split <;> split <;> omega
theorem le2_comm (a b : Option Int) : le2 a b = le2 b a := by
  cases a <;> cases b <;> simp only [le2] <;> (try rfl)
  congr 1
  split <;> split <;> omega
theorem com_comm (r1 r2 : Rg) : comR r1 r2 = comR r2 r1 := by
  match r1, r2 with
  | none, none => rfl
  | none, some _ => rfl
  | some _, none => rfl
  | some (l1, h1), some (l2, h2) => simp only [comR, gr_comm l1 l2, le2_comm h1 h2]
theorem gr_far (k : Int) (a b : Option Int) : gr (farO k a) (farO k b) = farO k (gr a b) := by
  cases a <;> cases b <;> simp only [gr, farO, Option.map_some, Option.map_none]
  congr 1
  split <;> split <;> omega
theorem le2_far (k : Int) (a b : Option Int) : le2 (farO k a) (farO k b) = farO k (le2 a b) := by
  cases a <;> cases b <;> simp only [le2, farO, Option.map_some, Option.map_none]
  congr 1
  split <;> split <;> omega
theorem up_far (k : Int) (a b : Option Int) : up (some (farO k a, farO k b)) = up (some (a, b)) := by
  cases a <;> cases b <;> simp only [up, farO, Option.map_some, Option.map_none]
  exact decide_eq_decide.mpr (by omega)
theorem com_far (k : Int) (r1 r2 : Rg) : comR (farR k r1) (farR k r2) = farR k (comR r1 r2) := by
  match r1, r2 with
  | none, none => rfl
  | none, some _ => rfl
  | some _, none => rfl
  | some (l1, h1), some (l2, h2) =>
    show comR (some (farO k l1, farO k h1)) (some (farO k l2, farO k h2)) = _
    simp only [comR, gr_far, le2_far, up_far]
    split <;> rfl
theorem farO_inj {k : Int} {a b : Option Int} (h : farO k a = farO k b) : a = b := by
  cases a <;> cases b <;> simp only [farO, Option.map_some, Option.map_none] at h
  · rfl
  · cases h
  · cases h
  · have := Option.some.inj h
    congr 1
    omega
theorem farR_inj {k : Int} {a b : Rg} (h : farR k a = farR k b) : a = b := by
  match a, b, h with
  | none, none, _ => rfl
  | none, some _, h => cases h
  | some _, none, h => cases h
  | some (l1, h1), some (l2, h2), h =>
    have e := Option.some.inj h
    have e1 : farO k l1 = farO k l2 := congrArg Prod.fst e
    have e2 : farO k h1 = farO k h2 := congrArg Prod.snd e
    rw [farO_inj e1, farO_inj e2]
theorem fit_far {k : Int} {r : Rg} (h : RgFit r) : RgFit (farR k r) := by
  match r, h with
  | none, _ => trivial
  | some (none, none), _ => trivial
  | some (some _, none), _ => trivial
  | some (none, some _), _ => trivial
  | some (some l, some u), h =>
    have h' : l ≤ u := h
    show l + k ≤ u + k
    omega
theorem fil_nil {ns : List Int} {p : Int → Bool} : ns.filter p = [] ↔ ∀ x ∈ ns, p x = false := by
  rw [List.filter_eq_nil_iff]
  constructor
  · intro h x m
    simpa using h x m
  · intro h x m
    rw [h x m]
    exact Bool.false_ne_true
theorem up_eq {l1 h1 l2 h2 : Option Int} (a1 : BdOk 20 l1) (a2 : BdOk 20 h1) (b1 : BdOk 20 l2) (b2 : BdOk 20 h2) :
    up (some (gr l1 l2, le2 h1 h2)) = decide (min (hiR h1) (hiR h2) ≤ max (loR l1) (loR l2)) := by
  cases l1 <;> cases h1 <;> cases l2 <;> cases h2 <;> simp only [gr, le2, up, loR, hiR, BdOk] at a1 a2 b1 b2 ⊢ <;>
    (first
      | exact (decide_eq_false (by omega)).symm
      | exact decide_eq_decide.mpr (by omega)
      | (refine decide_eq_decide.mpr ?_; split <;> omega)
      | (refine decide_eq_decide.mpr ?_; split <;> split <;> omega))
theorem some_in {r1 r2 : Rg} (i1 : RgIn 20 r1) (i2 : RgIn 20 r2) : (comR r1 r2).isSome = true ↔ ∃ x, x ∈ listR r1 ∧ x ∈ listR r2 := by
  match r1, r2, i1, i2 with
  | none, none, _, _ => simp [comR, listR]
  | none, some _, _, _ => simp [comR, listR]
  | some _, none, _, _ => simp [comR, listR]
  | some (l1, h1), some (l2, h2), ⟨a1, a2⟩, ⟨b1, b2⟩ =>
    simp only [listR, mem_rgI, comR, up_eq a1 a2 b1 b2, decide_eq_true_eq]
    by_cases c : min (hiR h1) (hiR h2) ≤ max (loR l1) (loR l2)
    · rw [if_pos c]
      constructor
      · intro z
        cases z
      · rintro ⟨x, z⟩
        omega
    · rw [if_neg c]
      exact ⟨fun _ => ⟨max (loR l1) (loR l2), by omega⟩, fun _ => rfl⟩
theorem meets_due {r1 r2 : Rg} (i1 : RgIn 20 r1) (i2 : RgIn 20 r2) :
    (comR r1 r2).isSome = !decide ((listR r1).filter (fun z => decide (z ∈ listR r2)) = []) := by
  have h := some_in i1 i2
  by_cases c : (listR r1).filter (fun z => decide (z ∈ listR r2)) = []
  · rw [decide_eq_true c]
    cases e : (comR r1 r2).isSome with
    | false => rfl
    | true =>
      obtain ⟨x, m1, m2⟩ := h.mp e
      have := fil_nil.mp c x m1
      simp [m2] at this
  · rw [decide_eq_false c]
    refine h.mpr ?_
    have ⟨x, m⟩ := List.exists_mem_of_ne_nil _ c
    have := List.mem_filter.mp m
    exact ⟨x, this.1, by simpa using this.2⟩
theorem lies_in {r1 r2 : Rg} (i1 : RgIn 20 r1) (i2 : RgIn 20 r2) (f1 : RgFit r1) (f2 : RgFit r2) : comR r1 r2 = r1 ↔ ∀ x ∈ listR r1, x ∈ listR r2 := by
  match r1, r2, i1, i2, f1, f2 with
  | none, none, _, _, _, _ => simp [comR, listR]
  | none, some _, _, _, _, _ => simp [comR, listR]
  | some (l1, h1), none, ⟨a1, a2⟩, _, f1, _ =>
    simp only [comR, listR, mem_rgI]
    constructor
    · intro z
      cases z
    · intro z
      have w := z (loR l1) (by cases l1 <;> cases h1 <;> simp only [loR, hiR, BdOk, RgFit] at a1 a2 f1 ⊢ <;> omega)
      cases w
  | some (l1, h1), some (l2, h2), ⟨a1, a2⟩, ⟨b1, b2⟩, f1, f2 =>
    have ne : loR l1 < hiR h1 := by cases l1 <;> cases h1 <;> simp only [loR, hiR, BdOk, RgFit] at a1 a2 f1 ⊢ <;> omega
    have all : (∀ x ∈ listR (some (l1, h1)), x ∈ listR (some (l2, h2))) ↔ loR l2 ≤ loR l1 ∧ hiR h1 ≤ hiR h2 := by
      simp only [listR, mem_rgI]
      constructor
      · intro z
        have w1 := z (loR l1) (by omega)
        have w2 := z (hiR h1 - 1) (by omega)
        omega
      · intro z x m
        omega
    rw [all]
    simp only [comR, up_eq a1 a2 b1 b2, decide_eq_true_eq]
    constructor
    · intro z
      by_cases c : min (hiR h1) (hiR h2) ≤ max (loR l1) (loR l2)
      · rw [if_pos c] at z
        cases z
      · rw [if_neg c] at z
        have e := Option.some.inj z
        have e1 : gr l1 l2 = l1 := congrArg Prod.fst e
        have e2 : le2 h1 h2 = h1 := congrArg Prod.snd e
        constructor
        · cases l1 <;> cases l2 <;> simp only [gr, loR, BdOk] at a1 b1 e1 ⊢ <;> (first | omega | (cases e1; done) | (have := Option.some.inj e1; split at this <;> omega))
        · cases h1 <;> cases h2 <;> simp only [le2, hiR, BdOk] at a2 b2 e2 ⊢ <;> (first | omega | (cases e2; done) | (have := Option.some.inj e2; split at this <;> omega))
    · rintro ⟨z1, z2⟩
      have c : ¬ min (hiR h1) (hiR h2) ≤ max (loR l1) (loR l2) := by omega
      rw [if_neg c]
      have e1 : gr l1 l2 = l1 := by
        cases l1 <;> cases l2 <;> simp only [gr, loR, BdOk] at a1 b1 z1 ⊢ <;> (first | omega | (congr 1; split <;> omega))
      have e2 : le2 h1 h2 = h1 := by
        cases h1 <;> cases h2 <;> simp only [le2, hiR, BdOk] at a2 b2 z2 ⊢ <;> (first | omega | (congr 1; split <;> omega))
      rw [e1, e2]
theorem lies_due {r1 r2 : Rg} (i1 : RgIn 20 r1) (i2 : RgIn 20 r2) (f1 : RgFit r1) (f2 : RgFit r2) :
    decide (comR r1 r2 = r1) = decide ((listR r1).filter (fun z => !decide (z ∈ listR r2)) = []) := by
  refine decide_eq_decide.mpr ((lies_in i1 i2 f1 f2).trans (Iff.trans ?_ fil_nil.symm))
  constructor
  · intro h x m
    simp [h x m]
  · intro h x m
    simpa using h x m
theorem far_due {k : Int} {r1 r2 : Rg} : decide (comR (farR k r1) (farR k r2) = farR k r1) = decide (comR r1 r2 = r1) := by
  rw [com_far]
  exact decide_eq_decide.mpr ⟨farR_inj, fun e => by rw [e]⟩
theorem far_some {k : Int} {r1 r2 : Rg} : (comR (farR k r1) (farR k r2)).isSome = (comR r1 r2).isSome := by
  rw [com_far]
  cases comR r1 r2 <;> rfl
theorem listR_len {r : Rg} (i : RgIn 20 r) : (listR r).length ≤ 100000 := by
  match r, i with
  | none, _ => exact Nat.zero_le _
  | some (l, h), ⟨a, b⟩ =>
    show (rgI (loR l) (hiR h)).length ≤ 100000
    rw [rgI_len]
    cases l <;> cases h <;> simp only [loR, hiR, BdOk] at a b ⊢ <;> omega
theorem RgIn.wide {r : Rg} (i : RgIn 20 r) : RgIn 1000 r := by
  match r, i with
  | none, _ => trivial
  | some (l, h), ⟨a, b⟩ =>
    refine ⟨?_, ?_⟩
    · cases l with
      | none => trivial
      | some x => simp only [BdOk] at a ⊢; omega
    · cases h with
      | none => trivial
      | some x => simp only [BdOk] at b ⊢; omega



/-! ### sizes -/
def LtO (o : Option Int) : Prop := ∀ i, o = some i → i.natAbs < 10 ^ 60
def LtR : Rg → Prop
  | none => True
  | some (l, h) => LtO l ∧ LtO h
theorem LtO.sz {o : Option Int} (h : LtO o) : SzO o := fun i e => Nat.lt_trans (h i e) (by decide)
theorem LtR.sz {r : Rg} (h : LtR r) : SzR r := by
  match r, h with
  | none, _ => trivial
  | some (l, u), ⟨a, b⟩ => exact ⟨a.sz, b.sz⟩
theorem dok_oD {o : Option Int} (h : LtO o) : DOk 0 1 (oD o) := by
  cases o with
  | none => exact DOk.none
  | some i => exact DOk.int (h i rfl)
theorem dok_rg {r : Rg} (h : LtR r) : DOk 4 3 (rgD r) := by
  match r, h with
  | none, _ => exact DOk.none.mono (by decide) (by decide)
  | some (l, u), ⟨a, b⟩ => exact (DOk.tuple (.cons (dok_oD a) (.cons (dok_oD b) .nil))).mono (by decide) (by decide)
theorem LtO.of {m : Int} {o : Option Int} (h : BdOk m o) (hm : m ≤ 10000000000000000000000000000000000000000) : LtO o := fun i e => by
  subst e
  have h' : -m ≤ i ∧ i ≤ m := h
  have : (10 : Nat) ^ 60 = 1000000000000000000000000000000000000000000000000000000000000 := by decide
  omega
theorem LtR.of {m : Int} {r : Rg} (h : RgIn m r) (hm : m ≤ 10000000000000000000000000000000000000000) : LtR r := by
  match r, h with
  | none, _ => trivial
  | some (l, u), ⟨a, b⟩ => exact ⟨.of a hm, .of b hm⟩
theorem far_lt {m k : Int} {r : Rg} (h : RgIn m r) (hm : m ≤ 10000000000000000000000000000000000000000) (hk : k.natAbs ≤ 10000000000000000000000000000000000000000) : LtR (farR k r) := by
  have T : (10 : Nat) ^ 60 = 1000000000000000000000000000000000000000000000000000000000000 := by decide
  have one : ∀ o : Option Int, BdOk m o → LtO (farO k o) := fun o a i e => by
    cases o with
    | none => cases e
    | some x =>
      have e' : x + k = i := Option.some.inj e
      have a' : -m ≤ x ∧ x ≤ m := a
      omega
  match r, h with
  | none, _ => trivial
  | some (l, u), ⟨a, b⟩ => exact ⟨one l a, one u b⟩


theorem map_get {α β : Type} {f : α → β} {cs : List α} {i : Nat} {y : β} (h : (cs.map f)[i]? = some y) : ∃ c, cs[i]? = some c ∧ y = f c := by
  rw [List.getElem?_map] at h
  cases e : cs[i]? with
  | none => rw [e] at h; cases h
  | some c =>
    rw [e] at h
    exact ⟨c, rfl, (Option.some.inj h).symm⟩
/-- the word of each class -/
def wordOf : Nat → Str
  | 1 => "range" | 2 => "name" | 3 => "system" | 4 => "rule" | 5 => "unknown" | 6 => "number" | 7 => "move" | 8 => "undo" | _ => "text"
def askedOf (i : Nat) : List (Str × Bool) := [("range", decide (i = 1)), ("name", decide (i = 2)), ("system", decide (i = 3)), ("rule", decide (i = 4)), ("unknown", decide (i = 5)), ("move", decide (i = 7)), ("undo", decide (i = 8)), ("text", decide (i = 9)), ("number", decide (i = 6))]
theorem asked_one {i : Nat} (h0 : 1 ≤ i) (h1 : i ≤ 9) : ((askedOf i).filter (·.2)).map (·.1) = [wordOf i] := by
  have : i = 1 ∨ i = 2 ∨ i = 3 ∨ i = 4 ∨ i = 5 ∨ i = 6 ∨ i = 7 ∨ i = 8 ∨ i = 9 := by omega
  rcases this with rfl | rfl | rfl | rfl | rfl | rfl | rfl | rfl | rfl <;> decide +kernel
/-- pairs of words and answers -/
def PrsAt (H : Hp) (ts : List Addr) (ps : List (Str × Bool)) : Prop := PySem.Paired (fun t (p : Str × Bool) => H t = some (.tup [.str p.1, .bl p.2])) ts ps
theorem PrsAt.same {H H' : Hp} (k : Same H H') : ∀ {ts : List Addr} {ps : List (Str × Bool)}, PrsAt H ts ps → PrsAt H' ts ps
  | _, _, .nil => .nil
  | _, _, .cons a b => .cons (k _ _ a) (PrsAt.same k b)
theorem PrsAt.app {H : Hp} : ∀ {ts us : List Addr} {ps qs : List (Str × Bool)}, PrsAt H ts ps → PrsAt H us qs → PrsAt H (ts ++ us) (ps ++ qs)
  | _, _, _, _, .nil, b => b
  | _, _, _, _, .cons a c, b => .cons a (PrsAt.app c b)
theorem PrsAt.get {H : Hp} : ∀ {ts : List Addr} {ps : List (Str × Bool)} {i : Nat} {t : Addr}, PrsAt H ts ps → ts[i]? = some t → ∃ p, ps[i]? = some p ∧ H t = some (.tup [.str p.1, .bl p.2])
  | _, _, 0, _, .cons a b, e => by cases e; exact ⟨_, rfl, a⟩
  | _, _, i + 1, _, .cons a b, e => PrsAt.get (i := i) b e
theorem PrsAt.len {H : Hp} : ∀ {ts : List Addr} {ps : List (Str × Bool)}, PrsAt H ts ps → ts.length = ps.length
  | _, _, .nil => rfl
  | _, _, .cons a b => by simp [PrsAt.len b]
def sp__law_caught (K : PySem.W.Frag) (cs : List Addr) : SpE := fun a cls d vs H Q _ => ∃ i c dd v, vs = [.ref a] ∧ cls = .ref c ∧ d = some dd ∧ 1 ≤ i ∧ i ≤ 9 ∧ cs[i]? = some c ∧ H dd = some (.xd [("value", v)]) ∧
  ∀ t H', Same H H' → H t = none → H' t = some (.tup [.str (wordOf i), v]) → Q (.ref t) H'

theorem same_none {H H' : Hp} {l : Addr} (k : Same H H') (e : H' l = none) : H l = none := by
  cases z : H l with
  | none => rfl
  | some o => rw [k _ _ z] at e; cases e
theorem errT_exm {K : PySem.W.Frag} {mg : Str → Option Value} {cs : List Addr} {ns : List Str} {fI c c0 : Addr} {i : Nat} (X : ErrT K mg cs ns fI) (hi : cs[i]? = some c) (h0 : cs[0]? = some c0) (n : i ≠ 0) :
    PySem.W.exmOne K (.ref c) (.ref c0) = some true := by
  have l0 : 0 < ns.length := by
    rw [← X.len]
    exact (List.getElem?_eq_some_iff.mp h0).1
  have T0 := X.t 0 c0 _ h0 (List.getElem?_eq_getElem l0)
  have ne : c ≠ c0 := fun z => by
    subst z
    have a := X.sub 0 i _ _ h0 hi
    rw [decide_eq_false (fun z => z.elim (fun q => n q.symm) n)] at a
    unfold PySem.W.kitOne at a
    rw [if_pos (by simp)] at a
    cases a
  have b := X.sub i 0 _ _ hi h0
  rw [decide_eq_true (.inr rfl)] at b
  unfold PySem.W.kitOne at b
  rw [if_neg (by simpa using ne)] at b
  unfold PySem.W.exmOne
  rw [T0.ox.exC]
  exact b
/-- the range that is refused, where door 4 looks at the first one alone -/
def badV (t : Int) (v1 v2 : V) (r1 r2 : Rg) : Option V := if up r1 = true then some v1 else if t < 4 then (if up r2 = true then some v2 else none) else none
def ToldE (H H' : Hp) (v : V) : Option V → Prop
  | none => v = .str "fine"
  | some b => ∃ a, v = .ref a ∧ H a = none ∧ H' a = some (.tup [.str "range", b])
def sp__law_raised (K : PySem.W.Frag) (cs : List Addr) : Sp := fun vs H Q _ => ∃ t v1 v2 r1 r2, vs = [.int t, v1, v2] ∧ 0 ≤ t ∧ t ≤ 4 ∧ RgV K H v1 r1 ∧ RgV K H v2 r2 ∧ SzR r1 ∧
  ∀ v H', Same H H' → ToldE H H' v (badV t v1 v2 r1 r2) → Q v H'

theorem bd_mono {a b : Int} (h : a ≤ b) {o : Option Int} (i : BdOk a o) : BdOk b o := by
  match o, i with
  | none, _ => trivial
  | some x, i =>
    have i' : -a ≤ x ∧ x ≤ a := i
    exact ⟨by omega, by omega⟩
theorem rgIn_mono {a b : Int} (h : a ≤ b) {r : Rg} (i : RgIn a r) : RgIn b r := by
  match r, i with
  | none, _ => trivial
  | some (x, y), i => exact ⟨bd_mono h i.1, bd_mono h i.2⟩
def sp__law_odd (K : PySem.W.Frag) : Sp := fun vs H Q _ => ∃ g n, vs = [.ref g] ∧ RS n H g ∧ n ≤ 700000 ∧ ∀ v r H', RgIn (10 ^ 31) r → Kp g H H' → RS (n + 12) H' g → RgV K H' v r → Q v H'

theorem noL_rg (r : Rg) : NoL (rgD r) := by
  match r with
  | none => exact .non
  | some (l, u) =>
    refine .tup fun d m => ?_
    rcases List.mem_cons.mp m with rfl | m
    · cases l
      · exact .non
      · exact .int _
    rcases List.mem_cons.mp m with rfl | m
    · cases u
      · exact .non
      · exact .int _
    · exact absurd m (by simp)
theorem lyA_of : ∀ {k : Nat} {ds : List PyData}, (∀ d ∈ ds, Ly k d) → LyAll k ds
  | k, [], _ => LyAll.nil.mono (Nat.zero_le _)
  | k, d :: ds, h => by
    have z := LyAll.cons (h d (by simp)) (lyA_of (k := k) (ds := ds) fun x m => h x (by simp [m]))
    rw [Nat.max_self] at z
    exact z
theorem ly_oD (o : Option Int) : Ly 1 (oD o) := by
  cases o with
  | none => exact .none
  | some i => exact .int i
theorem ly_rg (r : Rg) : Ly 2 (rgD r) := by
  match r with
  | none => exact Ly.none.mono (by decide)
  | some (l, u) =>
    refine Ly.tuple (k := 1) (lyA_of fun d m => ?_)
    simp only [List.mem_cons, List.not_mem_nil, or_false] at m
    rcases m with rfl | rfl
    · exact ly_oD l
    · exact ly_oD u
theorem sNeF {x : Str} : V.bl (!decide (V.str x = V.str x)) = V.bl false := by rw [decide_eq_true rfl]; rfl
theorem RgV.kpD {K : PySem.W.Frag} {H H' : Hp} {a : Addr} {v : V} {r : Rg} {ys : List V} (k : Kp a H H') (l : H a = some (.lst ys)) (h : RgV K H v r) : RgV K H' v r := RgV.kpl k l h
/-- what is due where b is refused -/
def dueE : Option Rg → PyData
  | none => .str "fine"
  | some r => .tuple [.str "range", rgD r]
theorem dueE_ly (b : Option Rg) : Ly 3 (dueE b) := by
  match b with
  | none => exact Ly.mono ⟨by decide +kernel, by decide +kernel⟩ (by decide : 1 ≤ 3)
  | some r =>
    refine Ly.tuple (lyA_of fun d m => ?_)
    simp only [List.mem_cons, List.not_mem_nil, or_false] at m
    rcases m with rfl | rfl
    · exact Ly.mono ⟨by decide +kernel, by decide +kernel⟩ (by decide : 1 ≤ 2)
    · exact ly_rg r
theorem dueE_noL (b : Option Rg) : NoL (dueE b) := by
  match b with
  | none => exact .str _
  | some r =>
    refine .tup fun d m => ?_
    simp only [List.mem_cons, List.not_mem_nil, or_false] at m
    rcases m with rfl | rfl
    · exact .str _
    · exact noL_rg r
theorem dueE_ok {b : Option Rg} (h : ∀ r, b = some r → LtR r) : DOk 30 4 (dueE b) := by
  match b, h with
  | none, _ => exact (DOk.str (by decide +kernel) (by decide +kernel) (by decide +kernel)).mono (by decide) (by decide)
  | some r, h =>
    have a : DOk 20 1 (.str "range") := DOk.str (by decide +kernel) (by decide +kernel) (by decide +kernel)
    have z := DOk.tuple (.cons a (.cons (dok_rg (h r rfl)) .nil))
    exact z.mono (by decide) (by decide)
theorem told_dp {K : PySem.W.Frag} {H H' : Hp} {v : V} {b : Option V} {o : Option Rg} (h : ToldE H H' v b) (e : (b = none ∧ o = none) ∨ ∃ w r, b = some w ∧ o = some r ∧ RgV K H' w r) : Dp K H' v (dueE o) := by
  rcases e with ⟨rfl, rfl⟩ | ⟨w, r, rfl, rfl, rv⟩
  · have z : v = .str "fine" := h
    subst z
    exact .str _
  · obtain ⟨a, rfl, _, e⟩ := h
    exact .tup (.inl (.inl e)) (.cons (.str _) (.cons (dp_rg rv) .nil))
def sp_law (K : PySem.W.Frag) : Sp := fun vs H Q _ => ∃ (a : Addr) (ns : List Int), vs = [.ref a] ∧ SqL K H a (ns.map V.int) ∧ ns.length ≤ 63 ∧ ∀ H', Q (.bl true) H'

end Pk04

namespace Pk04
open PySem PySem.Spec PyProof.Rows L2 Gd
section
variable {P : Program} {w : World} {K : PySem.W.Frag} {mg : Str → Option Value} {base : Heap}
set_option maxHeartbeats 8000000 in
-- is_upside_down: level 1; builtins []; cells []; slots: 0 one, 1 low, 2 high
theorem ok_is_upside_down (h : At K mg "is_upside_down" s_is_upside_down ["one"]) : Dn P w K mg base 1 "is_upside_down" s_is_upside_down ["one"] (sp_is_upside_down K) := by
  refine .mk' h fun f fd F => F.ok sc_is_upside_down (fun vs H Q E h => ?_) (fun cdv A outer s H vs Q E hr h => ?_)
  · obtain ⟨v, r, rfl, hv, q⟩ := h
    rfl
  · obtain ⟨v, r, rfl, hv, q⟩ := h
    refine ⟨_, (pss_cons (ps_if (pt_cmpR op_isN (pv 0) pe_non (nomark _))
        (pss_one (ps_ret pe_bl))
        pss_nil)
      (pss_cons (ps_asg (pv 0) (pg_tup (by rfl) (pgs_cons (pg_name (i := 1) sc_is_upside_down.nd rfl (.inl rfl)) (pgs_cons (pg_name (i := 2) sc_is_upside_down.nd rfl (.inl rfl)) pgs_nil))))
      (pss_one (ps_ret (pe_and (pe_cmpR op_notN (pv 1) pe_non (nomark _)) (pe_and (pe_cmpR op_notN (pv 2) pe_non (nomark _)) (pe_one (pe_cmpR op_gt (pv 1) (pv 2) (nomark _))))))))), ?_⟩
    match r, hv with
    | none, hv =>
      have e : v = .non := hv
      subst e
      exact ⟨_, rfl, rfl, _, rfl, iteT q⟩
    | some (l, u), hv =>
      obtain ⟨p, rfl, s⟩ := hv
      refine ⟨_, rfl, rfl, _, rfl, iteF ?_⟩
      refine ⟨_, rfl, p, _, rfl, s, rfl, _, _, rfl, _, _, rfl, rfl, ?_⟩
      match l, u with
      | none, _ => exact ⟨_, rfl, rfl, _, rfl, iteF q⟩
      | some l, none => exact ⟨_, rfl, rfl, _, rfl, iteT ⟨_, rfl, rfl, _, rfl, iteF q⟩⟩
      | some l, some u => exact ⟨_, rfl, rfl, _, rfl, iteT ⟨_, rfl, rfl, _, rfl, iteT ⟨_, rfl, _, rfl, _, _, rfl, rfl, q⟩⟩⟩
end

end Pk04
namespace Pk04
open PySem PySem.Spec PyProof.Rows L2 Gd
section
variable {P : Program} {w : World} {K : PySem.W.Frag} {mg : Str → Option Value} {base : Heap}
set_option maxHeartbeats 8000000 in
-- check_range: level 3; builtins []; cells []; slots: 0 one
theorem ok_check_range {c0 c1 c2 c3 c4 c5 c6 c7 c8 c9 fI : Addr} (X : ErrT K mg [c0, c1, c2, c3, c4, c5, c6, c7, c8, c9] ["RangeError", "InvalidRange", "InvalidName", "InvalidSystem", "InvalidRule", "UnknownName", "InvalidNumber", "InvalidMove", "NothingToUndo", "Unreadable"] fI) (h : At K mg "check_range" s_check_range ["one"]) (D_RangeError___init__ : DnI P w K mg base 1 fI "RangeError.__init__" s_RangeError___init__ ["self", "value"] (spIni K)) (kI_value : ∀ fd, Fun K "__init__" "RangeError.__init__" s_RangeError___init__ fI fd → ∀ (s : Shared) (a u : Value), BindsTo s fd ⟨[a], [("value", u)]⟩ ((["self", "value"] : List Str).zip [a, u])) (D_is_upside_down : Dn P w K mg base 1 "is_upside_down" s_is_upside_down ["one"] (sp_is_upside_down K)) : DnN P w K mg base 3 "check_range" s_check_range ["one"] (sp_check_range K [c0, c1, c2, c3, c4, c5, c6, c7, c8, c9]) := by
  refine .mk' h fun f fd F => okN F sc_check_range (fun vs H Q E h => ?_) (fun cdv A outer s H vs Q E hr h => ?_)
  · obtain ⟨v, r, rfl, hv, q, e⟩ := h
    rfl
  · obtain ⟨v, r, rfl, hv, q, e⟩ := h
    refine ⟨_, (pss_one (ps_if (pt_val (pe_c D_is_upside_down hr (by rfl) (pa_cons (pv 0) pa_nil)))
        (pss_one (ps_raiseN rfl (X.t 1 _ _ rfl rfl) D_RangeError___init__ hr (L2N.takes_of rfl rfl rfl rfl) (by rfl) (pa_cons (pv 0) pa_nil)))
        pss_nil)), ?_⟩
    refine ⟨_, rfl, v, r, rfl, hv, ?_⟩
    cases ho : up r with
    | false => exact ⟨_, rfl, iteF (q ho)⟩
    | true =>
      have T1 := X.t 1 _ _ rfl rfl
      obtain ⟨c, ec, e⟩ := e ho
      obtain rfl := Option.some.inj ec
      exact ⟨_, rfl, iteT ⟨_, rfl, by show 1 ≤ 1000; decide, mk_raise T1.ox T1.nV e⟩⟩
end

end Pk04
namespace Pk04
open PySem PySem.Spec PyProof.Rows L2 Gd
section
variable {P : Program} {w : World} {K : PySem.W.Frag} {mg : Str → Option Value} {base : Heap}
set_option maxHeartbeats 8000000 in
-- _least: level 1; builtins ['min']; cells []; slots: 0 one, 1 other
theorem ok__least (h : At K mg "_least" s__least ["one", "other"]) (m_min : mg "min" = none) : Dn P w K mg base 1 "_least" s__least ["one", "other"] (sp__least K) := by
  refine .mk' h fun f fd F => F.ok sc__least (fun vs H Q E h => ?_) (fun cdv A outer s H vs Q E hr h => ?_)
  · obtain ⟨a, b, rfl, q⟩ := h
    rfl
  · obtain ⟨a, b, rfl, q⟩ := h
    refine ⟨_, (pss_cons (ps_if (pt_cmpR op_isN (pv 0) pe_non (nomark _))
        (pss_one (ps_ret (pv 1)))
        pss_nil)
      (pss_one (ps_ret (pe_ifExp (pt_cmpR op_isN (pv 1) pe_non (nomark _)) (pv 0) (pe_callB (call_min2 rfl) (by rfl) m_min (by decide +kernel) (pa_cons (pv 0) (pa_cons (pv 1) pa_nil))))))), ?_⟩
    match a, b with
    | none, b => exact ⟨_, rfl, rfl, _, rfl, iteT ⟨_, rfl, q⟩⟩
    | some a, none => exact ⟨_, rfl, rfl, _, rfl, iteF ⟨_, rfl, rfl, _, rfl, iteT ⟨_, rfl, q⟩⟩⟩
    | some a, some b => exact ⟨_, rfl, rfl, _, rfl, iteF ⟨_, rfl, rfl, _, rfl, iteF ⟨_, rfl, _, rfl, _, _, rfl, q⟩⟩⟩
end

end Pk04
namespace Pk04
open PySem PySem.Spec PyProof.Rows L2 Gd
section
variable {P : Program} {w : World} {K : PySem.W.Frag} {mg : Str → Option Value} {base : Heap}
set_option maxHeartbeats 8000000 in
-- _greatest: level 1; builtins ['max']; cells []; slots: 0 one, 1 other
theorem ok__greatest (h : At K mg "_greatest" s__greatest ["one", "other"]) (m_max : mg "max" = none) : Dn P w K mg base 1 "_greatest" s__greatest ["one", "other"] (sp__greatest K) := by
  refine .mk' h fun f fd F => F.ok sc__greatest (fun vs H Q E h => ?_) (fun cdv A outer s H vs Q E hr h => ?_)
  · obtain ⟨a, b, rfl, q⟩ := h
    rfl
  · obtain ⟨a, b, rfl, q⟩ := h
    refine ⟨_, (pss_cons (ps_if (pt_cmpR op_isN (pv 0) pe_non (nomark _))
        (pss_one (ps_ret (pv 1)))
        pss_nil)
      (pss_one (ps_ret (pe_ifExp (pt_cmpR op_isN (pv 1) pe_non (nomark _)) (pv 0) (pe_callB (call_max2 rfl) (by rfl) m_max (by decide +kernel) (pa_cons (pv 0) (pa_cons (pv 1) pa_nil))))))), ?_⟩
    match a, b with
    | none, b => exact ⟨_, rfl, rfl, _, rfl, iteT ⟨_, rfl, q⟩⟩
    | some a, none => exact ⟨_, rfl, rfl, _, rfl, iteF ⟨_, rfl, rfl, _, rfl, iteT ⟨_, rfl, q⟩⟩⟩
    | some a, some b => exact ⟨_, rfl, rfl, _, rfl, iteF ⟨_, rfl, rfl, _, rfl, iteF ⟨_, rfl, _, rfl, _, _, rfl, q⟩⟩⟩
end

end Pk04
namespace Pk04
open PySem PySem.Spec PyProof.Rows L2 Gd
section
variable {P : Program} {w : World} {K : PySem.W.Frag} {mg : Str → Option Value} {base : Heap}
set_option maxHeartbeats 8000000 in
-- common: level 4; builtins []; cells []; slots: 0 one, 1 other, 2 both
theorem ok_common {c0 c1 c2 c3 c4 c5 c6 c7 c8 c9 fI : Addr} (X : ErrT K mg [c0, c1, c2, c3, c4, c5, c6, c7, c8, c9] ["RangeError", "InvalidRange", "InvalidName", "InvalidSystem", "InvalidRule", "UnknownName", "InvalidNumber", "InvalidMove", "NothingToUndo", "Unreadable"] fI) (h : At K mg "common" s_common ["one", "other"]) (D__greatest : Dn P w K mg base 1 "_greatest" s__greatest ["one", "other"] (sp__greatest K)) (D__least : Dn P w K mg base 1 "_least" s__least ["one", "other"] (sp__least K)) (D_check_range : DnN P w K mg base 3 "check_range" s_check_range ["one"] (sp_check_range K [c0, c1, c2, c3, c4, c5, c6, c7, c8, c9])) (D_is_upside_down : Dn P w K mg base 1 "is_upside_down" s_is_upside_down ["one"] (sp_is_upside_down K)) : DnN P w K mg base 4 "common" s_common ["one", "other"] (sp_common K [c0, c1, c2, c3, c4, c5, c6, c7, c8, c9]) := by
  refine .mk' h fun f fd F => okN F sc_common (fun vs H Q E h => ?_) (fun cdv A outer s H vs Q E hr h => ?_)
  · obtain ⟨v1, v2, r1, r2, rfl, h1, h2, q, e1, e2⟩ := h
    rfl
  · obtain ⟨v1, v2, r1, r2, rfl, h1, h2, q, e1, e2⟩ := h
    refine ⟨_, (pss_cons (ps_expr (pe_cN (L2N.takes_of rfl rfl rfl rfl) D_check_range hr (by rfl) (pa_cons (pv 0) pa_nil)))
      (pss_cons (ps_expr (pe_cN (L2N.takes_of rfl rfl rfl rfl) D_check_range hr (by rfl) (pa_cons (pv 1) pa_nil)))
      (pss_cons (ps_if (PW.pt (pw_or (pt_cmpR op_isN (pv 0) pe_non (nomark _)) (pw_or1 (pt_cmpR op_isN (pv 1) pe_non (nomark _)))))
        (pss_one (ps_ret pe_non))
        pss_nil)
      (pss_cons (ps_set (i := 2) sc_common.nd rfl (.inl rfl) (pe_tup (pa_cons (pe_c D__greatest hr (by rfl) (pa_cons (pe_ix ix_tup (pv 0) pe_int (fun _ _ => rfl)) (pa_cons (pe_ix ix_tup (pv 1) pe_int (fun _ _ => rfl)) pa_nil))) (pa_cons (pe_c D__least hr (by rfl) (pa_cons (pe_ix ix_tup (pv 0) pe_int (fun _ _ => rfl)) (pa_cons (pe_ix ix_tup (pv 1) pe_int (fun _ _ => rfl)) pa_nil))) pa_nil))))
      (pss_one (ps_ret (pe_ifExp (pt_val (pe_c D_is_upside_down hr (by rfl) (pa_cons (pv 2) pa_nil))) pe_non (pv 2)))))))), ?_⟩
    refine ⟨_, rfl, v1, r1, rfl, h1, fun o1 => ?_, fun o1 => e1 o1⟩
    refine ⟨_, rfl, v2, r2, rfl, h2, fun o2 => ?_, fun o2 => e2 o1 o2⟩
    replace q := q o1 o2
    clear e1 e2 o1 o2
    match r1, r2, h1, h2, q with
    | none, _, h1, _, q =>
      have e : v1 = .non := h1
      subst e
      exact ⟨_, rfl, rfl, _, rfl, iteT (iteT (q _ _ (Same.refl _) rfl))⟩
    | some (l1, u1), none, h1, h2, q =>
      obtain ⟨p1, rfl, s1⟩ := h1
      have e : v2 = .non := h2
      subst e
      exact ⟨_, rfl, rfl, _, rfl, iteF ⟨_, rfl, rfl, _, rfl, iteT (q _ _ (Same.refl _) rfl)⟩⟩
    | some (l1, u1), some (l2, u2), h1, h2, q =>
      obtain ⟨p1, rfl, s1⟩ := h1
      obtain ⟨p2, rfl, s2⟩ := h2
      refine ⟨_, rfl, rfl, _, rfl, iteF ⟨_, rfl, rfl, _, rfl, iteF ?_⟩⟩
      -- both = (.., ..)
      refine ⟨_, rfl, p1, _, 0, _, rfl, rfl, s1, atI_nat (j := 0) rfl, _, rfl, p2, _, 0, _, rfl, rfl, s2, atI_nat (j := 0) rfl, l1, l2, rfl, ?_⟩
      refine ⟨_, rfl, p1, _, 1, _, rfl, rfl, s1, atI_nat (j := 1) rfl, _, rfl, p2, _, 1, _, rfl, rfl, s2, atI_nat (j := 1) rfl, u1, u2, rfl, ?_⟩
      refine ⟨by show 2 ≤ sizeLine; decide, fun p np => ?_⟩
      have sb : SqT K (upd H p (.tup [ov (gr l1 l2), ov (le2 u1 u2)])) p [ov (gr l1 l2), ov (le2 u1 u2)] := .inl (.inl upd_same)
      have rb : RgV K (upd H p (.tup [ov (gr l1 l2), ov (le2 u1 u2)])) (.ref p) (some (gr l1 l2, le2 u1 u2)) := ⟨p, rfl, sb⟩
      refine ⟨_, rfl, .ref p, _, rfl, rb, _, rfl, ?_⟩
      have qq : ∀ v, RgV K (upd H p (.tup [ov (gr l1 l2), ov (le2 u1 u2)])) v (if up (some (gr l1 l2, le2 u1 u2)) = true then none else some (gr l1 l2, le2 u1 u2)) →
        Q v (upd H p (.tup [ov (gr l1 l2), ov (le2 u1 u2)])) := fun v => q v _ (Same.new np)
      cases c : up (some (gr l1 l2, le2 u1 u2)) with
      | true =>
        rw [c] at qq
        exact iteT (qq _ rfl)
      | false =>
        rw [c] at qq
        exact iteF ⟨_, rfl, qq _ rb⟩
end

end Pk04
namespace Pk04
open PySem PySem.Spec PyProof.Rows L2 Gd
section
variable {P : Program} {w : World} {K : PySem.W.Frag} {mg : Str → Option Value} {base : Heap}
set_option maxHeartbeats 8000000 in
-- meets: level 5; builtins []; cells []; slots: 0 one, 1 other
theorem ok_meets {c0 c1 c2 c3 c4 c5 c6 c7 c8 c9 fI : Addr} (X : ErrT K mg [c0, c1, c2, c3, c4, c5, c6, c7, c8, c9] ["RangeError", "InvalidRange", "InvalidName", "InvalidSystem", "InvalidRule", "UnknownName", "InvalidNumber", "InvalidMove", "NothingToUndo", "Unreadable"] fI) (h : At K mg "meets" s_meets ["one", "other"]) (D_common : DnN P w K mg base 4 "common" s_common ["one", "other"] (sp_common K [c0, c1, c2, c3, c4, c5, c6, c7, c8, c9])) : DnN P w K mg base 5 "meets" s_meets ["one", "other"] (sp_meets K [c0, c1, c2, c3, c4, c5, c6, c7, c8, c9]) := by
  refine .mk' h fun f fd F => okN F sc_meets (fun vs H Q E h => ?_) (fun cdv A outer s H vs Q E hr h => ?_)
  · obtain ⟨v1, v2, r1, r2, rfl, h1, h2, q, e1, e2⟩ := h
    rfl
  · obtain ⟨v1, v2, r1, r2, rfl, h1, h2, q, e1, e2⟩ := h
    refine ⟨_, (pss_one (ps_ret (pe_cmpR op_notN (pe_cN (L2N.takes_of rfl rfl rfl rfl) D_common hr (by rfl) (pa_cons (pv 0) (pa_cons (pv 1) pa_nil))) pe_non (nomark _)))), ?_⟩
    refine ⟨_, rfl, _, rfl, v1, v2, r1, r2, rfl, h1, h2, fun o1 o2 v H' sm hv => ?_, e1, e2⟩
    replace q := q o1 o2
    refine ⟨rfl, ?_⟩
    cases c : comR r1 r2 with
    | none =>
      rw [c] at hv q
      have e : v = .non := hv
      subst e
      exact q H' sm
    | some r =>
      rw [c] at hv q
      obtain ⟨p, rfl, s⟩ := hv
      exact q H' sm
end

end Pk04
namespace Pk04
open PySem PySem.Spec PyProof.Rows L2 Gd
section
variable {P : Program} {w : World} {K : PySem.W.Frag} {mg : Str → Option Value} {base : Heap}
set_option maxHeartbeats 8000000 in
-- lies_within: level 5; builtins []; cells []; slots: 0 one, 1 other
theorem ok_lies_within {c0 c1 c2 c3 c4 c5 c6 c7 c8 c9 fI : Addr} (X : ErrT K mg [c0, c1, c2, c3, c4, c5, c6, c7, c8, c9] ["RangeError", "InvalidRange", "InvalidName", "InvalidSystem", "InvalidRule", "UnknownName", "InvalidNumber", "InvalidMove", "NothingToUndo", "Unreadable"] fI) (h : At K mg "lies_within" s_lies_within ["one", "other"]) (D_common : DnN P w K mg base 4 "common" s_common ["one", "other"] (sp_common K [c0, c1, c2, c3, c4, c5, c6, c7, c8, c9])) : DnN P w K mg base 5 "lies_within" s_lies_within ["one", "other"] (sp_lies_within K [c0, c1, c2, c3, c4, c5, c6, c7, c8, c9]) := by
  refine .mk' h fun f fd F => okN F sc_lies_within (fun vs H Q E h => ?_) (fun cdv A outer s H vs Q E hr h => ?_)
  · obtain ⟨v1, v2, r1, r2, rfl, h1, h2, q, e1, e2⟩ := h
    rfl
  · obtain ⟨v1, v2, r1, r2, rfl, h1, h2, q, e1, e2⟩ := h
    refine ⟨_, (pss_one (ps_ret (pe_cmpR (op_eqD hr.units) (pe_cN (L2N.takes_of rfl rfl rfl rfl) D_common hr (by rfl) (pa_cons (pv 0) (pa_cons (pv 1) pa_nil))) (pv 0) (nomark _)))), ?_⟩
    refine ⟨_, rfl, _, rfl, v1, v2, r1, r2, rfl, h1, h2, fun o1 o2 v H' sm hv => ?_, e1, e2⟩
    replace q := q o1 o2
    refine ⟨_, rfl, rgD (comR r1 r2), rgD r1, dp_rg hv, dp_rg (h1.same sm), shaped_rgD _, shaped_rgD _, ?_⟩
    rw [eqv_rgD]
    exact q H' sm
end

end Pk04
namespace Pk04
open PySem PySem.Spec PyProof.Rows L2 Gd
section
variable {P : Program} {w : World} {K : PySem.W.Frag} {mg : Str → Option Value} {base : Heap}
set_option maxHeartbeats 8000000 in
-- _least_or_none: level 1; builtins ['min']; cells []; slots: 0 one, 1 other
theorem ok__least_or_none (h : At K mg "_least_or_none" s__least_or_none ["one", "other"]) (m_min : mg "min" = none) : Dn P w K mg base 1 "_least_or_none" s__least_or_none ["one", "other"] (sp__least_or_none K) := by
  refine .mk' h fun f fd F => F.ok sc__least_or_none (fun vs H Q E h => ?_) (fun cdv A outer s H vs Q E hr h => ?_)
  · obtain ⟨a, b, rfl, q⟩ := h
    rfl
  · obtain ⟨a, b, rfl, q⟩ := h
    refine ⟨_, (pss_one (ps_ret (pe_ifExp (PW.pt (pw_or (pt_cmpR op_isN (pv 0) pe_non (nomark _)) (pw_or1 (pt_cmpR op_isN (pv 1) pe_non (nomark _))))) pe_non (pe_callB (call_min2 rfl) (by rfl) m_min (by decide +kernel) (pa_cons (pv 0) (pa_cons (pv 1) pa_nil)))))), ?_⟩
    match a, b with
    | none, b => exact ⟨_, rfl, rfl, _, rfl, iteT (iteT q)⟩
    | some a, none => exact ⟨_, rfl, rfl, _, rfl, iteF ⟨_, rfl, rfl, _, rfl, iteT q⟩⟩
    | some a, some b => exact ⟨_, rfl, rfl, _, rfl, iteF ⟨_, rfl, rfl, _, rfl, iteF ⟨_, rfl, _, rfl, _, _, rfl, q⟩⟩⟩
end

end Pk04
namespace Pk04
open PySem PySem.Spec PyProof.Rows L2 Gd
section
variable {P : Program} {w : World} {K : PySem.W.Frag} {mg : Str → Option Value} {base : Heap}
set_option maxHeartbeats 8000000 in
-- _greatest_or_none: level 1; builtins ['max']; cells []; slots: 0 one, 1 other
theorem ok__greatest_or_none (h : At K mg "_greatest_or_none" s__greatest_or_none ["one", "other"]) (m_max : mg "max" = none) : Dn P w K mg base 1 "_greatest_or_none" s__greatest_or_none ["one", "other"] (sp__greatest_or_none K) := by
  refine .mk' h fun f fd F => F.ok sc__greatest_or_none (fun vs H Q E h => ?_) (fun cdv A outer s H vs Q E hr h => ?_)
  · obtain ⟨a, b, rfl, q⟩ := h
    rfl
  · obtain ⟨a, b, rfl, q⟩ := h
    refine ⟨_, (pss_one (ps_ret (pe_ifExp (PW.pt (pw_or (pt_cmpR op_isN (pv 0) pe_non (nomark _)) (pw_or1 (pt_cmpR op_isN (pv 1) pe_non (nomark _))))) pe_non (pe_callB (call_max2 rfl) (by rfl) m_max (by decide +kernel) (pa_cons (pv 0) (pa_cons (pv 1) pa_nil)))))), ?_⟩
    match a, b with
    | none, b => exact ⟨_, rfl, rfl, _, rfl, iteT (iteT q)⟩
    | some a, none => exact ⟨_, rfl, rfl, _, rfl, iteF ⟨_, rfl, rfl, _, rfl, iteT q⟩⟩
    | some a, some b => exact ⟨_, rfl, rfl, _, rfl, iteF ⟨_, rfl, rfl, _, rfl, iteF ⟨_, rfl, _, rfl, _, _, rfl, q⟩⟩⟩
end

end Pk04
namespace Pk04
open PySem PySem.Spec PyProof.Rows L2 Gd
section
variable {P : Program} {w : World} {K : PySem.W.Frag} {mg : Str → Option Value} {base : Heap}
set_option maxHeartbeats 8000000 in
-- joined: level 4; builtins []; cells []; slots: 0 one, 1 other
theorem ok_joined {c0 c1 c2 c3 c4 c5 c6 c7 c8 c9 fI : Addr} (X : ErrT K mg [c0, c1, c2, c3, c4, c5, c6, c7, c8, c9] ["RangeError", "InvalidRange", "InvalidName", "InvalidSystem", "InvalidRule", "UnknownName", "InvalidNumber", "InvalidMove", "NothingToUndo", "Unreadable"] fI) (h : At K mg "joined" s_joined ["one", "other"]) (D__greatest_or_none : Dn P w K mg base 1 "_greatest_or_none" s__greatest_or_none ["one", "other"] (sp__greatest_or_none K)) (D__least_or_none : Dn P w K mg base 1 "_least_or_none" s__least_or_none ["one", "other"] (sp__least_or_none K)) (D_check_range : DnN P w K mg base 3 "check_range" s_check_range ["one"] (sp_check_range K [c0, c1, c2, c3, c4, c5, c6, c7, c8, c9])) : DnN P w K mg base 4 "joined" s_joined ["one", "other"] (sp_joined K [c0, c1, c2, c3, c4, c5, c6, c7, c8, c9]) := by
  refine .mk' h fun f fd F => okN F sc_joined (fun vs H Q E h => ?_) (fun cdv A outer s H vs Q E hr h => ?_)
  · obtain ⟨v1, v2, r1, r2, rfl, h1, h2, q, e1, e2⟩ := h
    rfl
  · obtain ⟨v1, v2, r1, r2, rfl, h1, h2, q, e1, e2⟩ := h
    refine ⟨_, (pss_cons (ps_expr (pe_cN (L2N.takes_of rfl rfl rfl rfl) D_check_range hr (by rfl) (pa_cons (pv 0) pa_nil)))
      (pss_cons (ps_expr (pe_cN (L2N.takes_of rfl rfl rfl rfl) D_check_range hr (by rfl) (pa_cons (pv 1) pa_nil)))
      (pss_cons (ps_if (pt_cmpR op_isN (pv 0) pe_non (nomark _))
        (pss_one (ps_ret (pv 1)))
        pss_nil)
      (pss_cons (ps_if (pt_cmpR op_isN (pv 1) pe_non (nomark _))
        (pss_one (ps_ret (pv 0)))
        pss_nil)
      (pss_one (ps_ret (pe_tup (pa_cons (pe_c D__least_or_none hr (by rfl) (pa_cons (pe_ix ix_tup (pv 0) pe_int (fun _ _ => rfl)) (pa_cons (pe_ix ix_tup (pv 1) pe_int (fun _ _ => rfl)) pa_nil))) (pa_cons (pe_c D__greatest_or_none hr (by rfl) (pa_cons (pe_ix ix_tup (pv 0) pe_int (fun _ _ => rfl)) (pa_cons (pe_ix ix_tup (pv 1) pe_int (fun _ _ => rfl)) pa_nil))) pa_nil))))))))), ?_⟩
    refine ⟨_, rfl, v1, r1, rfl, h1, fun o1 => ?_, fun o1 => e1 o1⟩
    refine ⟨_, rfl, v2, r2, rfl, h2, fun o2 => ?_, fun o2 => e2 o1 o2⟩
    replace q := q o1 o2
    clear e1 e2 o1 o2
    match r1, r2, h1, h2, q with
    | none, r2, h1, h2, q =>
      have e : v1 = .non := h1
      subst e
      have q' : ∀ v H', Same H H' → RgV K H' v r2 → Q v H' := by
        cases r2 <;> exact q
      exact ⟨_, rfl, rfl, _, rfl, iteT ⟨_, rfl, q' _ _ (Same.refl _) h2⟩⟩
    | some (l1, u1), none, h1, h2, q =>
      obtain ⟨p1, rfl, s1⟩ := h1
      have e : v2 = .non := h2
      subst e
      exact ⟨_, rfl, rfl, _, rfl, iteF ⟨_, rfl, rfl, _, rfl, iteT ⟨_, rfl, q _ _ (Same.refl _) ⟨p1, rfl, s1⟩⟩⟩⟩
    | some (l1, u1), some (l2, u2), h1, h2, q =>
      obtain ⟨p1, rfl, s1⟩ := h1
      obtain ⟨p2, rfl, s2⟩ := h2
      refine ⟨_, rfl, rfl, _, rfl, iteF ⟨_, rfl, rfl, _, rfl, iteF ?_⟩⟩
      refine ⟨_, rfl, p1, _, 0, _, rfl, rfl, s1, atI_nat (j := 0) rfl, _, rfl, p2, _, 0, _, rfl, rfl, s2, atI_nat (j := 0) rfl, l1, l2, rfl, ?_⟩
      refine ⟨_, rfl, p1, _, 1, _, rfl, rfl, s1, atI_nat (j := 1) rfl, _, rfl, p2, _, 1, _, rfl, rfl, s2, atI_nat (j := 1) rfl, u1, u2, rfl, ?_⟩
      exact ⟨by show 2 ≤ sizeLine; decide, fun p np => q _ _ (Same.new np) ⟨p, rfl, .inl (.inl upd_same)⟩⟩
end

end Pk04
namespace Pk04
open PySem PySem.Spec PyProof.Rows L2 Gd
section
variable {P : Program} {w : World} {K : PySem.W.Frag} {mg : Str → Option Value} {base : Heap}
set_option maxHeartbeats 8000000 in
-- _taken: level 1; builtins []; cells []; slots: 0 bound, 1 factor, 2 add
theorem ok__taken (h : At K mg "_taken" s__taken ["bound", "factor", "add"]) : Dn P w K mg base 1 "_taken" s__taken ["bound", "factor", "add"] (sp__taken K) := by
  refine .mk' h fun f fd F => F.ok sc__taken (fun vs H Q E h => ?_) (fun cdv A outer s H vs Q E hr h => ?_)
  · obtain ⟨o, f, a, rfl, so, sf, q⟩ := h
    rfl
  · obtain ⟨o, f, a, rfl, so, sf, q⟩ := h
    refine ⟨_, (pss_one (ps_ret (pe_ifExp (pt_cmpR op_isN (pv 0) pe_non (nomark _)) pe_non (pe_op op_add (pe_op op_mulW (pv 1) (pv 0)) (pv 2))))), ?_⟩
    match o, so with
    | none, _ => exact ⟨_, rfl, rfl, _, rfl, iteT q⟩
    | some x, so => exact ⟨_, rfl, rfl, _, rfl, iteF ⟨_, rfl, _, rfl, _, _, rfl, rfl, wide_mul sf (so x rfl) (by decide) (by decide) (by decide), _, rfl, _, _, rfl, rfl, q⟩⟩
end

end Pk04
namespace Pk04
open PySem PySem.Spec PyProof.Rows L2 Gd
section
variable {P : Program} {w : World} {K : PySem.W.Frag} {mg : Str → Option Value} {base : Heap}
set_option maxHeartbeats 8000000 in
-- stepped: level 4; builtins []; cells []; slots: 0 one, 1 factor, 2 add, 3 ends
theorem ok_stepped {c0 c1 c2 c3 c4 c5 c6 c7 c8 c9 fI : Addr} (X : ErrT K mg [c0, c1, c2, c3, c4, c5, c6, c7, c8, c9] ["RangeError", "InvalidRange", "InvalidName", "InvalidSystem", "InvalidRule", "UnknownName", "InvalidNumber", "InvalidMove", "NothingToUndo", "Unreadable"] fI) (h : At K mg "stepped" s_stepped ["one", "factor", "add"]) (D__taken : Dn P w K mg base 1 "_taken" s__taken ["bound", "factor", "add"] (sp__taken K)) (D_check_range : DnN P w K mg base 3 "check_range" s_check_range ["one"] (sp_check_range K [c0, c1, c2, c3, c4, c5, c6, c7, c8, c9])) : DnN P w K mg base 4 "stepped" s_stepped ["one", "factor", "add"] (sp_stepped K [c0, c1, c2, c3, c4, c5, c6, c7, c8, c9]) := by
  refine .mk' h fun f fd F => okN F sc_stepped (fun vs H Q E h => ?_) (fun cdv A outer s H vs Q E hr h => ?_)
  · obtain ⟨v, r, f, a, rfl, hv, sz, sf, q, e⟩ := h
    rfl
  · obtain ⟨v, r, f, a, rfl, hv, sz, sf, q, e⟩ := h
    refine ⟨_, (pss_cons (ps_expr (pe_cN (L2N.takes_of rfl rfl rfl rfl) D_check_range hr (by rfl) (pa_cons (pv 0) pa_nil)))
      (pss_cons (ps_if (pt_cmpR op_isN (pv 0) pe_non (nomark _))
        (pss_one (ps_ret pe_non))
        pss_nil)
      (pss_cons (ps_set (i := 3) sc_stepped.nd rfl (.inl rfl) (pe_tup (pa_cons (pe_c D__taken hr (by rfl) (pa_cons (pe_ix ix_tup (pv 0) pe_int (fun _ _ => rfl)) (pa_cons (pv 1) (pa_cons (pv 2) pa_nil)))) (pa_cons (pe_c D__taken hr (by rfl) (pa_cons (pe_ix ix_tup (pv 0) pe_int (fun _ _ => rfl)) (pa_cons (pv 1) (pa_cons (pv 2) pa_nil)))) pa_nil))))
      (pss_one (ps_ret (pe_ifExp (pt_cmpR op_gt (pv 1) pe_int (nomark _)) (pv 3) (pe_tup (pa_cons (pe_ix ix_tup (pv 3) pe_int (fun _ _ => rfl)) (pa_cons (pe_ix ix_tup (pv 3) pe_int (fun _ _ => rfl)) pa_nil))))))))), ?_⟩
    refine ⟨_, rfl, v, r, rfl, hv, fun ho => ?_, fun ho => e ho⟩
    replace q := q ho
    clear ho e
    match r, hv, sz, q with
    | none, hv, _, q =>
      have e : v = .non := hv
      subst e
      exact ⟨_, rfl, rfl, _, rfl, iteT (q _ _ (Same.refl _) rfl)⟩
    | some (l, u), hv, ⟨z1, z2⟩, q =>
      obtain ⟨p, rfl, s⟩ := hv
      refine ⟨_, rfl, rfl, _, rfl, iteF ?_⟩
      refine ⟨_, rfl, p, _, 0, _, rfl, rfl, s, atI_nat (j := 0) rfl, _, rfl, _, rfl, l, f, a, rfl, z1, sf, ?_⟩
      refine ⟨_, rfl, p, _, 1, _, rfl, rfl, s, atI_nat (j := 1) rfl, _, rfl, _, rfl, u, f, a, rfl, z2, sf, ?_⟩
      refine ⟨by show 2 ≤ sizeLine; decide, fun t nt => ?_⟩
      have st : SqT K (upd H t (.tup [ov (tk f a l), ov (tk f a u)])) t [ov (tk f a l), ov (tk f a u)] := .inl (.inl upd_same)
      refine ⟨_, rfl, _, _, rfl, rfl, _, rfl, ite2 (fun c => ?_) (fun c => ?_)⟩
      · have c' : f > 0 := of_decide_eq_true c
        refine ⟨_, rfl, q _ _ (Same.new nt) ?_⟩
        show RgV K _ _ (if f > 0 then some (tk f a l, tk f a u) else some (tk f a u, tk f a l))
        rw [if_pos c']
        exact ⟨t, rfl, st⟩
      · have c' : ¬ f > 0 := fun z => c (decide_eq_true z)
        refine ⟨_, rfl, t, _, 1, _, rfl, rfl, st, atI_nat (j := 1) rfl, _, rfl, t, _, 0, _, rfl, rfl, st, atI_nat (j := 0) rfl, by show 2 ≤ sizeLine; decide, fun t2 nt2 => ?_⟩
        refine q _ _ ((Same.new nt).trans (Same.new nt2)) ?_
        show RgV K _ _ (if f > 0 then some (tk f a l, tk f a u) else some (tk f a u, tk f a l))
        rw [if_neg c']
        exact ⟨t2, rfl, .inl (.inl upd_same)⟩
end

end Pk04
namespace Pk04
open PySem PySem.Spec PyProof.Rows L2 Gd
section
variable {P : Program} {w : World} {K : PySem.W.Frag} {mg : Str → Option Value} {base : Heap}
set_option maxHeartbeats 8000000 in
-- _law_draw: level 1; builtins ['int']; cells []; slots: 0 rng, 1 limit, 2 digit, 3 blend
theorem ok__law_draw (h : At K mg "_law_draw" s__law_draw ["rng", "limit"]) (m_int : mg "int" = none) : Dn P w K mg base 1 "_law_draw" s__law_draw ["rng", "limit"] (sp__law_draw K) := by
  refine .mk' h fun f fd F => F.ok sc__law_draw (fun vs H Q E h => ?_) (fun cdv A outer s H vs Q E hr h => ?_)
  · obtain ⟨a, lim, n, rfl, rs, hn, l0, l1, q⟩ := h
    rfl
  · obtain ⟨a, lim, n, rfl, rs, hn, l0, l1, q⟩ := h
    refine ⟨_, (pss_cons (ps_if (pt_cmpR op_gt (pe_ix ix_list (pv 0) pe_int (fun _ _ => rfl)) pe_int (nomark _))
        (pss_cons (ps_set (i := 2) sc__law_draw.nd rfl (.inl rfl) (pe_op op_mod (pe_callTy call_int1 (by rfl) m_int (by decide +kernel) (pa_cons (pe_ix ix_list (pv 0) pe_int (fun _ _ => rfl)) pa_nil)) (pv 1)))
        (pss_cons (ps_asg (pe_op op_fdivW (pe_ix ix_list (pv 0) pe_int (fun _ _ => rfl)) (pv 1)) (pg_sub (pv 0) pe_int set_list))
        (pss_one (ps_ret (pv 2)))))
        pss_nil)
      (pss_cons (ps_asg (pe_op op_add (pe_ix ix_list (pv 0) pe_int (fun _ _ => rfl)) pe_int) (pg_sub (pv 0) pe_int set_list))
      (pss_cons (ps_set (i := 3) sc__law_draw.nd rfl (.inl rfl) (pe_op op_mod (pe_callTy call_int1 (by rfl) m_int (by decide +kernel) (pa_cons (pe_op op_powW (pe_op op_add (pe_ix ix_list (pv 0) pe_int (fun _ _ => rfl)) (pe_op op_mulW pe_int (pe_ix ix_list (pv 0) pe_int (fun _ _ => rfl)))) pe_int) pa_nil)) pe_int))
      (pss_cons (ps_set (i := 3) sc__law_draw.nd rfl (.inl rfl) (pe_op op_mod (pe_callTy call_int1 (by rfl) m_int (by decide +kernel) (pa_cons (pe_op op_powW (pe_op op_add (pv 3) (pe_op op_mulW pe_int (pe_ix ix_list (pv 0) pe_int (fun _ _ => rfl)))) pe_int) pa_nil)) pe_int))
      (pss_one (ps_ret (pe_op op_mod (pe_callTy call_int1 (by rfl) m_int (by decide +kernel) (pa_cons (pe_op op_fdivW (pv 3) pe_int) pa_nil)) (pv 1)))))))), ?_⟩
    obtain ⟨d, sd, t, e, d0, d1, s0, s1, t0, t1⟩ := rs.ok
    have hl : SqL K H a [.int d, .int sd, .int t] := .inl (.inl e)
    refine ⟨_, rfl, a, _, 0, _, rfl, rfl, hl, atI_nat (j := 0) rfl, _, _, rfl, rfl, _, rfl, ite2 (fun c => ?_) (fun c => ?_)⟩
    · have c' : d > 0 := of_decide_eq_true c
      -- digit = int(rng[0]) % limit
      refine ⟨_, rfl, a, _, 0, _, rfl, rfl, hl, atI_nat (j := 0) rfl, .inl ⟨_, rfl, _, rfl, _, _, rfl, rfl, l0, ?_⟩⟩
      -- rng[0] = rng[0] // limit
      refine ⟨_, rfl, a, _, 0, _, rfl, rfl, hl, atI_nat (j := 0) rfl, _, rfl, _, _, rfl, rfl, wide_div l0 l1 (by decide) (by decide), ?_⟩
      refine ⟨_, rfl, a, _, 0, 0, rfl, rfl, e, rfl, _, rfl, ?_⟩
      have dl : d / lim ≤ d := Int.ediv_le_self _ d0
      have dz : 0 ≤ d / lim := Int.ediv_nonneg d0 (by omega)
      refine q _ _ (Int.emod_nonneg _ (by omega)) (Int.emod_lt_of_pos _ l0) Kp.at ⟨_, _, _, upd_same, dz, ?_, s0, s1, t0, by omega⟩
      exact Nat.lt_of_le_of_lt (by omega) d1
    · -- rng[2] = rng[2] + 1
      refine ⟨_, rfl, a, _, 2, _, rfl, rfl, hl, atI_nat (j := 2) rfl, _, _, rfl, rfl, ?_⟩
      refine ⟨_, rfl, a, _, 2, 2, rfl, rfl, e, rfl, ?_⟩
      have e2 : upd H a (.lst [.int d, .int sd, .int (t + 1)]) a = some (.lst [.int d, .int sd, .int (t + 1)]) := upd_same
      have hl2 : SqL K (upd H a (.lst [.int d, .int sd, .int (t + 1)])) a [.int d, .int sd, .int (t + 1)] := .inl (.inl e2)
      -- blend = ..
      refine ⟨_, rfl, a, _, 1, _, rfl, rfl, hl2, atI_nat (j := 1) rfl, _, rfl, a, _, 2, _, rfl, rfl, hl2, atI_nat (j := 2) rfl, _, _, rfl, rfl, ?_, _, _, rfl, rfl, _, _, rfl, rfl, ?_, .inl ⟨_, rfl, _, _, rfl, rfl, (by show (0 : Int) < _; decide), ?_⟩⟩
      · exact wide_mul (a := 30) (b := 30) (by decide) (by omega) (by decide) (by decide) (by decide)
      · exact powW_ok (a := 64) (by omega) (by decide) (by decide)
      have b0 : 0 ≤ (sd + 998244353 * (t + 1)) ^ (3 : Int).toNat % 162259276829213363391578010288127 := Int.emod_nonneg _ (by decide)
      have b1 : (sd + 998244353 * (t + 1)) ^ (3 : Int).toNat % 162259276829213363391578010288127 < 162259276829213363391578010288127 := Int.emod_lt_of_pos _ (by decide)
      generalize (sd + 998244353 * (t + 1)) ^ (3 : Int).toNat % 162259276829213363391578010288127 = bl at b0 b1
      refine ⟨_, rfl, _, rfl, a, _, 2, _, rfl, rfl, hl2, atI_nat (j := 2) rfl, _, _, rfl, rfl, ?_, _, _, rfl, rfl, _, _, rfl, rfl, ?_, .inl ⟨_, rfl, _, _, rfl, rfl, (by show (0 : Int) < _; decide), ?_⟩⟩
      · exact wide_mul (a := 30) (b := 30) (by decide) (by omega) (by decide) (by decide) (by decide)
      · exact powW_ok (a := 120) (by omega) (by decide) (by decide)
      refine ⟨_, rfl, _, _, rfl, rfl, wide_div (b := 30) (by decide) (by decide) (by decide) (by decide), .inl ⟨_, rfl, _, rfl, _, _, rfl, rfl, l0, ?_⟩⟩
      exact q _ _ (Int.emod_nonneg _ (by omega)) (Int.emod_lt_of_pos _ l0) Kp.at ⟨_, _, _, upd_same, d0, d1, s0, s1, by omega, by omega⟩
end

end Pk04
namespace Pk04
open PySem PySem.Spec PyProof.Rows L2 Gd
section
variable {P : Program} {w : World} {K : PySem.W.Frag} {mg : Str → Option Value} {base : Heap}
set_option maxHeartbeats 8000000 in
-- _law_rng: level 1; builtins ['abs', 'int']; cells []; slots: 0 script, 1 digits, 2 seed, 3 number, 4 far
theorem ok__law_rng (h : At K mg "_law_rng" s__law_rng ["script"]) (m_abs : mg "abs" = none) (m_int : mg "int" = none) : Dn P w K mg base 1 "_law_rng" s__law_rng ["script"] (sp__law_rng K) := by
  refine .mk' h fun f fd F => F.ok sc__law_rng (fun vs H Q E h => ?_) (fun cdv A outer s H vs Q E hr h => ?_)
  · obtain ⟨a, ns, rfl, hS, hn, q⟩ := h
    rfl
  · obtain ⟨a, ns, rfl, hS, hn, q⟩ := h
    refine ⟨_, (pss_cons (ps_asg (pe_tup (pa_cons pe_int (pa_cons pe_int pa_nil))) (pg_tup (by rfl) (pgs_cons (pg_name (i := 1) sc__law_rng.nd rfl (.inl rfl)) (pgs_cons (pg_name (i := 2) sc__law_rng.nd rfl (.inl rfl)) pgs_nil))))
      (pss_cons (ps_for PassesOwn.never rfl (pi_list (pe_slice sl_list (pv 0) po_none (po_some pe_int))) (pg_name (i := 3) sc__law_rng.nd rfl (.inl rfl))
        (pss_cons (ps_set (i := 4) sc__law_rng.nd rfl (.inl rfl) (pe_callB call_abs (by rfl) m_abs (by decide +kernel) (pa_cons (pv 3) pa_nil)))
        (pss_cons (ps_if (pt_cmpR op_ge (pv 4) (pe_op op_powW pe_int pe_int) (nomark _))
          (pss_one (ps_set (i := 1) sc__law_rng.nd rfl (.inl rfl) (pe_op op_add (pe_op op_mulW (pv 1) (pe_op op_powW pe_int pe_int)) (pe_op op_mod (pe_callTy call_int1 (by rfl) m_int (by decide +kernel) (pa_cons (pv 4) pa_nil)) (pe_op op_powW pe_int pe_int)))))
          pss_nil)
        (pss_one (ps_set (i := 2) sc__law_rng.nd rfl (.inl rfl) (pe_op op_mod (pe_callTy call_int1 (by rfl) m_int (by decide +kernel) (pa_cons (pe_op op_add (pe_op op_add (pe_op op_mulW (pv 2) pe_int) (pe_op op_mod (pe_callTy call_int1 (by rfl) m_int (by decide +kernel) (pa_cons (pv 3) pa_nil)) pe_int)) pe_int) pa_nil)) pe_int))))))
      (pss_one (ps_ret (pe_lst (pa_cons (pv 1) (pa_cons (pv 2) (pa_cons pe_int pa_nil)))))))), ?_⟩
    refine ⟨by show 2 ≤ sizeLine; decide, fun c0 nc0 => ?_⟩
    refine ⟨c0, _, rfl, .inl (.inl upd_same), rfl, _, _, rfl, _, _, rfl, rfl, ?_⟩
    have sm0 : Same H (upd H c0 (.tup [.int 0, .int 88675123])) := Same.new nc0
    generalize upd H c0 (.tup [.int 0, .int 88675123]) = H0 at sm0
    refine ⟨_, rfl, 63, rfl, a, _, rfl, sm0.seq hS, fun c nc => ⟨c, rfl, ⟨_, .inl (.inl upd_same)⟩, ?_⟩⟩
    have len63 : (cutV (ns.map V.int) none (some 63)).length ≤ 63 := Nat.le_trans (cutV_length _ _ _) (by rw [List.length_map]; exact hn)
    refine for_list (xs := cutV (ns.map V.int) none (some 63)) (fun i σ H' => H' = upd H0 c (.lst (cutV (ns.map V.int) none (some 63))) ∧
      ∃ dg sd y3 y4, σ = [some (.ref a), some (.int dg), some (.int sd), y3, y4] ∧ 0 ≤ dg ∧ dg.natAbs < 2 ^ (200 * i + 1) ∧ 0 ≤ sd ∧ sd < 2305843009213693951)
      ⟨rfl, 0, 88675123, none, none, rfl, by decide, by decide, by decide, by decide⟩ ?_ ?_ ?_
    · intro i σ H' _ hw
      rw [hw.1]
      exact .inl (.inl upd_same)
    · intro i x σ H' hx hw
      have hi : i < (cutV (ns.map V.int) none (some 63)).length := (List.getElem?_eq_some_iff.mp hx).1
      obtain ⟨rfl, dg, sd, y3, y4, rfl, d0, d1, s0, s1⟩ := hw
      obtain ⟨z, rfl⟩ := cut_ints hx
      refine ⟨_, rfl, z, rfl, ?_⟩
      generalize (if z < 0 then -z else z) = f
      refine ⟨_, rfl, _, _, rfl, rfl, ten18, _, _, rfl, rfl, _, rfl, ite2 (fun _ => ?_) (fun _ => ?_)⟩
      · have bs := big_step (f := f) d0 d1
        refine ⟨_, rfl, _, _, rfl, rfl, ten60, _, _, rfl, rfl, ?_, _, rfl, .inl ⟨_, rfl, _, _, rfl, rfl, ten60, _, _, rfl, rfl, (by show (0 : Int) < _; decide), _, _, rfl, rfl, ?_⟩⟩
        · exact wide_mul (a := 200 * i + 1) (b := 200) d1 (by decide) (by omega) (by decide) (by omega)
        refine ⟨_, rfl, _, _, rfl, rfl, wide_mul (a := 64) (b := 64) (by omega) (by decide) (by decide) (by decide) (by decide), _, rfl, .inl ⟨_, rfl, _, _, rfl, rfl, (by show (0 : Int) < _; decide), _, _, rfl, rfl, _, _, rfl, rfl,
          .inl ⟨_, rfl, _, _, rfl, rfl, (by show (0 : Int) < _; decide), ?_⟩⟩⟩
        exact ⟨rfl, _, _, _, _, rfl, bs.1, bs.2, Int.emod_nonneg _ (by decide), Int.emod_lt_of_pos _ (by decide)⟩
      · refine ⟨_, rfl, _, _, rfl, rfl, wide_mul (a := 64) (b := 64) (by omega) (by decide) (by decide) (by decide) (by decide), _, rfl, .inl ⟨_, rfl, _, _, rfl, rfl, (by show (0 : Int) < _; decide), _, _, rfl, rfl, _, _, rfl, rfl,
          .inl ⟨_, rfl, _, _, rfl, rfl, (by show (0 : Int) < _; decide), ?_⟩⟩⟩
        exact ⟨rfl, dg, _, _, _, rfl, d0, keep_step d1, Int.emod_nonneg _ (by decide), Int.emod_lt_of_pos _ (by decide)⟩
    · intro σ H' hw
      obtain ⟨rfl, dg, sd, y3, y4, rfl, d0, d1, s0, s1⟩ := hw
      refine ⟨_, rfl, _, rfl, by show 3 ≤ sizeLine; decide, fun p np => ?_⟩
      have sm := sm0.trans (Same.new (o := .lst (cutV (ns.map V.int) none (some 63))) nc)
      exact q _ _ (sm.trans (Same.new np)) (sm.free np) ⟨_, _, _, upd_same, d0, end_step len63 d1, s0, s1, by decide, by decide⟩
end

end Pk04
namespace Pk04
open PySem PySem.Spec PyProof.Rows L2 Gd
section
variable {P : Program} {w : World} {K : PySem.W.Frag} {mg : Str → Option Value} {base : Heap}
set_option maxHeartbeats 8000000 in
-- _law_bound: level 2; builtins []; cells []; slots: 0 rng, 1 most
theorem ok__law_bound (h : At K mg "_law_bound" s__law_bound ["rng", "most"]) (D__law_draw : Dn P w K mg base 1 "_law_draw" s__law_draw ["rng", "limit"] (sp__law_draw K)) : Dn P w K mg base 2 "_law_bound" s__law_bound ["rng", "most"] (sp__law_bound K) := by
  refine .mk' h fun f fd F => F.ok sc__law_bound (fun vs H Q E h => ?_) (fun cdv A outer s H vs Q E hr h => ?_)
  · obtain ⟨a, m, n, rfl, rs, hn, m0, m1, q⟩ := h
    rfl
  · obtain ⟨a, m, n, rfl, rs, hn, m0, m1, q⟩ := h
    refine ⟨_, (pss_one (ps_ret (pe_ix ix_list (pe_lst (pa_cons pe_non (pa_cons (pe_op op_sub (pe_c D__law_draw hr (by rfl) (pa_cons (pv 0) (pa_cons (pe_op op_add (pe_op op_mulW pe_int (pv 1)) pe_int) pa_nil))) (pv 1)) (pa_cons (pe_op op_sub (pe_c D__law_draw hr (by rfl) (pa_cons (pv 0) (pa_cons pe_int pa_nil))) pe_int) pa_nil)))) (pe_c D__law_draw hr (by rfl) (pa_cons (pv 0) (pa_cons pe_int pa_nil))) (fun _ _ => rfl)))), ?_⟩
    have m1' : m ≤ 10000000000000000000000000000000 := m1
    refine ⟨_, rfl, _, rfl, _, _, rfl, rfl, wide_mul (a := 2) (b := 120) (by decide) (by omega) (by decide) (by decide) (by decide), _, _, rfl, rfl, a, _, n, rfl, rs, by omega, by omega, ?_, fun r H1 r0 r1 k1 rs1 => ?_⟩
    · have : (2 : Nat) ^ 200 = 1606938044258990275541962092341162602522202993782792835301376 := by decide
      omega
    refine ⟨_, rfl, _, _, rfl, rfl, _, rfl, a, _, n + 1, rfl, rs1, by omega, by decide, by decide, fun r2 H2 t0 t1 k2 rs2 => ?_⟩
    refine ⟨_, _, rfl, rfl, by show 3 ≤ sizeLine; decide, fun p np => ?_⟩
    have rs3 := rs2.same (Same.new (o := .lst [.non, .int (r - m), .int (r2 - 2)]) np)
    refine ⟨_, rfl, a, _, n + 2, rfl, rs3, by omega, by decide, by decide, fun r3 H3 u0 u1 k3 rs4 => ?_⟩
    have kk : Kp a H H3 := (k1.trans k2).trans ((Kp.of (Same.new np)).trans k3)
    have pne : p ≠ a := fun z => by
      obtain ⟨_, _, _, e, _⟩ := rs2.ok
      rw [← z, np] at e
      cases e
    have ep : SqL K H3 p [.non, .int (r - m), .int (r2 - 2)] := .inl (.inl (k3 _ _ pne upd_same))
    have three : r3 = 0 ∨ r3 = 1 ∨ r3 = 2 := by omega
    rcases three with rfl | rfl | rfl
    · exact ⟨p, _, 0, _, rfl, rfl, ep, atI_nat (j := 0) rfl, q none _ trivial kk rs4⟩
    · exact ⟨p, _, 1, _, rfl, rfl, ep, atI_nat (j := 1) rfl, q (some _) _ (by constructor <;> omega) kk rs4⟩
    · exact ⟨p, _, 2, _, rfl, rfl, ep, atI_nat (j := 2) rfl, q (some _) _ (by constructor <;> omega) kk rs4⟩
end

end Pk04
namespace Pk04
open PySem PySem.Spec PyProof.Rows L2 Gd
section
variable {P : Program} {w : World} {K : PySem.W.Frag} {mg : Str → Option Value} {base : Heap}
set_option maxHeartbeats 8000000 in
-- _law_range: level 3; builtins []; cells []; slots: 0 rng, 1 most, 2 low, 3 high
theorem ok__law_range (h : At K mg "_law_range" s__law_range ["rng", "most"]) (D__law_bound : Dn P w K mg base 2 "_law_bound" s__law_bound ["rng", "most"] (sp__law_bound K)) (D__law_draw : Dn P w K mg base 1 "_law_draw" s__law_draw ["rng", "limit"] (sp__law_draw K)) : Dn P w K mg base 3 "_law_range" s__law_range ["rng", "most"] (sp__law_range K) := by
  refine .mk' h fun f fd F => F.ok sc__law_range (fun vs H Q E h => ?_) (fun cdv A outer s H vs Q E hr h => ?_)
  · obtain ⟨a, m, n, rfl, rs, hn, m0, m1, q⟩ := h
    rfl
  · obtain ⟨a, m, n, rfl, rs, hn, m0, m1, q⟩ := h
    refine ⟨_, (pss_cons (ps_if (pt_cmpR op_eq (pe_c D__law_draw hr (by rfl) (pa_cons (pv 0) (pa_cons pe_int pa_nil))) pe_int (nomark _))
        (pss_one (ps_ret pe_non))
        pss_nil)
      (pss_cons (ps_par (i := 2) (j := 3) rfl sc__law_range.nd rfl rfl (by decide) rfl rfl (pa_cons (pe_c D__law_bound hr (by rfl) (pa_cons (pv 0) (pa_cons (pv 1) pa_nil))) (pa_cons (pe_c D__law_bound hr (by rfl) (pa_cons (pv 0) (pa_cons (pv 1) pa_nil))) pa_nil)) (by rfl))
      (pss_cons (ps_if (PW.pt (pw_and (pt_cmpR op_notN (pv 2) pe_non (nomark _)) (pw_and (pt_cmpR op_notN (pv 3) pe_non (nomark _)) (pw_and1 (pt_cmpR op_gt (pv 2) (pv 3) (nomark _))))))
        (pss_one (ps_ret (pe_tup (pa_cons (pv 3) (pa_cons (pv 2) pa_nil)))))
        pss_nil)
      (pss_one (ps_ret (pe_tup (pa_cons (pv 2) (pa_cons (pv 3) pa_nil)))))))), ?_⟩
    refine ⟨_, rfl, a, _, n, rfl, rs, by omega, by decide, by decide, fun r H1 r0 r1 k1 rs1 => ?_⟩
    refine ⟨rfl, _, rfl, ite2 (fun _ => ?_) (fun _ => ?_)⟩
    · exact q .non none H1 trivial trivial k1 (rs1.mono (by omega)) rfl
    refine ⟨_, rfl, _, rfl, a, m, n + 1, rfl, rs1, by omega, m0, m1, fun lo H2 bl k2 rs2 => ?_⟩
    refine ⟨_, rfl, _, rfl, a, m, n + 4, rfl, rs2, by omega, m0, m1, fun hi H3 bh k3 rs3 => ?_⟩
    have kk := (k1.trans k2).trans k3
    refine ⟨_, _, rfl, ?_⟩
    match lo, hi, bl, bh with
    | none, hi, bl, bh =>
      refine ⟨_, rfl, rfl, _, rfl, iteF (iteF ⟨_, rfl, _, rfl, by show 2 ≤ sizeLine; decide, fun p np => ?_⟩)⟩
      exact q _ (some (none, hi)) _ trivial ⟨bl, bh⟩ (kk.trans (Kp.new np)) (rs3.same (Same.new np)) ⟨p, rfl, .inl (.inl upd_same)⟩
    | some l, none, bl, bh =>
      refine ⟨_, rfl, rfl, _, rfl, iteT ⟨_, rfl, rfl, _, rfl, iteF (iteF ⟨_, rfl, _, rfl, by show 2 ≤ sizeLine; decide, fun p np => ?_⟩)⟩⟩
      exact q _ (some (some l, none)) _ trivial ⟨bl, bh⟩ (kk.trans (Kp.new np)) (rs3.same (Same.new np)) ⟨p, rfl, .inl (.inl upd_same)⟩
    | some l, some u, bl, bh =>
      refine ⟨_, rfl, rfl, _, rfl, iteT ⟨_, rfl, rfl, _, rfl, iteT ⟨_, rfl, _, rfl, _, _, rfl, rfl, _, rfl, ite2 (fun c => ?_) (fun c => ?_)⟩⟩⟩
      · have c' : l > u := of_decide_eq_true c
        refine ⟨_, rfl, _, rfl, by show 2 ≤ sizeLine; decide, fun p np => ?_⟩
        exact q _ (some (some u, some l)) _ (show u ≤ l by omega) ⟨bh, bl⟩ (kk.trans (Kp.new np)) (rs3.same (Same.new np)) ⟨p, rfl, .inl (.inl upd_same)⟩
      · have c' : ¬ l > u := fun z => c (decide_eq_true z)
        refine ⟨_, rfl, _, rfl, by show 2 ≤ sizeLine; decide, fun p np => ?_⟩
        exact q _ (some (some l, some u)) _ (show l ≤ u by omega) ⟨bl, bh⟩ (kk.trans (Kp.new np)) (rs3.same (Same.new np)) ⟨p, rfl, .inl (.inl upd_same)⟩
end

end Pk04
namespace Pk04
open PySem PySem.Spec PyProof.Rows L2 Gd
section
variable {P : Program} {w : World} {K : PySem.W.Frag} {mg : Str → Option Value} {base : Heap}
set_option maxHeartbeats 8000000 in
-- RangeError.__init__: level 1; builtins []; cells []; slots: 0 self, 1 value
theorem ok_RangeError___init__ {fI : Addr} (h : AtI K fI "RangeError.__init__" s_RangeError___init__ ["self", "value"]) : DnI P w K mg base 1 fI "RangeError.__init__" s_RangeError___init__ ["self", "value"] (spIni K) := by
  refine .mk' h fun f fd F => F.ok sc_RangeError___init__ (fun vs H Q E h => ?_) (fun cdv A outer s H vs Q E hr h => ?_)
  · obtain ⟨a, c, v, rfl, ox, nv, ea, q⟩ := h
    rfl
  · obtain ⟨a, c, v, rfl, ox, nv, ea, q⟩ := h
    refine ⟨_, (pss_one (ps_ost (pv 0) (pv 1) rfl)), ?_⟩
    exact ⟨_, rfl, _, rfl, a, c, rfl, ox, nv, .inl ⟨ea, fun dx n ne => q dx n ne⟩⟩
end

end Pk04
namespace Pk04
open PySem PySem.Spec PyProof.Rows L2 Gd
section
variable {P : Program} {w : World} {K : PySem.W.Frag} {mg : Str → Option Value} {base : Heap}
set_option maxHeartbeats 8000000 in
-- _law_caught: level 1; builtins ['ValueError', 'isinstance', 'len']; cells []; slots: 0 e, 1 some, 2 words, 3 word, 4 so
theorem ok__law_caught {c0 c1 c2 c3 c4 c5 c6 c7 c8 c9 fI : Addr} (X : ErrT K mg [c0, c1, c2, c3, c4, c5, c6, c7, c8, c9] ["RangeError", "InvalidRange", "InvalidName", "InvalidSystem", "InvalidRule", "UnknownName", "InvalidNumber", "InvalidMove", "NothingToUndo", "Unreadable"] fI) (h : At K mg "_law_caught" s__law_caught ["e"]) (m_ValueError : mg "ValueError" = none) (m_isinstance : mg "isinstance" = none) (m_len : mg "len" = none) : DnE P w K mg base 1 "_law_caught" s__law_caught ["e"] (sp__law_caught K [c0, c1, c2, c3, c4, c5, c6, c7, c8, c9]) := by
  refine .mk' h fun f fd F => okE F sc__law_caught (fun a cls d vs H Q E h => ?_) (fun cdv A outer s H vs Q E p hot hr h => ?_)
  · obtain ⟨i, c, dd, v, rfl, hc, hd, i1, i9, ec, hv, q⟩ := h
    rfl
  · obtain ⟨i, c, dd, v, rfl, hc, hd, i1, i9, ec, hv, q⟩ := h
    refine ⟨_, (pss_cons (ps_set (i := 1) sc__law_caught.nd rfl (.inl rfl) (pe_lst (pa_cons (pe_tup (pa_cons pe_str (pa_cons (pe_callB (call_isXP List.mem_cons_self hot X.all) (by rfl) m_isinstance (by decide +kernel) (pa_cons (pv 0) (pa_cons (pe_glob (v := .ref c1) rfl (X.t 1 _ _ rfl rfl).mg_ rfl) pa_nil))) pa_nil))) (pa_cons (pe_tup (pa_cons pe_str (pa_cons (pe_callB (call_isXP List.mem_cons_self hot X.all) (by rfl) m_isinstance (by decide +kernel) (pa_cons (pv 0) (pa_cons (pe_glob (v := .ref c2) rfl (X.t 2 _ _ rfl rfl).mg_ rfl) pa_nil))) pa_nil))) pa_nil))))
      (pss_cons (ps_set (i := 1) sc__law_caught.nd rfl (.inl rfl) (pe_op op_cat (pv 1) (pe_lst (pa_cons (pe_tup (pa_cons pe_str (pa_cons (pe_callB (call_isXP List.mem_cons_self hot X.all) (by rfl) m_isinstance (by decide +kernel) (pa_cons (pv 0) (pa_cons (pe_glob (v := .ref c3) rfl (X.t 3 _ _ rfl rfl).mg_ rfl) pa_nil))) pa_nil))) (pa_cons (pe_tup (pa_cons pe_str (pa_cons (pe_callB (call_isXP List.mem_cons_self hot X.all) (by rfl) m_isinstance (by decide +kernel) (pa_cons (pv 0) (pa_cons (pe_glob (v := .ref c4) rfl (X.t 4 _ _ rfl rfl).mg_ rfl) pa_nil))) pa_nil))) pa_nil)))))
      (pss_cons (ps_set (i := 1) sc__law_caught.nd rfl (.inl rfl) (pe_op op_cat (pv 1) (pe_lst (pa_cons (pe_tup (pa_cons pe_str (pa_cons (pe_callB (call_isXP List.mem_cons_self hot X.all) (by rfl) m_isinstance (by decide +kernel) (pa_cons (pv 0) (pa_cons (pe_glob (v := .ref c5) rfl (X.t 5 _ _ rfl rfl).mg_ rfl) pa_nil))) pa_nil))) (pa_cons (pe_tup (pa_cons pe_str (pa_cons (pe_callB (call_isXP List.mem_cons_self hot X.all) (by rfl) m_isinstance (by decide +kernel) (pa_cons (pv 0) (pa_cons (pe_glob (v := .ref c7) rfl (X.t 7 _ _ rfl rfl).mg_ rfl) pa_nil))) pa_nil))) pa_nil)))))
      (pss_cons (ps_set (i := 1) sc__law_caught.nd rfl (.inl rfl) (pe_op op_cat (pv 1) (pe_lst (pa_cons (pe_tup (pa_cons pe_str (pa_cons (pe_callB (call_isXP List.mem_cons_self hot X.all) (by rfl) m_isinstance (by decide +kernel) (pa_cons (pv 0) (pa_cons (pe_glob (v := .ref c8) rfl (X.t 8 _ _ rfl rfl).mg_ rfl) pa_nil))) pa_nil))) (pa_cons (pe_tup (pa_cons pe_str (pa_cons (pe_callB (call_isXP List.mem_cons_self hot X.all) (by rfl) m_isinstance (by decide +kernel) (pa_cons (pv 0) (pa_cons (pe_glob (v := .ref c9) rfl (X.t 9 _ _ rfl rfl).mg_ rfl) pa_nil))) pa_nil))) pa_nil)))))
      (pss_cons (ps_set (i := 1) sc__law_caught.nd rfl (.inl rfl) (pe_op op_cat (pv 1) (pe_lst (pa_cons (pe_tup (pa_cons pe_str (pa_cons (pe_callB (call_isXP List.mem_cons_self hot X.all) (by rfl) m_isinstance (by decide +kernel) (pa_cons (pv 0) (pa_cons (pe_glob (v := .ref c6) rfl (X.t 6 _ _ rfl rfl).mg_ rfl) pa_nil))) pa_nil))) pa_nil))))
      (pss_cons (ps_setLcH (i := 2) (own := [("word", 3), ("so", 4)]) (g := (gTup K 2 (gCons (gName 3) (gCons (gName 4) gNil)))) hot List.mem_cons_self sc__law_caught.nd rfl rfl (sw_true rfl rfl rfl (by decide +kernel)) (pv 1) (blkOk_by (N := ["e", "some", "words", "word", "so"]) (sc := defScope s__law_caught) (by decide +kernel)) (fun _ _ _ _ _ hb => (pg_tupH hb (pgs_cons (pg_name (i := 3) sc__law_caught.nd rfl (.inl rfl)) (pgs_cons (pg_name (i := 4) sc__law_caught.nd rfl (.inl rfl)) pgs_nil)))) (fun _ _ _ _ _ => pts_one (pt_val (pv 4))) (fun _ _ _ _ _ => (pv 3)))
      (pss_one (ps_ret (pe_ifExp (PW.pt (pw_and (pt_cmpR op_eq (pe_callB call_len_seq (by rfl) m_len PySem.boot_len (pa_cons (pv 2) pa_nil)) pe_int (nomark _)) (pw_and1 (pt_val (pe_callB (call_isXP List.mem_cons_self hot X.all) (by rfl) m_isinstance (by decide +kernel) (pa_cons (pv 0) (pa_cons (pe_bltn (v := .ty "ValueError") (u := .type "ValueError") (by rfl) m_ValueError (by decide +kernel) rfl) pa_nil))))))) (pe_tup (pa_cons (pe_ix ix_list (pv 2) pe_int (fun _ _ => rfl)) (pa_cons (pe_valP List.mem_cons_self hot X.all (pv 0)) pa_nil))) pe_str))))))))), ?_⟩
    have ep : ErrP H p c v := ⟨dd, hc, hd, hv⟩
    have mc : c ∈ [c0, c1, c2, c3, c4, c5, c6, c7, c8, c9] := List.mem_of_getElem? ec
    have kP : ∀ (j : Nat) D, 1 ≤ j → [c0, c1, c2, c3, c4, c5, c6, c7, c8, c9][j]? = some D → PySem.W.kitOne K (.ref c) (.ref D) = some (decide (i = j)) := fun j D j1 eD => by
      rw [X.sub i j _ _ ec eD]
      exact congrArg some (decide_eq_decide.mpr ⟨fun z => z.elim id (fun q => absurd q (by omega)), .inl⟩)
    have k0 : Same H H := Same.refl H
    refine ⟨_, rfl, c, v, _, _, _, rfl, mc, ep.same k0, fun u hu => hu, kP 1 _ (by decide) rfl, by show 2 ≤ sizeLine; decide, fun t1 n1 => ?_⟩
    have s1 := Same.new (o := .tup [.str "range", .bl (decide (i = 1))]) n1
    have o1 : upd H t1 (.tup [.str "range", .bl (decide (i = 1))]) t1 = some (.tup [.str "range", .bl (decide (i = 1))]) := upd_same
    generalize upd H t1 (.tup [V.str "range", .bl (decide (i = 1))]) = G1 at s1 o1
    have k1 : Same H G1 := k0.trans s1
    have P1 : PrsAt G1 [t1] [("range", decide (i = 1))] := .cons o1 .nil
    refine ⟨_, rfl, c, v, _, _, _, rfl, mc, ep.same k1, fun u hu => hu, kP 2 _ (by decide) rfl, by show 2 ≤ sizeLine; decide, fun t2 n2 => ?_⟩
    have s2 := Same.new (o := .tup [.str "name", .bl (decide (i = 2))]) n2
    have o2 : upd G1 t2 (.tup [.str "name", .bl (decide (i = 2))]) t2 = some (.tup [.str "name", .bl (decide (i = 2))]) := upd_same
    generalize upd G1 t2 (.tup [V.str "name", .bl (decide (i = 2))]) = G2 at s2 o2
    have k2 : Same H G2 := k1.trans s2
    have P2 := PrsAt.same s2 P1
    replace P2 := P2.app (show PrsAt G2 [t2] [("name", decide (i = 2))] from .cons o2 .nil)
    refine ⟨by show 2 ≤ sizeLine; decide, fun l0 nl0 => ?_⟩
    have s3 := Same.new (o := .lst [.ref t1, .ref t2]) nl0
    have ol0 : upd G2 l0 (.lst [.ref t1, .ref t2]) l0 = some (.lst [.ref t1, .ref t2]) := upd_same
    generalize upd G2 l0 (.lst [V.ref t1, .ref t2]) = G3 at s3 ol0
    have k3 : Same H G3 := k2.trans s3
    have P3 := PrsAt.same s3 P2
    refine ⟨_, rfl, _, rfl, c, v, _, _, _, rfl, mc, ep.same k3, fun u hu => hu, kP 3 _ (by decide) rfl, by show 2 ≤ sizeLine; decide, fun t3 n3 => ?_⟩
    have s4 := Same.new (o := .tup [.str "system", .bl (decide (i = 3))]) n3
    have o3 : upd G3 t3 (.tup [.str "system", .bl (decide (i = 3))]) t3 = some (.tup [.str "system", .bl (decide (i = 3))]) := upd_same
    generalize upd G3 t3 (.tup [V.str "system", .bl (decide (i = 3))]) = G4 at s4 o3
    have k4 : Same H G4 := k3.trans s4
    have P4 := PrsAt.same s4 P3
    replace P4 := P4.app (show PrsAt G4 [t3] [("system", decide (i = 3))] from .cons o3 .nil)
    have w4 := s4 _ _ ol0
    refine ⟨_, rfl, c, v, _, _, _, rfl, mc, ep.same k4, fun u hu => hu, kP 4 _ (by decide) rfl, by show 2 ≤ sizeLine; decide, fun t4 n4 => ?_⟩
    have s5 := Same.new (o := .tup [.str "rule", .bl (decide (i = 4))]) n4
    have o4 : upd G4 t4 (.tup [.str "rule", .bl (decide (i = 4))]) t4 = some (.tup [.str "rule", .bl (decide (i = 4))]) := upd_same
    generalize upd G4 t4 (.tup [V.str "rule", .bl (decide (i = 4))]) = G5 at s5 o4
    have k5 : Same H G5 := k4.trans s5
    have P5 := PrsAt.same s5 P4
    replace P5 := P5.app (show PrsAt G5 [t4] [("rule", decide (i = 4))] from .cons o4 .nil)
    have w5 := s5 _ _ w4
    refine ⟨by show 2 ≤ sizeLine; decide, fun l1 nl1 => ?_⟩
    have s6 := Same.new (o := .lst [.ref t3, .ref t4]) nl1
    have ol1 : upd G5 l1 (.lst [.ref t3, .ref t4]) l1 = some (.lst [.ref t3, .ref t4]) := upd_same
    generalize upd G5 l1 (.lst [V.ref t3, .ref t4]) = G6 at s6 ol1
    have k6 : Same H G6 := k5.trans s6
    have P6 := PrsAt.same s6 P5
    have w6 := s6 _ _ w5
    refine ⟨_, _, _, _, rfl, rfl, w6, ol1, by show 4 ≤ sizeLine; decide, fun m1 nm1 => ?_⟩
    have s7 := Same.new (o := .lst [.ref t1, .ref t2, .ref t3, .ref t4]) nm1
    have om1 : upd G6 m1 (.lst [.ref t1, .ref t2, .ref t3, .ref t4]) m1 = some (.lst [.ref t1, .ref t2, .ref t3, .ref t4]) := upd_same
    change gName 1 (V.ref m1) _ (upd G6 m1 (.lst [V.ref t1, .ref t2, .ref t3, .ref t4])) _
    generalize upd G6 m1 (.lst [V.ref t1, .ref t2, .ref t3, .ref t4]) = G7 at s7 om1 ⊢
    have k7 : Same H G7 := k6.trans s7
    have P7 := PrsAt.same s7 P6
    refine ⟨_, rfl, _, rfl, c, v, _, _, _, rfl, mc, ep.same k7, fun u hu => hu, kP 5 _ (by decide) rfl, by show 2 ≤ sizeLine; decide, fun t5 n5 => ?_⟩
    have s8 := Same.new (o := .tup [.str "unknown", .bl (decide (i = 5))]) n5
    have o5 : upd G7 t5 (.tup [.str "unknown", .bl (decide (i = 5))]) t5 = some (.tup [.str "unknown", .bl (decide (i = 5))]) := upd_same
    generalize upd G7 t5 (.tup [V.str "unknown", .bl (decide (i = 5))]) = G8 at s8 o5
    have k8 : Same H G8 := k7.trans s8
    have P8 := PrsAt.same s8 P7
    replace P8 := P8.app (show PrsAt G8 [t5] [("unknown", decide (i = 5))] from .cons o5 .nil)
    have w8 := s8 _ _ om1
    refine ⟨_, rfl, c, v, _, _, _, rfl, mc, ep.same k8, fun u hu => hu, kP 7 _ (by decide) rfl, by show 2 ≤ sizeLine; decide, fun t6 n6 => ?_⟩
    have s9 := Same.new (o := .tup [.str "move", .bl (decide (i = 7))]) n6
    have o6 : upd G8 t6 (.tup [.str "move", .bl (decide (i = 7))]) t6 = some (.tup [.str "move", .bl (decide (i = 7))]) := upd_same
    generalize upd G8 t6 (.tup [V.str "move", .bl (decide (i = 7))]) = G9 at s9 o6
    have k9 : Same H G9 := k8.trans s9
    have P9 := PrsAt.same s9 P8
    replace P9 := P9.app (show PrsAt G9 [t6] [("move", decide (i = 7))] from .cons o6 .nil)
    have w9 := s9 _ _ w8
    refine ⟨by show 2 ≤ sizeLine; decide, fun l2 nl2 => ?_⟩
    have s10 := Same.new (o := .lst [.ref t5, .ref t6]) nl2
    have ol2 : upd G9 l2 (.lst [.ref t5, .ref t6]) l2 = some (.lst [.ref t5, .ref t6]) := upd_same
    generalize upd G9 l2 (.lst [V.ref t5, .ref t6]) = G10 at s10 ol2
    have k10 : Same H G10 := k9.trans s10
    have P10 := PrsAt.same s10 P9
    have w10 := s10 _ _ w9
    refine ⟨_, _, _, _, rfl, rfl, w10, ol2, by show 6 ≤ sizeLine; decide, fun m2 nm2 => ?_⟩
    have s11 := Same.new (o := .lst [.ref t1, .ref t2, .ref t3, .ref t4, .ref t5, .ref t6]) nm2
    have om2 : upd G10 m2 (.lst [.ref t1, .ref t2, .ref t3, .ref t4, .ref t5, .ref t6]) m2 = some (.lst [.ref t1, .ref t2, .ref t3, .ref t4, .ref t5, .ref t6]) := upd_same
    change gName 1 (V.ref m2) _ (upd G10 m2 (.lst [V.ref t1, .ref t2, .ref t3, .ref t4, .ref t5, .ref t6])) _
    generalize upd G10 m2 (.lst [V.ref t1, .ref t2, .ref t3, .ref t4, .ref t5, .ref t6]) = G11 at s11 om2 ⊢
    have k11 : Same H G11 := k10.trans s11
    have P11 := PrsAt.same s11 P10
    refine ⟨_, rfl, _, rfl, c, v, _, _, _, rfl, mc, ep.same k11, fun u hu => hu, kP 8 _ (by decide) rfl, by show 2 ≤ sizeLine; decide, fun t7 n7 => ?_⟩
    have s12 := Same.new (o := .tup [.str "undo", .bl (decide (i = 8))]) n7
    have o7 : upd G11 t7 (.tup [.str "undo", .bl (decide (i = 8))]) t7 = some (.tup [.str "undo", .bl (decide (i = 8))]) := upd_same
    generalize upd G11 t7 (.tup [V.str "undo", .bl (decide (i = 8))]) = G12 at s12 o7
    have k12 : Same H G12 := k11.trans s12
    have P12 := PrsAt.same s12 P11
    replace P12 := P12.app (show PrsAt G12 [t7] [("undo", decide (i = 8))] from .cons o7 .nil)
    have w12 := s12 _ _ om2
    refine ⟨_, rfl, c, v, _, _, _, rfl, mc, ep.same k12, fun u hu => hu, kP 9 _ (by decide) rfl, by show 2 ≤ sizeLine; decide, fun t8 n8 => ?_⟩
    have s13 := Same.new (o := .tup [.str "text", .bl (decide (i = 9))]) n8
    have o8 : upd G12 t8 (.tup [.str "text", .bl (decide (i = 9))]) t8 = some (.tup [.str "text", .bl (decide (i = 9))]) := upd_same
    generalize upd G12 t8 (.tup [V.str "text", .bl (decide (i = 9))]) = G13 at s13 o8
    have k13 : Same H G13 := k12.trans s13
    have P13 := PrsAt.same s13 P12
    replace P13 := P13.app (show PrsAt G13 [t8] [("text", decide (i = 9))] from .cons o8 .nil)
    have w13 := s13 _ _ w12
    refine ⟨by show 2 ≤ sizeLine; decide, fun l3 nl3 => ?_⟩
    have s14 := Same.new (o := .lst [.ref t7, .ref t8]) nl3
    have ol3 : upd G13 l3 (.lst [.ref t7, .ref t8]) l3 = some (.lst [.ref t7, .ref t8]) := upd_same
    generalize upd G13 l3 (.lst [V.ref t7, .ref t8]) = G14 at s14 ol3
    have k14 : Same H G14 := k13.trans s14
    have P14 := PrsAt.same s14 P13
    have w14 := s14 _ _ w13
    refine ⟨_, _, _, _, rfl, rfl, w14, ol3, by show 8 ≤ sizeLine; decide, fun m3 nm3 => ?_⟩
    have s15 := Same.new (o := .lst [.ref t1, .ref t2, .ref t3, .ref t4, .ref t5, .ref t6, .ref t7, .ref t8]) nm3
    have om3 : upd G14 m3 (.lst [.ref t1, .ref t2, .ref t3, .ref t4, .ref t5, .ref t6, .ref t7, .ref t8]) m3 = some (.lst [.ref t1, .ref t2, .ref t3, .ref t4, .ref t5, .ref t6, .ref t7, .ref t8]) := upd_same
    change gName 1 (V.ref m3) _ (upd G14 m3 (.lst [V.ref t1, .ref t2, .ref t3, .ref t4, .ref t5, .ref t6, .ref t7, .ref t8])) _
    generalize upd G14 m3 (.lst [V.ref t1, .ref t2, .ref t3, .ref t4, .ref t5, .ref t6, .ref t7, .ref t8]) = G15 at s15 om3 ⊢
    have k15 : Same H G15 := k14.trans s15
    have P15 := PrsAt.same s15 P14
    refine ⟨_, rfl, _, rfl, c, v, _, _, _, rfl, mc, ep.same k15, fun u hu => hu, kP 6 _ (by decide) rfl, by show 2 ≤ sizeLine; decide, fun t9 n9 => ?_⟩
    have s16 := Same.new (o := .tup [.str "number", .bl (decide (i = 6))]) n9
    have o9 : upd G15 t9 (.tup [.str "number", .bl (decide (i = 6))]) t9 = some (.tup [.str "number", .bl (decide (i = 6))]) := upd_same
    generalize upd G15 t9 (.tup [V.str "number", .bl (decide (i = 6))]) = G16 at s16 o9
    have k16 : Same H G16 := k15.trans s16
    have P16 := PrsAt.same s16 P15
    replace P16 := P16.app (show PrsAt G16 [t9] [("number", decide (i = 6))] from .cons o9 .nil)
    have w16 := s16 _ _ om3
    refine ⟨by show 1 ≤ sizeLine; decide, fun l4 nl4 => ?_⟩
    have s17 := Same.new (o := .lst [.ref t9]) nl4
    have ol4 : upd G16 l4 (.lst [.ref t9]) l4 = some (.lst [.ref t9]) := upd_same
    generalize upd G16 l4 (.lst [V.ref t9]) = G17 at s17 ol4
    have k17 : Same H G17 := k16.trans s17
    have P17 := PrsAt.same s17 P16
    have w17 := s17 _ _ w16
    refine ⟨_, _, _, _, rfl, rfl, w17, ol4, by show 9 ≤ sizeLine; decide, fun m4 nm4 => ?_⟩
    have s18 := Same.new (o := .lst [.ref t1, .ref t2, .ref t3, .ref t4, .ref t5, .ref t6, .ref t7, .ref t8, .ref t9]) nm4
    have om4 : upd G17 m4 (.lst [.ref t1, .ref t2, .ref t3, .ref t4, .ref t5, .ref t6, .ref t7, .ref t8, .ref t9]) m4 = some (.lst [.ref t1, .ref t2, .ref t3, .ref t4, .ref t5, .ref t6, .ref t7, .ref t8, .ref t9]) := upd_same
    change gName 1 (V.ref m4) _ (upd G17 m4 (.lst [V.ref t1, .ref t2, .ref t3, .ref t4, .ref t5, .ref t6, .ref t7, .ref t8, .ref t9])) _
    generalize upd G17 m4 (.lst [V.ref t1, .ref t2, .ref t3, .ref t4, .ref t5, .ref t6, .ref t7, .ref t8, .ref t9]) = G18 at s18 om4 ⊢
    have k18 : Same H G18 := k17.trans s18
    have P18 := PrsAt.same s18 P17
    have PZ : PrsAt G18 [t1, t2, t3, t4, t5, t6, t7, t8, t9] (askedOf i) := P18
    refine ⟨_, rfl, m4, rfl, ⟨_, .inl (.inl om4)⟩, fun D nD => ?_⟩
    refine lc_list (K := K) (a := m4) (xs := [t1, t2, t3, t4, t5, t6, t7, t8, t9].map V.ref) (fun k G => Same G18 G ∧ G D = some (.lst (((((askedOf i).take k).filter (·.2)).map (·.1)).map V.str))) ⟨Same.new nD, upd_same⟩ (fun k G _ h => .inl (.inl (h.1 _ _ om4))) ?_ ?_
    · rintro k z G ez ⟨sm, oD⟩
      obtain ⟨t, et, rfl⟩ := map_get ez
      obtain ⟨pr, epr, ot⟩ := PZ.get et
      refine ⟨t, _, rfl, .inl (.inl (sm _ _ ot)), rfl, _, _, rfl, _, _, rfl, rfl, rfl, ?_⟩
      have tk1 : (askedOf i).take (k + 1) = (askedOf i).take k ++ [pr] := by rw [List.take_succ, epr]; rfl
      refine ⟨_, rfl, pr.2, rfl, ?_⟩
      have al : (((((askedOf i).take k).filter (·.2)).map (·.1)).map V.str).length < sizeLine := by
        rw [List.length_map, List.length_map]
        exact Nat.lt_of_le_of_lt (Nat.le_trans (List.length_filter_le _ _) (by rw [List.length_take]; exact Nat.min_le_right _ _)) (by show 9 < sizeLine; decide)
      rw [tk1, List.filter_append, List.map_append, List.map_append]
      cases e2 : pr.2 with
      | true =>
        have f1 : [pr].filter (·.2) = [pr] := by simp [e2]
        rw [f1]
        exact iteT ⟨_, rfl, _, oD, al, fun b o e => by rw [upd_ne (ne_of_none e nD)]; exact sm _ _ e, upd_same⟩
      | false =>
        have f1 : [pr].filter (·.2) = [] := by simp [e2]
        rw [f1]
        refine iteF ⟨sm, ?_⟩
        rw [List.map_nil, List.map_nil, List.append_nil]
        exact oD
    · rintro G ⟨sm, oD⟩
      have e9 : ((askedOf i).take ([t1, t2, t3, t4, t5, t6, t7, t8, t9].map V.ref).length) = askedOf i := rfl
      rw [e9, asked_one i1 i9] at oD
      have kz := k18.trans sm
      refine ⟨_, rfl, D, _, rfl, .inl (.inl (.inl oD)), rfl, true, rfl, iteT ?_⟩
      refine ⟨_, rfl, c, v, _, _, _, rfl, mc, ep.same kz, fun u hu => hu, X.subV i c ec, true, rfl, iteT ?_⟩
      refine ⟨_, rfl, D, _, 0, _, rfl, rfl, .inl (.inl oD), atI_nat (j := 0) rfl, _, rfl, c, v, rfl, mc, ep.same kz, by show 2 ≤ sizeLine; decide, fun t nt => ?_⟩
      exact q t _ (kz.trans (Same.new nt)) (by
        cases z : H t with
        | none => rfl
        | some o => rw [kz _ _ z] at nt; cases nt) upd_same
end

end Pk04
namespace Pk04
open PySem PySem.Spec PyProof.Rows L2 Gd
section
variable {P : Program} {w : World} {K : PySem.W.Frag} {mg : Str → Option Value} {base : Heap}
set_option maxHeartbeats 8000000 in
-- _law_raised: level 6; builtins []; cells []; slots: 0 door, 1 one, 2 two, 3 e
theorem ok__law_raised {c0 c1 c2 c3 c4 c5 c6 c7 c8 c9 fI : Addr} (X : ErrT K mg [c0, c1, c2, c3, c4, c5, c6, c7, c8, c9] ["RangeError", "InvalidRange", "InvalidName", "InvalidSystem", "InvalidRule", "UnknownName", "InvalidNumber", "InvalidMove", "NothingToUndo", "Unreadable"] fI) (h : At K mg "_law_raised" s__law_raised ["door", "one", "two"]) (D__law_caught : DnE P w K mg base 1 "_law_caught" s__law_caught ["e"] (sp__law_caught K [c0, c1, c2, c3, c4, c5, c6, c7, c8, c9])) (D_common : DnN P w K mg base 4 "common" s_common ["one", "other"] (sp_common K [c0, c1, c2, c3, c4, c5, c6, c7, c8, c9])) (D_joined : DnN P w K mg base 4 "joined" s_joined ["one", "other"] (sp_joined K [c0, c1, c2, c3, c4, c5, c6, c7, c8, c9])) (D_lies_within : DnN P w K mg base 5 "lies_within" s_lies_within ["one", "other"] (sp_lies_within K [c0, c1, c2, c3, c4, c5, c6, c7, c8, c9])) (D_meets : DnN P w K mg base 5 "meets" s_meets ["one", "other"] (sp_meets K [c0, c1, c2, c3, c4, c5, c6, c7, c8, c9])) (D_stepped : DnN P w K mg base 4 "stepped" s_stepped ["one", "factor", "add"] (sp_stepped K [c0, c1, c2, c3, c4, c5, c6, c7, c8, c9])) : Dn P w K mg base 6 "_law_raised" s__law_raised ["door", "one", "two"] (sp__law_raised K [c0, c1, c2, c3, c4, c5, c6, c7, c8, c9]) := by
  refine .mk' h fun f fd F => F.ok sc__law_raised (fun vs H Q E h => ?_) (fun cdv A outer s H vs Q E hr h => ?_)
  · obtain ⟨t, v1, v2, r1, r2, rfl, t0, t4, h1, h2, sz, q⟩ := h
    rfl
  · obtain ⟨t, v1, v2, r1, r2, rfl, t0, t4, h1, h2, sz, q⟩ := h
    refine ⟨_, (pss_cons (L2N.ps_try_as (i := 3) rfl rfl sc__law_raised.nd rfl rfl ⟨rfl, by decide, .inl (X.t 0 _ _ rfl rfl).mg_⟩ takes0N (fun W pn xe tk _ =>
        (pss_one (ps_if (pt_cmpR op_eq (pv 0) pe_int (nomark _))
          (pss_one (ps_expr (pe_cN tk D_meets hr (by rfl) (pa_cons (pv 1) (pa_cons (pv 2) pa_nil)))))
          (pss_one (ps_if (pt_cmpR op_eq (pv 0) pe_int (nomark _))
            (pss_one (ps_expr (pe_cN tk D_lies_within hr (by rfl) (pa_cons (pv 1) (pa_cons (pv 2) pa_nil)))))
            (pss_one (ps_if (pt_cmpR op_eq (pv 0) pe_int (nomark _))
              (pss_one (ps_expr (pe_cN tk D_common hr (by rfl) (pa_cons (pv 1) (pa_cons (pv 2) pa_nil)))))
              (pss_one (ps_if (pt_cmpR op_eq (pv 0) pe_int (nomark _))
                (pss_one (ps_expr (pe_cN tk D_joined hr (by rfl) (pa_cons (pv 1) (pa_cons (pv 2) pa_nil)))))
                (pss_one (ps_expr (pe_cN tk D_stepped hr (by rfl) (pa_cons (pv 1) (pa_cons (pe_un un_neg pe_int) (pa_cons pe_int pa_nil))))))))))))))) (fun a oe cls d pn zn fl =>
        (pss_one (ps_ret (pe_cE rfl List.mem_cons_self zn fl D__law_caught (roomS hr) (by rfl) (pa_cons (pv 3) pa_nil))))))
      (pss_one (ps_ret pe_str))), ?_⟩
    have xm := errT_exm (i := 1) X rfl rfl (by decide)
    have five : t = 0 ∨ t = 1 ∨ t = 2 ∨ t = 3 ∨ t = 4 := by omega
    rcases five with rfl | rfl | rfl | rfl | rfl
    · refine ⟨_, rfl, rfl, true, congrArg V.bl (decide_eq_true rfl), iteT ?_⟩
      exact ⟨_, rfl, _, rfl, v1, v2, r1, r2, rfl, h1, h2, fun o1 o2 H1 k1 => q _ _ k1 (by unfold badV; rw [if_neg (by rw [o1]; decide), if_pos (by decide), if_neg (by rw [o2]; decide)]; exact rfl), fun u1 => ⟨c1, rfl, fun d H1 k1 nd ed => ⟨true, xm, fun _ a na => ⟨_, rfl, 1, c1, d, _, rfl, rfl, rfl, by decide, by decide, rfl, ed, fun t H2 k2 nt et => q _ _ (k1.trans k2) (by unfold badV; rw [if_pos u1]; exact ⟨t, rfl, same_none k1 nt, et⟩)⟩, fun q => nomatch q⟩⟩, fun o1 u2 => ⟨c1, rfl, fun d H1 k1 nd ed => ⟨true, xm, fun _ a na => ⟨_, rfl, 1, c1, d, _, rfl, rfl, rfl, by decide, by decide, rfl, ed, fun t H2 k2 nt et => q _ _ (k1.trans k2) (by unfold badV; rw [if_neg (by rw [o1]; decide), if_pos (by decide), if_pos u2]; exact ⟨t, rfl, same_none k1 nt, et⟩)⟩, fun q => nomatch q⟩⟩⟩
    · refine ⟨_, rfl, rfl, false, congrArg V.bl (decide_eq_false (by decide)), iteF ⟨_, rfl, rfl, true, congrArg V.bl (decide_eq_true rfl), iteT ?_⟩⟩
      exact ⟨_, rfl, _, rfl, v1, v2, r1, r2, rfl, h1, h2, fun o1 o2 H1 k1 => q _ _ k1 (by unfold badV; rw [if_neg (by rw [o1]; decide), if_pos (by decide), if_neg (by rw [o2]; decide)]; exact rfl), fun u1 => ⟨c1, rfl, fun d H1 k1 nd ed => ⟨true, xm, fun _ a na => ⟨_, rfl, 1, c1, d, _, rfl, rfl, rfl, by decide, by decide, rfl, ed, fun t H2 k2 nt et => q _ _ (k1.trans k2) (by unfold badV; rw [if_pos u1]; exact ⟨t, rfl, same_none k1 nt, et⟩)⟩, fun q => nomatch q⟩⟩, fun o1 u2 => ⟨c1, rfl, fun d H1 k1 nd ed => ⟨true, xm, fun _ a na => ⟨_, rfl, 1, c1, d, _, rfl, rfl, rfl, by decide, by decide, rfl, ed, fun t H2 k2 nt et => q _ _ (k1.trans k2) (by unfold badV; rw [if_neg (by rw [o1]; decide), if_pos (by decide), if_pos u2]; exact ⟨t, rfl, same_none k1 nt, et⟩)⟩, fun q => nomatch q⟩⟩⟩
    · refine ⟨_, rfl, rfl, false, congrArg V.bl (decide_eq_false (by decide)), iteF ⟨_, rfl, rfl, false, congrArg V.bl (decide_eq_false (by decide)), iteF ⟨_, rfl, rfl, true, congrArg V.bl (decide_eq_true rfl), iteT ?_⟩⟩⟩
      exact ⟨_, rfl, _, rfl, v1, v2, r1, r2, rfl, h1, h2, fun o1 o2 v H1 k1 _ => q _ _ k1 (by unfold badV; rw [if_neg (by rw [o1]; decide), if_pos (by decide), if_neg (by rw [o2]; decide)]; exact rfl), fun u1 => ⟨c1, rfl, fun d H1 k1 nd ed => ⟨true, xm, fun _ a na => ⟨_, rfl, 1, c1, d, _, rfl, rfl, rfl, by decide, by decide, rfl, ed, fun t H2 k2 nt et => q _ _ (k1.trans k2) (by unfold badV; rw [if_pos u1]; exact ⟨t, rfl, same_none k1 nt, et⟩)⟩, fun q => nomatch q⟩⟩, fun o1 u2 => ⟨c1, rfl, fun d H1 k1 nd ed => ⟨true, xm, fun _ a na => ⟨_, rfl, 1, c1, d, _, rfl, rfl, rfl, by decide, by decide, rfl, ed, fun t H2 k2 nt et => q _ _ (k1.trans k2) (by unfold badV; rw [if_neg (by rw [o1]; decide), if_pos (by decide), if_pos u2]; exact ⟨t, rfl, same_none k1 nt, et⟩)⟩, fun q => nomatch q⟩⟩⟩
    · refine ⟨_, rfl, rfl, false, congrArg V.bl (decide_eq_false (by decide)), iteF ⟨_, rfl, rfl, false, congrArg V.bl (decide_eq_false (by decide)), iteF ⟨_, rfl, rfl, false, congrArg V.bl (decide_eq_false (by decide)), iteF ⟨_, rfl, rfl, true, congrArg V.bl (decide_eq_true rfl), iteT ?_⟩⟩⟩⟩
      exact ⟨_, rfl, _, rfl, v1, v2, r1, r2, rfl, h1, h2, fun o1 o2 v H1 k1 _ => q _ _ k1 (by unfold badV; rw [if_neg (by rw [o1]; decide), if_pos (by decide), if_neg (by rw [o2]; decide)]; exact rfl), fun u1 => ⟨c1, rfl, fun d H1 k1 nd ed => ⟨true, xm, fun _ a na => ⟨_, rfl, 1, c1, d, _, rfl, rfl, rfl, by decide, by decide, rfl, ed, fun t H2 k2 nt et => q _ _ (k1.trans k2) (by unfold badV; rw [if_pos u1]; exact ⟨t, rfl, same_none k1 nt, et⟩)⟩, fun q => nomatch q⟩⟩, fun o1 u2 => ⟨c1, rfl, fun d H1 k1 nd ed => ⟨true, xm, fun _ a na => ⟨_, rfl, 1, c1, d, _, rfl, rfl, rfl, by decide, by decide, rfl, ed, fun t H2 k2 nt et => q _ _ (k1.trans k2) (by unfold badV; rw [if_neg (by rw [o1]; decide), if_pos (by decide), if_pos u2]; exact ⟨t, rfl, same_none k1 nt, et⟩)⟩, fun q => nomatch q⟩⟩⟩
    · refine ⟨_, rfl, rfl, false, congrArg V.bl (decide_eq_false (by decide)), iteF ⟨_, rfl, rfl, false, congrArg V.bl (decide_eq_false (by decide)), iteF ⟨_, rfl, rfl, false, congrArg V.bl (decide_eq_false (by decide)), iteF ⟨_, rfl, rfl, false, congrArg V.bl (decide_eq_false (by decide)), iteF ?_⟩⟩⟩⟩
      exact ⟨_, rfl, _, rfl, v1, r1, -2, 3, rfl, h1, sz, by decide, fun o1 v H1 k1 _ => q _ _ k1 (by unfold badV; rw [if_neg (by rw [o1]; decide), if_neg (by decide)]; exact rfl), fun u1 => ⟨c1, rfl, fun d H1 k1 nd ed => ⟨true, xm, fun _ a na => ⟨_, rfl, 1, c1, d, _, rfl, rfl, rfl, by decide, by decide, rfl, ed, fun t H2 k2 nt et => q _ _ (k1.trans k2) (by unfold badV; rw [if_pos u1]; exact ⟨t, rfl, same_none k1 nt, et⟩)⟩, fun q => nomatch q⟩⟩⟩
end

end Pk04
namespace Pk04
open PySem PySem.Spec PyProof.Rows L2 Gd
section
variable {P : Program} {w : World} {K : PySem.W.Frag} {mg : Str → Option Value} {base : Heap}
set_option maxHeartbeats 8000000 in
-- _law_odd: level 4; builtins ['max', 'min']; cells []; slots: 0 rng, 1 low, 2 high
theorem ok__law_odd (h : At K mg "_law_odd" s__law_odd ["rng"]) (D__law_draw : Dn P w K mg base 1 "_law_draw" s__law_draw ["rng", "limit"] (sp__law_draw K)) (D__law_range : Dn P w K mg base 3 "_law_range" s__law_range ["rng", "most"] (sp__law_range K)) (m_max : mg "max" = none) (m_min : mg "min" = none) : Dn P w K mg base 4 "_law_odd" s__law_odd ["rng"] (sp__law_odd K) := by
  refine .mk' h fun f fd F => F.ok sc__law_odd (fun vs H Q E h => ?_) (fun cdv A outer s H vs Q E hr h => ?_)
  · obtain ⟨g, n, rfl, rs, hn, q⟩ := h
    rfl
  · obtain ⟨g, n, rfl, rs, hn, q⟩ := h
    refine ⟨_, (pss_cons (ps_set (i := 1) sc__law_odd.nd rfl (.inl rfl) (pe_ix ix_list (pe_lst (pa_cons (pe_op op_sub (pe_c D__law_draw hr (by rfl) (pa_cons (pv 0) (pa_cons pe_int pa_nil))) pe_int) (pa_cons (pe_op op_powW pe_int pe_int) (pa_cons (pe_op op_sub pe_int (pe_op op_powW pe_int pe_int)) (pa_cons (pe_op op_sub (pe_op op_powW pe_int pe_int) pe_int) pa_nil))))) (pe_c D__law_draw hr (by rfl) (pa_cons (pv 0) (pa_cons pe_int pa_nil))) (fun _ _ => rfl)))
      (pss_cons (ps_set (i := 2) sc__law_odd.nd rfl (.inl rfl) (pe_ix ix_list (pe_lst (pa_cons (pe_op op_sub (pv 1) pe_int) (pa_cons (pv 1) (pa_cons (pe_op op_add (pv 1) pe_int) (pa_cons (pe_op op_sub pe_int (pv 1)) pa_nil))))) (pe_c D__law_draw hr (by rfl) (pa_cons (pv 0) (pa_cons pe_int pa_nil))) (fun _ _ => rfl)))
      (pss_one (ps_ret (pe_ix ix_list (pe_lst (pa_cons (pe_tup (pa_cons (pv 1) (pa_cons (pe_callB (call_max2 rfl) (by rfl) m_max (by decide +kernel) (pa_cons (pe_op op_sub pe_int (pe_op op_powW pe_int pe_int)) (pa_cons (pe_callB (call_min2 rfl) (by rfl) m_min (by decide +kernel) (pa_cons (pe_op op_powW pe_int pe_int) (pa_cons (pv 2) pa_nil))) pa_nil))) pa_nil))) (pa_cons (pe_c D__law_range hr (by rfl) (pa_cons (pv 0) (pa_cons pe_int pa_nil))) pa_nil))) (pe_op op_fdivW (pe_c D__law_draw hr (by rfl) (pa_cons (pv 0) (pa_cons pe_int pa_nil))) pe_int) (fun _ _ => rfl)))))), ?_⟩
    have big : (10 : Int) ^ 31 = 10000000000000000000000000000000 := by decide
    have hh : (10 : Int) ^ (31 : Int).toNat = 10000000000000000000000000000000 := by decide
    rw [big] at q
    refine ⟨_, rfl, g, _, n, rfl, rs, by omega, by decide, by decide, fun r1 H1 a0 a1 k1 rs1 => ⟨_, _, rfl, rfl, _, _, rfl, rfl, ten31, ?_⟩⟩
    try dsimp (config := { proj := false, iota := false, eta := false }) only
    generalize hT : (10 : Int) ^ (31 : Int).toNat = T31
    rw [hh] at hT
    refine ⟨_, _, rfl, rfl, ten31, _, _, rfl, rfl, _, _, rfl, rfl, ten31, _, _, rfl, rfl, ?_⟩
    try dsimp (config := { proj := false, iota := false, eta := false }) only
    generalize hU : (10 : Int) ^ (31 : Int).toNat = U31
    rw [hh] at hU
    refine ⟨by show 4 ≤ sizeLine; decide, fun p np => ?_⟩
    have sp := Same.new (o := .lst [.int (r1 - 4), .int T31, .int (0 - U31), .int (U31 - 1)]) np
    have op : upd H1 p (.lst [.int (r1 - 4), .int T31, .int (0 - U31), .int (U31 - 1)]) p = some (.lst [.int (r1 - 4), .int T31, .int (0 - U31), .int (U31 - 1)]) := upd_same
    generalize upd H1 p (.lst [V.int (r1 - 4), .int T31, .int (0 - U31), .int (U31 - 1)]) = H2 at sp op
    have pg : p ≠ g := rs1.fresh np
    refine ⟨_, rfl, g, _, n + 1, rfl, rs1.same sp, by omega, by decide, by decide, fun r2 H3 b0 b1 k3 rs3 => ?_⟩
    obtain ⟨w, aw, mw⟩ := pick_mem (xs := [V.int (r1 - 4), .int T31, .int (0 - U31), .int (U31 - 1)]) b0 b1
    have lo : ∃ l : Int, w = .int l ∧ -10000000000000000000000000000000 ≤ l ∧ l ≤ 10000000000000000000000000000000 := by
      simp only [List.mem_cons, List.not_mem_nil, or_false] at mw
      rcases mw with rfl | rfl | rfl | rfl
      · exact ⟨_, rfl, by omega, by omega⟩
      · exact ⟨_, rfl, by omega, by omega⟩
      · exact ⟨_, rfl, by omega, by omega⟩
      · exact ⟨_, rfl, by omega, by omega⟩
    obtain ⟨l, rfl, l0, l9⟩ := lo
    refine ⟨p, _, r2, _, rfl, rfl, .inl (.inl (k3 _ _ pg op)), aw, ?_⟩
    have k13 : Kp g H H3 := (k1.trans (Kp.of sp)).trans k3
    clear aw mw op np sp k3 b0 b1
    refine ⟨_, rfl, _, _, rfl, rfl, _, rfl, _, rfl, _, _, rfl, rfl, _, rfl, _, _, rfl, rfl, by show 4 ≤ sizeLine; decide, fun p np => ?_⟩
    have sp := Same.new (o := .lst [.int (l - 1), .int l, .int (l + 1), .int (0 - l)]) np
    have op : upd H3 p (.lst [.int (l - 1), .int l, .int (l + 1), .int (0 - l)]) p = some (.lst [.int (l - 1), .int l, .int (l + 1), .int (0 - l)]) := upd_same
    try dsimp (config := { proj := false, iota := false, eta := false }) only
    generalize upd H3 p (.lst [V.int (l - 1), .int l, .int (l + 1), .int (0 - l)]) = H4 at sp op
    have pg : p ≠ g := rs3.fresh np
    refine ⟨_, rfl, g, _, n + 2, rfl, rs3.same sp, by omega, by decide, by decide, fun r3 H5 b0 b1 k5 rs5 => ?_⟩
    obtain ⟨w, aw, mw⟩ := pick_mem (xs := [V.int (l - 1), .int l, .int (l + 1), .int (0 - l)]) b0 b1
    have hi : ∃ h : Int, w = .int h := by
      simp only [List.mem_cons, List.not_mem_nil, or_false] at mw
      rcases mw with rfl | rfl | rfl | rfl <;> exact ⟨_, rfl⟩
    obtain ⟨h, rfl⟩ := hi
    refine ⟨p, _, r3, _, rfl, rfl, .inl (.inl (k5 _ _ pg op)), aw, ?_⟩
    have k15 : Kp g H H5 := (k13.trans (Kp.of sp)).trans k5
    clear aw mw op np sp k5 b0 b1 k13
    refine ⟨_, rfl, _, _, rfl, rfl, ten31, _, _, rfl, rfl, ?_⟩
    try dsimp (config := { proj := false, iota := false, eta := false }) only
    generalize hV : (10 : Int) ^ (31 : Int).toNat = V31
    rw [hh] at hV
    refine ⟨_, _, rfl, rfl, ten31, _, rfl, _, _, rfl, _, _, rfl, ?_⟩
    try dsimp (config := { proj := false, iota := false, eta := false }) only
    generalize hW : (10 : Int) ^ (31 : Int).toNat = W31
    rw [hh] at hW
    have cut : ∃ m : Int, m = (if (if h < W31 then h else W31) > 0 - V31 then (if h < W31 then h else W31) else 0 - V31) ∧ -10000000000000000000000000000000 ≤ m ∧ m ≤ 10000000000000000000000000000000 :=
      ⟨_, rfl, by split <;> split <;> omega, by split <;> split <;> omega⟩
    obtain ⟨m, em, m0, m9⟩ := cut
    rw [← em]
    clear em
    refine ⟨by show 2 ≤ sizeLine; decide, fun p np => ?_⟩
    have sp := Same.new (o := .tup [.int l, .int m]) np
    have op : SqT K (upd H5 p (.tup [.int l, .int m])) p [ov (some l), ov (some m)] := .inl (.inl upd_same)
    generalize upd H5 p (.tup [V.int l, .int m]) = H6 at sp op
    have r1' : RgV K H6 (.ref p) (some (some l, some m)) := ⟨p, rfl, op⟩
    have rs6 := rs5.same sp
    refine ⟨_, rfl, g, 20, n + 3, rfl, rs6, by omega, by decide, by decide, fun v2 r2 H7 f2 i2 k7 rs7 hv2 => ?_⟩
    have r1' := r1'.kp rs6 k7
    refine ⟨by show 2 ≤ sizeLine; decide, fun D nD => ?_⟩
    have sD := Same.new (o := .lst [.ref p, v2]) nD
    have oD : upd H7 D (.lst [.ref p, v2]) D = some (.lst [.ref p, v2]) := upd_same
    generalize upd H7 D (.lst [V.ref p, v2]) = H8 at sD oD
    have Dg : D ≠ g := rs7.fresh nD
    have rs8 := rs7.same sD
    refine ⟨_, rfl, g, _, n + 10, rfl, rs8, by omega, by decide, by decide, fun r4 H9 b0 b1 k9 rs9 => ?_⟩
    have r1'' := (r1'.same sD).kp rs8 k9
    have r2'' := (hv2.same sD).kp rs8 k9
    have k19 : Kp g H H9 := (((k15.trans (Kp.of sp)).trans k7).trans (Kp.of sD)).trans k9
    have oD9 := k9 _ _ Dg oD
    refine ⟨_, _, rfl, rfl, ⟨by decide, by decide⟩, ?_⟩
    try dsimp (config := { proj := false, iota := false, eta := false }) only
    have two : r4 / 2 = 0 ∨ r4 / 2 = 1 := by omega
    rcases two with e | e
    · rw [e]
      exact ⟨D, _, 0, _, rfl, rfl, .inl (.inl oD9), atI_nat (j := 0) rfl, q _ (some (some l, some m)) _ ⟨⟨l0, l9⟩, ⟨m0, m9⟩⟩ k19 (rs9.mono (by omega)) r1''⟩
    · rw [e]
      exact ⟨D, _, 1, _, rfl, rfl, .inl (.inl oD9), atI_nat (j := 1) rfl, q _ _ _ (rgIn_mono (by decide) i2) k19 (rs9.mono (by omega)) r2''⟩
end

end Pk04
namespace Pk04
open PySem PySem.Spec PyProof.Rows L2 Gd
section
variable {P : Program} {w : World} {K : PySem.W.Frag} {mg : Str → Option Value} {base : Heap}
set_option maxHeartbeats 8000000 in
-- law: level 7; builtins ['len', 'min', 'range', 'repr']; cells ['some']; slots: 0 script, 1 rng, 2 lap, 3 some, 4 bad, 5 due, 6 one, 7 door
theorem ok_law {c0 c1 c2 c3 c4 c5 c6 c7 c8 c9 fI : Addr} (X : ErrT K mg [c0, c1, c2, c3, c4, c5, c6, c7, c8, c9] ["RangeError", "InvalidRange", "InvalidName", "InvalidSystem", "InvalidRule", "UnknownName", "InvalidNumber", "InvalidMove", "NothingToUndo", "Unreadable"] fI) (h : At K mg "law" s_law ["script"]) (D__law_odd : Dn P w K mg base 4 "_law_odd" s__law_odd ["rng"] (sp__law_odd K)) (D__law_raised : Dn P w K mg base 6 "_law_raised" s__law_raised ["door", "one", "two"] (sp__law_raised K [c0, c1, c2, c3, c4, c5, c6, c7, c8, c9])) (D__law_rng : Dn P w K mg base 1 "_law_rng" s__law_rng ["script"] (sp__law_rng K)) (m_len : mg "len" = none) (m_min : mg "min" = none) (m_range : mg "range" = none) (m_repr : mg "repr" = none) : DnG P w K mg base 7 "law" s_law ["script"] (sp_law K) := by
  refine .mk' h fun f fd F => okG F sc_law (fun vs H Q E h => ?_) (fun cdv A outer s H vs Q E hgd hr h => ?_)
  · obtain ⟨a, ns, rfl, hS, hn, q⟩ := h
    rfl
  · obtain ⟨a, ns, rfl, hS, hn, q⟩ := h
    refine ⟨_, (pss_cons (ps_set (i := 1) sc_law.nd rfl (.inl rfl) (pe_c D__law_rng hr (by rfl) (pa_cons (pv 0) pa_nil)))
      (pss_cons (ps_for PassesOwn.never rfl (pi_range1 (by rfl) m_range (pa_cons (pe_op op_add pe_int (pe_callB (call_min2 rfl) (by rfl) m_min (by decide +kernel) (pa_cons pe_int (pa_cons (pe_callB call_len_seq (by rfl) m_len PySem.boot_len (pa_cons (pv 0) pa_nil)) pa_nil)))) pa_nil)) (pg_name (i := 2) sc_law.nd rfl (.inl rfl))
        (pss_cons (ps_set (i := 3) sc_law.nd rfl (.inr rfl) (pe_lst (pa_cons (pe_c D__law_odd hr (by rfl) (pa_cons (pv 1) pa_nil)) (pa_cons (pe_c D__law_odd hr (by rfl) (pa_cons (pv 1) pa_nil)) pa_nil))))
        (pss_cons (ps_setLc (i := 4) (own := [("one", 6)]) (g := gName 6) rfl sc_law.nd rfl rfl (sw_true rfl rfl rfl (by decide +kernel)) (pi_list (pv 3)) (blkOk_by (N := ["script", "rng", "lap", "some", "bad", "due", "one", "door"]) (sc := defScope s_law) (by decide +kernel)) (fun _ _ _ _ _ => pg_name (i := 6) sc_law.nd rfl (Or.inl rfl)) (fun _ _ _ _ _ => pts_one (PW.pt (pw_and (pt_cmpR op_notN (pv 6) pe_non (nomark _)) (pw_and (pt_cmpR (r := rIn K true) op_notIn_seq pe_non (pv 6) (by rfl)) (pw_and1 (pt_cmpR op_gt (pe_ix (r := rIxT K) ix_tup (pv 6) pe_int (fun _ _ => rfl)) (pe_ix (r := rIxT K) ix_tup (pv 6) pe_int (fun _ _ => rfl)) (nomark _))))))) (fun _ _ _ _ _ => (pv 6)))
        (C8.pss_cut (ps_set (i := 5) sc_law.nd rfl (.inl rfl) (pe_ifExp (pt_cmpR (op_neD hr.units) (pv 4) (pe_lst pa_nil) (nomark _)) (pe_tup (pa_cons pe_str (pa_cons (pe_ix ix_list (pv 4) pe_int (fun _ _ => rfl)) pa_nil))) pe_str))
        (pss_cons (ps_if (pt_cmpR op_ne (pe_callB (Gd.call_reprD hgd hr) (by rfl) m_repr (by decide +kernel) (pa_cons (pe_lc (own := [("door", 7)]) (g := gName 7) rfl sc_law.nd (pi_range1 (by rfl) m_range (pa_cons pe_int pa_nil)) (blkOk_by (N := ["script", "rng", "lap", "some", "bad", "due", "one", "door"]) (sc := defScope s_law) (by decide +kernel)) (fun _ _ _ _ _ => pg_name (i := 7) sc_law.nd rfl (Or.inl rfl)) (fun _ _ _ _ _ => pts_nil) (fun _ _ _ _ _ => (pe_c D__law_raised hr (by rfl) (pa_cons (pv 7) (pa_cons (pe_ix (r := rIxL K) ix_list (pv 3) pe_int (fun _ _ => rfl)) (pa_cons (pe_ix (r := rIxL K) ix_list (pv 3) pe_int (fun _ _ => rfl)) pa_nil)))))) pa_nil)) (pe_callB (Gd.call_reprD hgd hr) (by rfl) m_repr (by decide +kernel) (pa_cons (pe_op op_rep (pe_lst (pa_cons (pv 5) pa_nil)) pe_int) pa_nil)) (nomark _))
          (pss_one (ps_ret pe_bl))
          pss_nil)
        (pss_one (ps_if (pt_cmpR (op_neD hr.units) (pe_c D__law_raised hr (by rfl) (pa_cons pe_int (pa_cons (pe_ix ix_list (pv 3) pe_int (fun _ _ => rfl)) (pa_cons pe_non pa_nil)))) (pe_ifExp (pt_cmpR (op_inD (unitsD hr)) (pe_ix ix_list (pv 3) pe_int (fun _ _ => rfl)) (pv 4) (by rfl)) (pe_tup (pa_cons pe_str (pa_cons (pe_ix ix_list (pv 3) pe_int (fun _ _ => rfl)) pa_nil))) pe_str) (nomark _))
          (pss_one (ps_ret pe_bl))
          pss_nil)))))))
      (pss_one (ps_ret pe_bl)))), ?_⟩
    have big : ((30 : Int) + (if (((ns.map V.int).length : Nat) : Int) < 30 then (((ns.map V.int).length : Nat) : Int) else 30)) ≤ 60 ∧ 0 ≤ ((30 : Int) + (if (((ns.map V.int).length : Nat) : Int) < 30 then (((ns.map V.int).length : Nat) : Int) else 30)) := by
      rw [List.length_map]
      split <;> omega
    refine ⟨_, rfl, a, ns, rfl, hS, hn, fun g H1 sm1 ng rs => ?_⟩
    refine ⟨_, rfl, a, _, rfl, .inl (sm1.seq hS), _, _, rfl, _, _, rfl, rfl, _, rfl, ?_, ?_, ?_⟩
    · exact Int.le_trans (by decide) big.2
    · exact Int.lt_of_le_of_lt big.1 (by decide)
    refine for_range (fun i σ H' => RS (30 * i) H' g ∧ ∃ y2 y3 y4 y5 y6 y7, σ = [some (.ref a), some (.ref g), y2, y3, y4, y5, y6, y7]) ⟨rs, _, _, _, _, _, _, rfl⟩ ?_ ?_
    · intro i σ H2 hi hw
      have hi2 : i < 60 := by
        have := big.1
        omega
      obtain ⟨rs2, y2, y3, y4, y5, y6, y7, rfl⟩ := hw
      refine ⟨_, rfl, g, _, rfl, rs2, by omega, fun v1 r1 H3 i1 k3 rs3 hv1 => ?_⟩
      refine ⟨_, rfl, g, _, rfl, rs3, by omega, fun v2 r2 H4 i2 k4 rs4 hv2 => ?_⟩
      have hv1 := hv1.kp rs3 k4
      refine ⟨by show 2 ≤ sizeLine; decide, fun S nS => ?_⟩
      have sS := Same.new (o := .lst [v1, v2]) nS
      have oS : upd H4 S (.lst [v1, v2]) S = some (.lst [v1, v2]) := upd_same
      generalize upd H4 S (.lst [v1, v2]) = H5 at sS oS
      have hv1 := hv1.same sS
      have hv2 := hv2.same sS
      have rs5 := rs4.same sS
      -- bad
      refine ⟨_, rfl, S, rfl, ⟨_, .inl (.inl oS)⟩, fun D nD => ?_⟩
      refine lc_list (K := K) (a := S) (xs := [v1, v2]) (fun k G => Same H5 G ∧ G D = some (.lst (((([(v1, r1), (v2, r2)] : List (V × Rg)).take k).filter fun z => up z.2).map (·.1)))) ⟨Same.new nD, upd_same⟩ (fun k G _ h => .inl (.inl (h.1 _ _ oS))) ?_ ?_
      · rintro k z G ez ⟨sm, oD⟩
        have st : ∃ r, RgV K G z r ∧ ([(v1, r1), (v2, r2)] : List (V × Rg)).take (k + 1) = ([(v1, r1), (v2, r2)] : List (V × Rg)).take k ++ [(z, r)] := by
          match k, ez with
          | 0, ez => cases ez; exact ⟨r1, hv1.same sm, rfl⟩
          | 1, ez => cases ez; exact ⟨r2, hv2.same sm, rfl⟩
          | k + 2, ez => simp at ez
        obtain ⟨r, hz, et⟩ := st
        rw [et, List.filter_append, List.map_append]
        have al : (((([(v1, r1), (v2, r2)] : List (V × Rg)).take k).filter fun z => up z.2).map (·.1)).length < sizeLine := by
          rw [List.length_map]
          exact Nat.lt_of_le_of_lt (Nat.le_trans (List.length_filter_le _ _) (by rw [List.length_take]; exact Nat.min_le_right _ _)) (by show 2 < sizeLine; decide)
        have yes : up r = true → ([(z, r)].filter fun z => up z.2) = [(z, r)] := fun e => by simp [e]
        have no : up r = false → (([(z, r)].filter fun z => up z.2).map (·.1)) = ([] : List V) := fun e => by simp [e]
        have sm2 : ∀ y, Same H5 (upd G D (.lst y)) := fun y b o e => by rw [upd_ne (ne_of_none e nD)]; exact sm _ _ e
        refine ⟨rfl, ?_⟩
        match r, hz, yes, no with
        | none, hz, yes, no =>
          have e : z = .non := hz
          subst e
          refine ⟨_, rfl, rfl, _, rfl, iteF (iteF ⟨sm, ?_⟩)⟩
          rw [no rfl, List.append_nil]
          exact oD
        | some (none, none), ⟨p, e, s⟩, yes, no =>
          subst e
          refine ⟨_, rfl, rfl, _, rfl, iteT ⟨_, rfl, p, _, rfl, .inr s, rfl, rfl, _, rfl, iteF (iteF ⟨sm, ?_⟩)⟩⟩
          rw [no rfl, List.append_nil]
          exact oD
        | some (none, some u), ⟨p, e, s⟩, yes, no =>
          subst e
          refine ⟨_, rfl, rfl, _, rfl, iteT ⟨_, rfl, p, _, rfl, .inr s, rfl, rfl, _, rfl, iteF (iteF ⟨sm, ?_⟩)⟩⟩
          rw [no rfl, List.append_nil]
          exact oD
        | some (some l, none), ⟨p, e, s⟩, yes, no =>
          subst e
          refine ⟨_, rfl, rfl, _, rfl, iteT ⟨_, rfl, p, _, rfl, .inr s, rfl, rfl, _, rfl, iteF (iteF ⟨sm, ?_⟩)⟩⟩
          rw [no rfl, List.append_nil]
          exact oD
        | some (some l, some u), ⟨p, e, s⟩, yes, no =>
          subst e
          refine ⟨_, rfl, rfl, _, rfl, iteT ⟨_, rfl, p, _, rfl, .inr s, rfl, rfl, _, rfl, iteT ?_⟩⟩
          refine ⟨_, rfl, p, _, 0, _, rfl, rfl, s, atI_nat (j := 0) rfl, _, rfl, p, _, 1, _, rfl, rfl, s, atI_nat (j := 1) rfl, l, u, rfl, rfl, decide (u < l), rfl, ?_⟩
          cases c : decide (u < l) with
          | true =>
            rw [yes c]
            exact iteT ⟨_, rfl, _, oD, al, sm2 _, upd_same⟩
          | false =>
            rw [no c, List.append_nil]
            exact iteF ⟨sm, oD⟩
      · rintro G ⟨sm, oD⟩
        have key : ∃ bs : List (V × Rg), ((([(v1, r1), (v2, r2)] : List (V × Rg)).take ([v1, v2] : List V).length).filter fun z => up z.2) = bs ∧ (∀ z ∈ bs, RgV K H5 z.1 z.2 ∧ RgIn (10 ^ 31) z.2) ∧
            (∀ t : Int, t < 4 → badV t v1 v2 r1 r2 = bs.head?.map (·.1)) ∧ ((bs.map fun z => rgD z.2).any fun z => PyData.eqv z (rgD r1)) = up r1 := by
          have f0 : (([(v1, r1), (v2, r2)] : List (V × Rg)).take ([v1, v2] : List V).length) = [(v1, r1), (v2, r2)] := rfl
          rw [f0]
          cases e1 : up r1 with
          | true =>
            refine ⟨(v1, r1) :: ([(v2, r2)].filter fun z => up z.2), by simp [e1], ?_, fun t ht => ?_, ?_⟩
            · intro z mz
              rcases List.mem_cons.mp mz with rfl | mz
              · exact ⟨hv1, i1⟩
              · obtain rfl : z = (v2, r2) := by simpa using (List.mem_filter.mp mz).1
                exact ⟨hv2, i2⟩
            · unfold badV
              rw [if_pos e1]
              rfl
            · rw [List.map_cons, List.any_cons, eqv_rgD, decide_eq_true rfl]
              rfl
          | false =>
            cases e2 : up r2 with
            | true =>
              refine ⟨[(v2, r2)], by simp [e1, e2], ?_, fun t ht => ?_, ?_⟩
              · intro z mz
                obtain rfl : z = (v2, r2) := by simpa using mz
                exact ⟨hv2, i2⟩
              · unfold badV
                rw [if_neg (by rw [e1]; decide), if_pos ht, if_pos e2]
                rfl
              · have ne : r2 ≠ r1 := fun z => by rw [z, e1] at e2; cases e2
                simp [eqv_rgD, ne]
            | false =>
              refine ⟨[], by simp [e1, e2], fun z mz => absurd mz (by simp), fun t ht => ?_, by rfl⟩
              unfold badV
              rw [if_neg (by rw [e1]; decide), if_pos ht, if_neg (by rw [e2]; decide)]
              rfl
        obtain ⟨bs, eb, hbs, hbad, hin⟩ := key
        rw [eb] at oD
        have lyb : Ly 3 (.list (bs.map fun z => rgD z.2)) := Ly.list (lyA_of fun d m => by
          obtain ⟨z, _, rfl⟩ := List.mem_map.mp m
          exact ly_rg _)
        have dpb : ∀ {G' : Hp}, Same H5 G' → DpAll K G' (bs.map (·.1)) (bs.map fun z => rgD z.2) := fun {G'} k => by
          clear eb hbad hin lyb oD
          induction bs with
          | nil => exact .nil
          | cons z bs ih => exact .cons (dp_rg ((hbs z (by simp)).1.same k)) (ih fun y my => hbs y (by simp [my]))
        refine ⟨fun σ' Ga => Same H5 Ga ∧ ∃ dv, σ' = [some (.ref a), some (.ref g), some (.int (0 + (i : Nat))), some (.ref S), some (.ref D), some dv, y6, y7] ∧ Ga D = some (.lst (bs.map (·.1))) ∧ Dp K Ga dv (dueE (bs.head?.map (·.2))), ?_, ?_⟩
        · refine ⟨_, rfl, by show 0 ≤ sizeLine; decide, fun L nL => ?_⟩
          have sL := Same.new (o := .lst []) nL
          have oL : upd G L (.lst []) L = some (.lst []) := upd_same
          generalize upd G L (.lst []) = G2 at sL oL
          have oD2 := sL _ _ oD
          have k2 := sm.trans sL
          refine ⟨.list (bs.map fun z : V × Rg => rgD z.2), .list [], .lst (.inl (.inl oD2)) (dpb k2), .lst (.inl (.inl oL)) .nil, lyb.shaped, rfl, ?_⟩
          match bs, hbs, oD2 with
          | [], hbs, oD2 => exact ⟨false, rfl, iteF ⟨k2, _, rfl, oD2, .str _⟩⟩
          | (w, r) :: tl, hbs, oD2 =>
            refine ⟨true, rfl, iteT ?_⟩
            refine ⟨_, rfl, D, _, 0, _, rfl, rfl, .inl (.inl oD2), atI_nat (j := 0) rfl, by show 2 ≤ sizeLine; decide, fun T1 nT => ?_⟩
            have sT := Same.new (o := .tup [.str "range", w]) nT
            exact ⟨k2.trans sT, _, rfl, sT _ _ oD2, .tup (.inl (.inl upd_same)) (.cons (.str _) (.cons (dp_rg ((hbs _ (by simp)).1.same (k2.trans sT))) .nil))⟩
        · rintro σ' Ga ⟨ka, dv, rfl, oDa, dd⟩
          generalize hbr : bs.head?.map (·.2) = br at dd
          have lt : ∀ r, br = some r → LtR r := fun r e => by
            rw [← hbr] at e
            match bs, hbs, e with
            | (w, r') :: tl, hbs, e =>
              cases e
              exact LtR.of (hbs (w, r') (by simp)).2 (by decide)
          have told : ∀ (t : Int) (Ha Hb : Hp) (v : V), t < 4 → Same H5 Hb → ToldE Ha Hb v (badV t v1 v2 r1 r2) → Dp K Hb v (dueE br) := fun t Ha Hb v ht kb tv => by
            refine told_dp tv ?_
            rw [hbad t ht, ← hbr]
            match bs, hbs with
            | [], _ => exact .inl ⟨rfl, rfl⟩
            | (w, r') :: tl, hbs => exact .inr ⟨w, r', rfl, rfl, (hbs (w, r') (by simp)).1.same kb⟩
          have sz : SzR r1 := LtR.sz (LtR.of i1 (by decide))
          refine ⟨4, rfl, by decide, by decide, fun D2 nD2 => ?_⟩
          refine lc_range (n := 4) (fun j Gb => Same Ga Gb ∧ ∃ ys, Gb D2 = some (.lst ys) ∧ ys.length = j ∧ DpAll K Gb ys (List.replicate j (dueE br)))
            ⟨Same.new nD2, [], upd_same, rfl, .nil⟩ ?_ ?_
          · rintro j Gb hj ⟨kb, ys, oD2, ly, da⟩
            have kab := ka.trans kb
            refine ⟨rfl, _, rfl, _, rfl, S, _, 0, _, rfl, rfl, .inl (.inl (kab _ _ oS)), atI_nat (j := 0) rfl, _, rfl, S, _, 1, _, rfl, rfl, .inl (.inl (kab _ _ oS)), atI_nat (j := 1) rfl, ?_⟩
            refine ⟨_, v1, v2, r1, r2, rfl, by omega, by omega, hv1.same kab, hv2.same kab, sz, fun v Gc kc tv => ?_⟩
            have oD2' := kc _ _ oD2
            refine ⟨ys, oD2', by rw [ly]; exact Nat.lt_of_le_of_lt (by omega : j ≤ 100) (by decide), fun b o e => ?_, ys ++ [v], upd_same, by rw [List.length_append, ly]; rfl, ?_⟩
            · rw [upd_ne (ne_of_none e nD2)]
              exact kc _ _ (kb _ _ e)
            · have dv' := told _ _ _ v (by omega) (kab.trans kc) tv
              have er : List.replicate (j + 1) (dueE br) = List.replicate j (dueE br) ++ [dueE br] := List.replicate_succ'
              rw [er]
              refine dpa_kl ⟨⟨_, oD2'⟩, Kp.at⟩ (dpa_app (dpa_same kc da) (.cons dv' .nil)) fun d md => ?_
              have : d = dueE br := by
                rcases List.mem_append.mp md with md | md
                · exact List.eq_of_mem_replicate md
                · simpa using md
              rw [this]
              exact dueE_noL br
          · rintro Gb ⟨kb, ys, oD2, ly, da⟩
            have dok : DOk 200 5 (.list (List.replicate 4 (dueE br))) := by
              have e := dueE_ok lt
              exact (DOk.list (.cons e (.cons e (.cons e (.cons e .nil))))).mono (by decide) (by decide)
            refine ⟨.ref D2, _, 200, 5, rfl, .lst (.inl (.inl oD2)) da, dok, by decide, by decide, ⟨D2, rfl⟩, ?_⟩
            refine ⟨_, rfl, by show 1 ≤ sizeLine; decide, fun L nL => ?_⟩
            have sL := Same.new (o := .lst [dv]) nL
            have oL : upd Gb L (.lst [dv]) L = some (.lst [dv]) := upd_same
            generalize upd Gb L (.lst [dv]) = Gc at sL oL
            refine ⟨L, 4, _, rfl, rfl, oL, by decide, by decide, by show 1 * 4 ≤ sizeLine; decide, fun R nR => ?_⟩
            have sR : Same Gc (upd Gc R (.lst (List.replicate (Int.toNat 4) [dv]).flatten)) := Same.new nR
            have oR : upd Gc R (.lst (List.replicate (Int.toNat 4) [dv]).flatten) R = some (.lst [dv, dv, dv, dv]) := upd_same
            generalize upd Gc R (.lst (List.replicate (Int.toNat 4) [dv]).flatten) = Gd at sR oR ⊢
            have kd := (kb.trans sL).trans sR
            have kad := ka.trans kd
            have dd' := dp_same kd dd
            refine ⟨.ref R, .list (List.replicate 4 (dueE br)), 200, 5, rfl, .lst (.inl (.inl oR)) (.cons dd' (.cons dd' (.cons dd' (.cons dd' .nil)))), dok, by decide, by decide, ⟨R, rfl⟩, rfl, false, sNeF, iteF ?_⟩
            refine ⟨_, rfl, S, _, 0, _, rfl, rfl, .inl (.inl (kad _ _ oS)), atI_nat (j := 0) rfl, ?_⟩
            refine ⟨4, v1, .non, r1, none, rfl, by decide, by decide, hv1.same kad, rfl, sz, fun v Ge ke tv => ?_⟩
            have kae := kad.trans ke
            have tv' : Dp K Ge v (dueE (if up r1 = true then some r1 else none)) := told_dp tv (by
              unfold badV
              cases c : up r1 with
              | true => exact .inr ⟨v1, r1, rfl, rfl, hv1.same kae⟩
              | false => exact .inl ⟨rfl, rfl⟩)
            refine ⟨_, rfl, S, _, 0, _, rfl, rfl, .inl (.inl (kae _ _ oS)), atI_nat (j := 0) rfl, _, rfl, rgD r1, bs.map fun z : V × Rg => rgD z.2, dp_rg (hv1.same kae), .lst (.inl (.inl ((kd.trans ke) _ _ oDa))) (dpb kae), shaped_rgD r1, lyb.shaped, up r1, congrArg V.bl hin, ?_⟩
            have rsE := (rs5.same kae).mono (show 30 * i + 24 ≤ 30 * (i + 1) by omega)
            cases c : up r1 with
            | true =>
              rw [c] at tv'
              refine iteT ⟨_, rfl, S, _, 0, _, rfl, rfl, .inl (.inl (kae _ _ oS)), atI_nat (j := 0) rfl, by show 2 ≤ sizeLine; decide, fun T1 nT => ?_⟩
              have sT := Same.new (o := .tup [.str "range", v1]) nT
              have oT : upd Ge T1 (.tup [.str "range", v1]) T1 = some (.tup [.str "range", v1]) := upd_same
              generalize upd Ge T1 (.tup [.str "range", v1]) = Gf at sT oT
              refine ⟨_, dueE (some r1), dp_same sT tv', .tup (.inl (.inl oT)) (.cons (.str _) (.cons (dp_rg (hv1.same (kae.trans sT))) .nil)), (dueE_ly _).shaped, (dueE_ly _).shaped, false, ?_, iteF ⟨rsE.same sT, _, _, _, _, _, _, rfl⟩⟩
              show V.bl (!PyData.eqv (dueE (some r1)) (dueE (some r1))) = _
              rw [(dueE_ly (some r1)).eqv]
              rfl
            | false =>
              rw [c] at tv'
              refine iteF ⟨_, dueE none, tv', .str _, (dueE_ly _).shaped, (dueE_ly none).shaped, false, ?_, iteF ⟨rsE, _, _, _, _, _, _, rfl⟩⟩
              show V.bl (!PyData.eqv (dueE none) (dueE none)) = _
              rw [(dueE_ly none).eqv]
              rfl
    · intro σ H' hw
      obtain ⟨_, y2, y3, y4, y5, y6, y7, rfl⟩ := hw
      exact q _
end

end Pk04
namespace Pk04
open PySem PySem.Spec PyProof.Rows L2 Gd
set_option maxHeartbeats 8000000
variable {P : Program} {w : World} {K : PySem.W.Frag} {mg : Str → Option Value}
theorem at_mk {x : Str} {st : Stmt} {ps : List Str} {h : Heap} {f : Addr} {oc : Value} {od an : Option Addr} {sl : Array (Option Value)} {kV dc pm cd ct : Value} (X : K.In h) (G : h.Ns mainGlobals mg) (a : PySem.W.nsIn K mainGlobals x = some (some (.ref f))) (l : K.lookup f = some ⟨oc, od, .func (PySem.W.fnOf x x (defArgs st) (defBody st) (defScope st) .none kV dc pm an cd ct), sl⟩) (c : PySem.W.codeIn K cd x = true) (k : PySem.W.keepIn K (.ref f) = true)
    (b : ∀ (kV doc pm : Value) (an : Option Addr) (cdv ct : Value) (us : List Value), us.length = ps.length → bindArgs (PySem.W.fnOf x x (defArgs st) (defBody st) (defScope st) .none kV doc pm an cdv ct) ⟨us, []⟩ = pure (ps.zip us)) : At K mg x st ps :=
  ⟨f, _, fun_mk l c k, (fun_mk l c k).binds b, PySem.W.mg_of X G a⟩
theorem all_mk {l : PySem.W.OpenLaw} {h : Heap} {fa : Addr} (X : K.In h) (G : h.Ns mainGlobals mg) (hfa : mg "law" = some (.ref fa))
    {f0 f1 f2 f3 f4 f5 f6 f7 f8 f9 f10 f11 f12 f13 f14 f15 f16 f17 f18 f19 f20 : Addr} {od0 an0 od1 an1 od2 an2 od3 an3 od4 an4 od5 an5 od6 an6 od7 an7 od8 an8 od9 an9 od10 an10 od11 an11 od12 an12 od13 an13 od14 an14 od15 an15 od16 an16 od17 an17 od18 an18 od19 an19 od20 an20 : Option Addr} {sl0 sl1 sl2 sl3 sl4 sl5 sl6 sl7 sl8 sl9 sl10 sl11 sl12 sl13 sl14 sl15 sl16 sl17 sl18 sl19 sl20 : Array (Option Value)} {oc0 kV0 dc0 pm0 cd0 ct0 oc1 kV1 dc1 pm1 cd1 ct1 oc2 kV2 dc2 pm2 cd2 ct2 oc3 kV3 dc3 pm3 cd3 ct3 oc4 kV4 dc4 pm4 cd4 ct4 oc5 kV5 dc5 pm5 cd5 ct5 oc6 kV6 dc6 pm6 cd6 ct6 oc7 kV7 dc7 pm7 cd7 ct7 oc8 kV8 dc8 pm8 cd8 ct8 oc9 kV9 dc9 pm9 cd9 ct9 oc10 kV10 dc10 pm10 cd10 ct10 oc11 kV11 dc11 pm11 cd11 ct11 oc12 kV12 dc12 pm12 cd12 ct12 oc13 kV13 dc13 pm13 cd13 ct13 oc14 kV14 dc14 pm14 cd14 ct14 oc15 kV15 dc15 pm15 cd15 ct15 oc16 kV16 dc16 pm16 cd16 ct16 oc17 kV17 dc17 pm17 cd17 ct17 oc18 kV18 dc18 pm18 cd18 ct18 oc19 kV19 dc19 pm19 cd19 ct19 oc20 kV20 dc20 pm20 cd20 ct20 : Value}

    {e0 eN0 e1 eN1 e2 eN2 e3 eN3 e4 eN4 e5 eN5 e6 eN6 e7 eN7 e8 eN8 e9 eN9 : Addr} {en0 eq0 en1 eq1 en2 eq2 en3 eq3 en4 eq4 en5 eq5 en6 eq6 en7 eq7 en8 eq8 en9 eq9 : Str} {ebs0 ebm0 esub0 ebs1 ebm1 esub1 ebs2 ebm2 esub2 ebs3 ebm3 esub3 ebs4 ebm4 esub4 ebs5 ebm5 esub5 ebs6 ebm6 esub6 ebs7 ebm7 esub7 ebs8 ebm8 esub8 ebs9 ebm9 esub9 : List Value} {esn0 esn1 esn2 esn3 esn4 esn5 esn6 esn7 esn8 esn9 : List Str} {eab0 eab1 eab2 eab3 eab4 eab5 eab6 eab7 eab8 eab9 : Bool} {ecol0 ecol1 ecol2 ecol3 ecol4 ecol5 ecol6 ecol7 ecol8 ecol9 : Option Bool} {edd0 edd1 edd2 edd3 edd4 edd5 edd6 edd7 edd8 edd9 : Option Addr} {ek00 ek10 ek20 ek30 ek50 ek01 ek11 ek21 ek31 ek51 ek02 ek12 ek22 ek32 ek52 ek03 ek13 ek23 ek33 ek53 ek04 ek14 ek24 ek34 ek54 ek05 ek15 ek25 ek35 ek55 ek06 ek16 ek26 ek36 ek56 ek07 ek17 ek27 ek37 ek57 ek08 ek18 ek28 ek38 ek58 ek09 ek19 ek29 ek39 ek59 : Option Value}
    (xn0 : PySem.W.nsIn K mainGlobals "RangeError" = some (some (.ref e0)))
    (xl0 : K.lookup e0 = some (excClassObj en0 eq0 e0 eN0 ebs0 ebm0 true esn0 esub0 eab0 ecol0 edd0 ek00 ek10 ek20 ek30 ek50 "ValueError.__new__"))
    (xr0 : PySem.HandSPX.refsVE ebm0 = true)
    (xn1 : PySem.W.nsIn K mainGlobals "InvalidRange" = some (some (.ref e1)))
    (xl1 : K.lookup e1 = some (excClassObj en1 eq1 e1 eN1 ebs1 ebm1 true esn1 esub1 eab1 ecol1 edd1 ek01 ek11 ek21 ek31 ek51 "ValueError.__new__"))
    (xr1 : PySem.HandSPX.refsVE ebm1 = true)
    (xn2 : PySem.W.nsIn K mainGlobals "InvalidName" = some (some (.ref e2)))
    (xl2 : K.lookup e2 = some (excClassObj en2 eq2 e2 eN2 ebs2 ebm2 true esn2 esub2 eab2 ecol2 edd2 ek02 ek12 ek22 ek32 ek52 "ValueError.__new__"))
    (xr2 : PySem.HandSPX.refsVE ebm2 = true)
    (xn3 : PySem.W.nsIn K mainGlobals "InvalidSystem" = some (some (.ref e3)))
    (xl3 : K.lookup e3 = some (excClassObj en3 eq3 e3 eN3 ebs3 ebm3 true esn3 esub3 eab3 ecol3 edd3 ek03 ek13 ek23 ek33 ek53 "ValueError.__new__"))
    (xr3 : PySem.HandSPX.refsVE ebm3 = true)
    (xn4 : PySem.W.nsIn K mainGlobals "InvalidRule" = some (some (.ref e4)))
    (xl4 : K.lookup e4 = some (excClassObj en4 eq4 e4 eN4 ebs4 ebm4 true esn4 esub4 eab4 ecol4 edd4 ek04 ek14 ek24 ek34 ek54 "ValueError.__new__"))
    (xr4 : PySem.HandSPX.refsVE ebm4 = true)
    (xn5 : PySem.W.nsIn K mainGlobals "UnknownName" = some (some (.ref e5)))
    (xl5 : K.lookup e5 = some (excClassObj en5 eq5 e5 eN5 ebs5 ebm5 true esn5 esub5 eab5 ecol5 edd5 ek05 ek15 ek25 ek35 ek55 "ValueError.__new__"))
    (xr5 : PySem.HandSPX.refsVE ebm5 = true)
    (xn6 : PySem.W.nsIn K mainGlobals "InvalidNumber" = some (some (.ref e6)))
    (xl6 : K.lookup e6 = some (excClassObj en6 eq6 e6 eN6 ebs6 ebm6 true esn6 esub6 eab6 ecol6 edd6 ek06 ek16 ek26 ek36 ek56 "ValueError.__new__"))
    (xr6 : PySem.HandSPX.refsVE ebm6 = true)
    (xn7 : PySem.W.nsIn K mainGlobals "InvalidMove" = some (some (.ref e7)))
    (xl7 : K.lookup e7 = some (excClassObj en7 eq7 e7 eN7 ebs7 ebm7 true esn7 esub7 eab7 ecol7 edd7 ek07 ek17 ek27 ek37 ek57 "ValueError.__new__"))
    (xr7 : PySem.HandSPX.refsVE ebm7 = true)
    (xn8 : PySem.W.nsIn K mainGlobals "NothingToUndo" = some (some (.ref e8)))
    (xl8 : K.lookup e8 = some (excClassObj en8 eq8 e8 eN8 ebs8 ebm8 true esn8 esub8 eab8 ecol8 edd8 ek08 ek18 ek28 ek38 ek58 "ValueError.__new__"))
    (xr8 : PySem.HandSPX.refsVE ebm8 = true)
    (xn9 : PySem.W.nsIn K mainGlobals "Unreadable" = some (some (.ref e9)))
    (xl9 : K.lookup e9 = some (excClassObj en9 eq9 e9 eN9 ebs9 ebm9 true esn9 esub9 eab9 ecol9 edd9 ek09 ek19 ek29 ek39 ek59 "ValueError.__new__"))
    (xr9 : PySem.HandSPX.refsVE ebm9 = true)
    (xi : PySem.W.findIn K (.ref e0) "__init__" = some (some (.ref f16)))
    (xb0 : errB K e0 f16 = true)
    (xk0 : kitB K e0 0 0 [e0, e1, e2, e3, e4, e5, e6, e7, e8, e9] = true)
    (xb1 : errB K e1 f16 = true)
    (xk1 : kitB K e1 1 0 [e0, e1, e2, e3, e4, e5, e6, e7, e8, e9] = true)
    (xb2 : errB K e2 f16 = true)
    (xk2 : kitB K e2 2 0 [e0, e1, e2, e3, e4, e5, e6, e7, e8, e9] = true)
    (xb3 : errB K e3 f16 = true)
    (xk3 : kitB K e3 3 0 [e0, e1, e2, e3, e4, e5, e6, e7, e8, e9] = true)
    (xb4 : errB K e4 f16 = true)
    (xk4 : kitB K e4 4 0 [e0, e1, e2, e3, e4, e5, e6, e7, e8, e9] = true)
    (xb5 : errB K e5 f16 = true)
    (xk5 : kitB K e5 5 0 [e0, e1, e2, e3, e4, e5, e6, e7, e8, e9] = true)
    (xb6 : errB K e6 f16 = true)
    (xk6 : kitB K e6 6 0 [e0, e1, e2, e3, e4, e5, e6, e7, e8, e9] = true)
    (xb7 : errB K e7 f16 = true)
    (xk7 : kitB K e7 7 0 [e0, e1, e2, e3, e4, e5, e6, e7, e8, e9] = true)
    (xb8 : errB K e8 f16 = true)
    (xk8 : kitB K e8 8 0 [e0, e1, e2, e3, e4, e5, e6, e7, e8, e9] = true)
    (xb9 : errB K e9 f16 = true)
    (xk9 : kitB K e9 9 0 [e0, e1, e2, e3, e4, e5, e6, e7, e8, e9] = true)
    (xj : initB K f16 = true)
    (a0 : PySem.W.nsIn K mainGlobals "is_upside_down" = some (some (.ref f0))) (l0 : K.lookup f0 = some ⟨oc0, od0, .func (PySem.W.fnOf "is_upside_down" "is_upside_down" (defArgs s_is_upside_down) (defBody s_is_upside_down) (defScope s_is_upside_down) .none kV0 dc0 pm0 an0 cd0 ct0), sl0⟩) (c0 : PySem.W.codeIn K cd0 "is_upside_down" = true) (k0 : PySem.W.keepIn K (.ref f0) = true)
    (a1 : PySem.W.nsIn K mainGlobals "check_range" = some (some (.ref f1))) (l1 : K.lookup f1 = some ⟨oc1, od1, .func (PySem.W.fnOf "check_range" "check_range" (defArgs s_check_range) (defBody s_check_range) (defScope s_check_range) .none kV1 dc1 pm1 an1 cd1 ct1), sl1⟩) (c1 : PySem.W.codeIn K cd1 "check_range" = true) (k1 : PySem.W.keepIn K (.ref f1) = true)
    (a2 : PySem.W.nsIn K mainGlobals "_least" = some (some (.ref f2))) (l2 : K.lookup f2 = some ⟨oc2, od2, .func (PySem.W.fnOf "_least" "_least" (defArgs s__least) (defBody s__least) (defScope s__least) .none kV2 dc2 pm2 an2 cd2 ct2), sl2⟩) (c2 : PySem.W.codeIn K cd2 "_least" = true) (k2 : PySem.W.keepIn K (.ref f2) = true)
    (a3 : PySem.W.nsIn K mainGlobals "_greatest" = some (some (.ref f3))) (l3 : K.lookup f3 = some ⟨oc3, od3, .func (PySem.W.fnOf "_greatest" "_greatest" (defArgs s__greatest) (defBody s__greatest) (defScope s__greatest) .none kV3 dc3 pm3 an3 cd3 ct3), sl3⟩) (c3 : PySem.W.codeIn K cd3 "_greatest" = true) (k3 : PySem.W.keepIn K (.ref f3) = true)
    (a4 : PySem.W.nsIn K mainGlobals "common" = some (some (.ref f4))) (l4 : K.lookup f4 = some ⟨oc4, od4, .func (PySem.W.fnOf "common" "common" (defArgs s_common) (defBody s_common) (defScope s_common) .none kV4 dc4 pm4 an4 cd4 ct4), sl4⟩) (c4 : PySem.W.codeIn K cd4 "common" = true) (k4 : PySem.W.keepIn K (.ref f4) = true)
    (a5 : PySem.W.nsIn K mainGlobals "meets" = some (some (.ref f5))) (l5 : K.lookup f5 = some ⟨oc5, od5, .func (PySem.W.fnOf "meets" "meets" (defArgs s_meets) (defBody s_meets) (defScope s_meets) .none kV5 dc5 pm5 an5 cd5 ct5), sl5⟩) (c5 : PySem.W.codeIn K cd5 "meets" = true) (k5 : PySem.W.keepIn K (.ref f5) = true)
    (a6 : PySem.W.nsIn K mainGlobals "lies_within" = some (some (.ref f6))) (l6 : K.lookup f6 = some ⟨oc6, od6, .func (PySem.W.fnOf "lies_within" "lies_within" (defArgs s_lies_within) (defBody s_lies_within) (defScope s_lies_within) .none kV6 dc6 pm6 an6 cd6 ct6), sl6⟩) (c6 : PySem.W.codeIn K cd6 "lies_within" = true) (k6 : PySem.W.keepIn K (.ref f6) = true)
    (a7 : PySem.W.nsIn K mainGlobals "_least_or_none" = some (some (.ref f7))) (l7 : K.lookup f7 = some ⟨oc7, od7, .func (PySem.W.fnOf "_least_or_none" "_least_or_none" (defArgs s__least_or_none) (defBody s__least_or_none) (defScope s__least_or_none) .none kV7 dc7 pm7 an7 cd7 ct7), sl7⟩) (c7 : PySem.W.codeIn K cd7 "_least_or_none" = true) (k7 : PySem.W.keepIn K (.ref f7) = true)
    (a8 : PySem.W.nsIn K mainGlobals "_greatest_or_none" = some (some (.ref f8))) (l8 : K.lookup f8 = some ⟨oc8, od8, .func (PySem.W.fnOf "_greatest_or_none" "_greatest_or_none" (defArgs s__greatest_or_none) (defBody s__greatest_or_none) (defScope s__greatest_or_none) .none kV8 dc8 pm8 an8 cd8 ct8), sl8⟩) (c8 : PySem.W.codeIn K cd8 "_greatest_or_none" = true) (k8 : PySem.W.keepIn K (.ref f8) = true)
    (a9 : PySem.W.nsIn K mainGlobals "joined" = some (some (.ref f9))) (l9 : K.lookup f9 = some ⟨oc9, od9, .func (PySem.W.fnOf "joined" "joined" (defArgs s_joined) (defBody s_joined) (defScope s_joined) .none kV9 dc9 pm9 an9 cd9 ct9), sl9⟩) (c9 : PySem.W.codeIn K cd9 "joined" = true) (k9 : PySem.W.keepIn K (.ref f9) = true)
    (a10 : PySem.W.nsIn K mainGlobals "_taken" = some (some (.ref f10))) (l10 : K.lookup f10 = some ⟨oc10, od10, .func (PySem.W.fnOf "_taken" "_taken" (defArgs s__taken) (defBody s__taken) (defScope s__taken) .none kV10 dc10 pm10 an10 cd10 ct10), sl10⟩) (c10 : PySem.W.codeIn K cd10 "_taken" = true) (k10 : PySem.W.keepIn K (.ref f10) = true)
    (a11 : PySem.W.nsIn K mainGlobals "stepped" = some (some (.ref f11))) (l11 : K.lookup f11 = some ⟨oc11, od11, .func (PySem.W.fnOf "stepped" "stepped" (defArgs s_stepped) (defBody s_stepped) (defScope s_stepped) .none kV11 dc11 pm11 an11 cd11 ct11), sl11⟩) (c11 : PySem.W.codeIn K cd11 "stepped" = true) (k11 : PySem.W.keepIn K (.ref f11) = true)
    (a12 : PySem.W.nsIn K mainGlobals "_law_draw" = some (some (.ref f12))) (l12 : K.lookup f12 = some ⟨oc12, od12, .func (PySem.W.fnOf "_law_draw" "_law_draw" (defArgs s__law_draw) (defBody s__law_draw) (defScope s__law_draw) .none kV12 dc12 pm12 an12 cd12 ct12), sl12⟩) (c12 : PySem.W.codeIn K cd12 "_law_draw" = true) (k12 : PySem.W.keepIn K (.ref f12) = true)
    (a13 : PySem.W.nsIn K mainGlobals "_law_rng" = some (some (.ref f13))) (l13 : K.lookup f13 = some ⟨oc13, od13, .func (PySem.W.fnOf "_law_rng" "_law_rng" (defArgs s__law_rng) (defBody s__law_rng) (defScope s__law_rng) .none kV13 dc13 pm13 an13 cd13 ct13), sl13⟩) (c13 : PySem.W.codeIn K cd13 "_law_rng" = true) (k13 : PySem.W.keepIn K (.ref f13) = true)
    (a14 : PySem.W.nsIn K mainGlobals "_law_bound" = some (some (.ref f14))) (l14 : K.lookup f14 = some ⟨oc14, od14, .func (PySem.W.fnOf "_law_bound" "_law_bound" (defArgs s__law_bound) (defBody s__law_bound) (defScope s__law_bound) .none kV14 dc14 pm14 an14 cd14 ct14), sl14⟩) (c14 : PySem.W.codeIn K cd14 "_law_bound" = true) (k14 : PySem.W.keepIn K (.ref f14) = true)
    (a15 : PySem.W.nsIn K mainGlobals "_law_range" = some (some (.ref f15))) (l15 : K.lookup f15 = some ⟨oc15, od15, .func (PySem.W.fnOf "_law_range" "_law_range" (defArgs s__law_range) (defBody s__law_range) (defScope s__law_range) .none kV15 dc15 pm15 an15 cd15 ct15), sl15⟩) (c15 : PySem.W.codeIn K cd15 "_law_range" = true) (k15 : PySem.W.keepIn K (.ref f15) = true)
    (l16 : K.lookup f16 = some ⟨oc16, od16, .func (PySem.W.fnOf "__init__" "RangeError.__init__" (defArgs s_RangeError___init__) (defBody s_RangeError___init__) (defScope s_RangeError___init__) .none kV16 dc16 pm16 an16 cd16 ct16), sl16⟩) (c16 : PySem.W.codeIn K cd16 "RangeError.__init__" = true) (k16 : PySem.W.keepIn K (.ref f16) = true)
    (a17 : PySem.W.nsIn K mainGlobals "_law_caught" = some (some (.ref f17))) (l17 : K.lookup f17 = some ⟨oc17, od17, .func (PySem.W.fnOf "_law_caught" "_law_caught" (defArgs s__law_caught) (defBody s__law_caught) (defScope s__law_caught) .none kV17 dc17 pm17 an17 cd17 ct17), sl17⟩) (c17 : PySem.W.codeIn K cd17 "_law_caught" = true) (k17 : PySem.W.keepIn K (.ref f17) = true)
    (a18 : PySem.W.nsIn K mainGlobals "_law_raised" = some (some (.ref f18))) (l18 : K.lookup f18 = some ⟨oc18, od18, .func (PySem.W.fnOf "_law_raised" "_law_raised" (defArgs s__law_raised) (defBody s__law_raised) (defScope s__law_raised) .none kV18 dc18 pm18 an18 cd18 ct18), sl18⟩) (c18 : PySem.W.codeIn K cd18 "_law_raised" = true) (k18 : PySem.W.keepIn K (.ref f18) = true)
    (a19 : PySem.W.nsIn K mainGlobals "_law_odd" = some (some (.ref f19))) (l19 : K.lookup f19 = some ⟨oc19, od19, .func (PySem.W.fnOf "_law_odd" "_law_odd" (defArgs s__law_odd) (defBody s__law_odd) (defScope s__law_odd) .none kV19 dc19 pm19 an19 cd19 ct19), sl19⟩) (c19 : PySem.W.codeIn K cd19 "_law_odd" = true) (k19 : PySem.W.keepIn K (.ref f19) = true)
    (a20 : PySem.W.nsIn K mainGlobals "law" = some (some (.ref f20))) (l20 : K.lookup f20 = some ⟨oc20, od20, .func (PySem.W.fnOf "law" "law" (defArgs s_law) (defBody s_law) (defScope s_law) .none kV20 dc20 pm20 an20 cd20 ct20), sl20⟩) (c20 : PySem.W.codeIn K cd20 "law" = true) (k20 : PySem.W.keepIn K (.ref f20) = true)
    (z0 : PySem.W.nsIn K mainGlobals "ValueError" = some none)
    (z1 : PySem.W.nsIn K mainGlobals "abs" = some none)
    (z2 : PySem.W.nsIn K mainGlobals "int" = some none)
    (z3 : PySem.W.nsIn K mainGlobals "isinstance" = some none)
    (z4 : PySem.W.nsIn K mainGlobals "len" = some none)
    (z5 : PySem.W.nsIn K mainGlobals "max" = some none)
    (z6 : PySem.W.nsIn K mainGlobals "min" = some none)
    (z7 : PySem.W.nsIn K mainGlobals "range" = some none)
    (z8 : PySem.W.nsIn K mainGlobals "repr" = some none)
    : ∃ fd : FuncData, (∀ (s : Shared) (v : Value), BindsTo s fd ⟨[v], []⟩ [("script", v)]) ∧ ∀ base : Heap, K.In base → base.Ns mainGlobals mg → FnGd l.prog w K mg base 7 fa fd ["script"] (sp_law K) := by
  have e := hfa.symm.trans (PySem.W.mg_of X G a20)
  cases e
  have XE : ErrT K mg [e0, e1, e2, e3, e4, e5, e6, e7, e8, e9] ["RangeError", "InvalidRange", "InvalidName", "InvalidSystem", "InvalidRule", "UnknownName", "InvalidNumber", "InvalidMove", "NothingToUndo", "Unreadable"] f16 := by
    refine ⟨fun i C x hc hx => ?_, fun i j C D hc hd => ?_, fun i C hc => ?_, rfl⟩
    · match i, hc, hx with
      | 0, hc, hx => obtain rfl := Option.some.inj hc; obtain rfl := Option.some.inj hx; exact ext_mk ⟨_, _, _, _, _, _, _, _, _, _, _, _, _, _, _, xl0, xr0⟩ (PySem.W.mg_of X G xn0) xb0 xj
      | 1, hc, hx => obtain rfl := Option.some.inj hc; obtain rfl := Option.some.inj hx; exact ext_mk ⟨_, _, _, _, _, _, _, _, _, _, _, _, _, _, _, xl1, xr1⟩ (PySem.W.mg_of X G xn1) xb1 xj
      | 2, hc, hx => obtain rfl := Option.some.inj hc; obtain rfl := Option.some.inj hx; exact ext_mk ⟨_, _, _, _, _, _, _, _, _, _, _, _, _, _, _, xl2, xr2⟩ (PySem.W.mg_of X G xn2) xb2 xj
      | 3, hc, hx => obtain rfl := Option.some.inj hc; obtain rfl := Option.some.inj hx; exact ext_mk ⟨_, _, _, _, _, _, _, _, _, _, _, _, _, _, _, xl3, xr3⟩ (PySem.W.mg_of X G xn3) xb3 xj
      | 4, hc, hx => obtain rfl := Option.some.inj hc; obtain rfl := Option.some.inj hx; exact ext_mk ⟨_, _, _, _, _, _, _, _, _, _, _, _, _, _, _, xl4, xr4⟩ (PySem.W.mg_of X G xn4) xb4 xj
      | 5, hc, hx => obtain rfl := Option.some.inj hc; obtain rfl := Option.some.inj hx; exact ext_mk ⟨_, _, _, _, _, _, _, _, _, _, _, _, _, _, _, xl5, xr5⟩ (PySem.W.mg_of X G xn5) xb5 xj
      | 6, hc, hx => obtain rfl := Option.some.inj hc; obtain rfl := Option.some.inj hx; exact ext_mk ⟨_, _, _, _, _, _, _, _, _, _, _, _, _, _, _, xl6, xr6⟩ (PySem.W.mg_of X G xn6) xb6 xj
      | 7, hc, hx => obtain rfl := Option.some.inj hc; obtain rfl := Option.some.inj hx; exact ext_mk ⟨_, _, _, _, _, _, _, _, _, _, _, _, _, _, _, xl7, xr7⟩ (PySem.W.mg_of X G xn7) xb7 xj
      | 8, hc, hx => obtain rfl := Option.some.inj hc; obtain rfl := Option.some.inj hx; exact ext_mk ⟨_, _, _, _, _, _, _, _, _, _, _, _, _, _, _, xl8, xr8⟩ (PySem.W.mg_of X G xn8) xb8 xj
      | 9, hc, hx => obtain rfl := Option.some.inj hc; obtain rfl := Option.some.inj hx; exact ext_mk ⟨_, _, _, _, _, _, _, _, _, _, _, _, _, _, _, xl9, xr9⟩ (PySem.W.mg_of X G xn9) xb9 xj
      | n + 10, hc, _ => simp at hc
    · match i, hc with
      | 0, hc => obtain rfl := Option.some.inj hc; have z := (kitB_at xk0).1 j D hd; rw [Nat.zero_add] at z; exact z
      | 1, hc => obtain rfl := Option.some.inj hc; have z := (kitB_at xk1).1 j D hd; rw [Nat.zero_add] at z; exact z
      | 2, hc => obtain rfl := Option.some.inj hc; have z := (kitB_at xk2).1 j D hd; rw [Nat.zero_add] at z; exact z
      | 3, hc => obtain rfl := Option.some.inj hc; have z := (kitB_at xk3).1 j D hd; rw [Nat.zero_add] at z; exact z
      | 4, hc => obtain rfl := Option.some.inj hc; have z := (kitB_at xk4).1 j D hd; rw [Nat.zero_add] at z; exact z
      | 5, hc => obtain rfl := Option.some.inj hc; have z := (kitB_at xk5).1 j D hd; rw [Nat.zero_add] at z; exact z
      | 6, hc => obtain rfl := Option.some.inj hc; have z := (kitB_at xk6).1 j D hd; rw [Nat.zero_add] at z; exact z
      | 7, hc => obtain rfl := Option.some.inj hc; have z := (kitB_at xk7).1 j D hd; rw [Nat.zero_add] at z; exact z
      | 8, hc => obtain rfl := Option.some.inj hc; have z := (kitB_at xk8).1 j D hd; rw [Nat.zero_add] at z; exact z
      | 9, hc => obtain rfl := Option.some.inj hc; have z := (kitB_at xk9).1 j D hd; rw [Nat.zero_add] at z; exact z
      | n + 10, hc => simp at hc
    · match i, hc with
      | 0, hc => obtain rfl := Option.some.inj hc; exact (kitB_at xk0).2
      | 1, hc => obtain rfl := Option.some.inj hc; exact (kitB_at xk1).2
      | 2, hc => obtain rfl := Option.some.inj hc; exact (kitB_at xk2).2
      | 3, hc => obtain rfl := Option.some.inj hc; exact (kitB_at xk3).2
      | 4, hc => obtain rfl := Option.some.inj hc; exact (kitB_at xk4).2
      | 5, hc => obtain rfl := Option.some.inj hc; exact (kitB_at xk5).2
      | 6, hc => obtain rfl := Option.some.inj hc; exact (kitB_at xk6).2
      | 7, hc => obtain rfl := Option.some.inj hc; exact (kitB_at xk7).2
      | 8, hc => obtain rfl := Option.some.inj hc; exact (kitB_at xk8).2
      | 9, hc => obtain rfl := Option.some.inj hc; exact (kitB_at xk9).2
      | n + 10, hc => simp at hc
  have A0 : At K mg "is_upside_down" s_is_upside_down ["one"] := at_mk X G a0 l0 c0 k0 fun _ _ _ _ _ _ us hl => match us, hl with | [_], _ => rfl
  have A1 : At K mg "check_range" s_check_range ["one"] := at_mk X G a1 l1 c1 k1 fun _ _ _ _ _ _ us hl => match us, hl with | [_], _ => rfl
  have A2 : At K mg "_least" s__least ["one", "other"] := at_mk X G a2 l2 c2 k2 fun _ _ _ _ _ _ us hl => match us, hl with | [_, _], _ => rfl
  have A3 : At K mg "_greatest" s__greatest ["one", "other"] := at_mk X G a3 l3 c3 k3 fun _ _ _ _ _ _ us hl => match us, hl with | [_, _], _ => rfl
  have A4 : At K mg "common" s_common ["one", "other"] := at_mk X G a4 l4 c4 k4 fun _ _ _ _ _ _ us hl => match us, hl with | [_, _], _ => rfl
  have A5 : At K mg "meets" s_meets ["one", "other"] := at_mk X G a5 l5 c5 k5 fun _ _ _ _ _ _ us hl => match us, hl with | [_, _], _ => rfl
  have A6 : At K mg "lies_within" s_lies_within ["one", "other"] := at_mk X G a6 l6 c6 k6 fun _ _ _ _ _ _ us hl => match us, hl with | [_, _], _ => rfl
  have A7 : At K mg "_least_or_none" s__least_or_none ["one", "other"] := at_mk X G a7 l7 c7 k7 fun _ _ _ _ _ _ us hl => match us, hl with | [_, _], _ => rfl
  have A8 : At K mg "_greatest_or_none" s__greatest_or_none ["one", "other"] := at_mk X G a8 l8 c8 k8 fun _ _ _ _ _ _ us hl => match us, hl with | [_, _], _ => rfl
  have A9 : At K mg "joined" s_joined ["one", "other"] := at_mk X G a9 l9 c9 k9 fun _ _ _ _ _ _ us hl => match us, hl with | [_, _], _ => rfl
  have A10 : At K mg "_taken" s__taken ["bound", "factor", "add"] := at_mk X G a10 l10 c10 k10 fun _ _ _ _ _ _ us hl => match us, hl with | [_, _, _], _ => rfl
  have A11 : At K mg "stepped" s_stepped ["one", "factor", "add"] := at_mk X G a11 l11 c11 k11 fun _ _ _ _ _ _ us hl => match us, hl with | [_, _, _], _ => rfl
  have A12 : At K mg "_law_draw" s__law_draw ["rng", "limit"] := at_mk X G a12 l12 c12 k12 fun _ _ _ _ _ _ us hl => match us, hl with | [_, _], _ => rfl
  have A13 : At K mg "_law_rng" s__law_rng ["script"] := at_mk X G a13 l13 c13 k13 fun _ _ _ _ _ _ us hl => match us, hl with | [_], _ => rfl
  have A14 : At K mg "_law_bound" s__law_bound ["rng", "most"] := at_mk X G a14 l14 c14 k14 fun _ _ _ _ _ _ us hl => match us, hl with | [_, _], _ => rfl
  have A15 : At K mg "_law_range" s__law_range ["rng", "most"] := at_mk X G a15 l15 c15 k15 fun _ _ _ _ _ _ us hl => match us, hl with | [_, _], _ => rfl
  have A16 : AtI K f16 "RangeError.__init__" s_RangeError___init__ ["self", "value"] := ⟨_, fun_mk l16 c16 k16, (fun_mk l16 c16 k16).binds (fun _ _ _ _ _ _ us hl => match us, hl with | [_, _], _ => rfl)⟩
  have kI_value : ∀ fd, Fun K "__init__" "RangeError.__init__" s_RangeError___init__ f16 fd → ∀ (s : Shared) (a u : Value), BindsTo s fd ⟨[a], [("value", u)]⟩ ((["self", "value"] : List Str).zip [a, u]) := by
    intro fd F s a u
    obtain ⟨oc, od, kV, doc, pm, an, cdv, ct, osl, rfl, lk, hcd⟩ := F.ex
    exact .of_eq rfl
  have A17 : At K mg "_law_caught" s__law_caught ["e"] := at_mk X G a17 l17 c17 k17 fun _ _ _ _ _ _ us hl => match us, hl with | [_], _ => rfl
  have A18 : At K mg "_law_raised" s__law_raised ["door", "one", "two"] := at_mk X G a18 l18 c18 k18 fun _ _ _ _ _ _ us hl => match us, hl with | [_, _, _], _ => rfl
  have A19 : At K mg "_law_odd" s__law_odd ["rng"] := at_mk X G a19 l19 c19 k19 fun _ _ _ _ _ _ us hl => match us, hl with | [_], _ => rfl
  have A20 : At K mg "law" s_law ["script"] := at_mk X G a20 l20 c20 k20 fun _ _ _ _ _ _ us hl => match us, hl with | [_], _ => rfl
  refine ⟨PySem.W.fnOf "law" "law" (defArgs s_law) (defBody s_law) (defScope s_law) .none kV20 dc20 pm20 an20 cd20 ct20, fun s v => .of_eq rfl, fun base _ _ => ?_⟩
  have m_ValueError := PySem.W.mg_none_of X G z0
  have m_abs := PySem.W.mg_none_of X G z1
  have m_int := PySem.W.mg_none_of X G z2
  have m_isinstance := PySem.W.mg_none_of X G z3
  have m_len := PySem.W.mg_none_of X G z4
  have m_max := PySem.W.mg_none_of X G z5
  have m_min := PySem.W.mg_none_of X G z6
  have m_range := PySem.W.mg_none_of X G z7
  have m_repr := PySem.W.mg_none_of X G z8
  have D__law_draw := ok__law_draw (P := l.prog) (w := w) (mg := mg) (base := base) A12 m_int
  have D__law_bound := ok__law_bound (P := l.prog) (w := w) (mg := mg) (base := base) A14 D__law_draw
  have D__law_range := ok__law_range (P := l.prog) (w := w) (mg := mg) (base := base) A15 D__law_bound D__law_draw
  have D__law_odd := ok__law_odd (P := l.prog) (w := w) (mg := mg) (base := base) A19 D__law_draw D__law_range m_max m_min
  have D__law_caught := ok__law_caught (P := l.prog) (w := w) (mg := mg) (base := base) XE A17 m_ValueError m_isinstance m_len
  have D__greatest := ok__greatest (P := l.prog) (w := w) (mg := mg) (base := base) A3 m_max
  have D__least := ok__least (P := l.prog) (w := w) (mg := mg) (base := base) A2 m_min
  have D_RangeError___init__ := ok_RangeError___init__ (P := l.prog) (w := w) (mg := mg) (base := base) A16
  have D_is_upside_down := ok_is_upside_down (P := l.prog) (w := w) (mg := mg) (base := base) A0
  have D_check_range := ok_check_range (P := l.prog) (w := w) (mg := mg) (base := base) XE A1 D_RangeError___init__ kI_value D_is_upside_down
  have D_common := ok_common (P := l.prog) (w := w) (mg := mg) (base := base) XE A4 D__greatest D__least D_check_range D_is_upside_down
  have D__greatest_or_none := ok__greatest_or_none (P := l.prog) (w := w) (mg := mg) (base := base) A8 m_max
  have D__least_or_none := ok__least_or_none (P := l.prog) (w := w) (mg := mg) (base := base) A7 m_min
  have D_joined := ok_joined (P := l.prog) (w := w) (mg := mg) (base := base) XE A9 D__greatest_or_none D__least_or_none D_check_range
  have D_lies_within := ok_lies_within (P := l.prog) (w := w) (mg := mg) (base := base) XE A6 D_common
  have D_meets := ok_meets (P := l.prog) (w := w) (mg := mg) (base := base) XE A5 D_common
  have D__taken := ok__taken (P := l.prog) (w := w) (mg := mg) (base := base) A10
  have D_stepped := ok_stepped (P := l.prog) (w := w) (mg := mg) (base := base) XE A11 D__taken D_check_range
  have D__law_raised := ok__law_raised (P := l.prog) (w := w) (mg := mg) (base := base) XE A18 D__law_caught D_common D_joined D_lies_within D_meets D_stepped
  have D__law_rng := ok__law_rng (P := l.prog) (w := w) (mg := mg) (base := base) A13 m_abs m_int
  have D_law := ok_law (P := l.prog) (w := w) (mg := mg) (base := base) XE A20 D__law_odd D__law_raised D__law_rng m_len m_min m_range m_repr
  obtain ⟨f, fd, F, _, g, ok⟩ := D_law.ex
  have e2 := (PySem.W.mg_of X G a20).symm.trans g
  cases e2
  obtain ⟨oc, od, kV, doc, pm, an, cdv, ct, osl, rfl, lk, _⟩ := F.ex
  rw [l20] at lk
  cases lk
  exact ok
end Pk04
open PySem PySem.W PyProof.Rows
set_option maxHeartbeats 0 in
theorem PySem.Challenge.cw_tightranges_k04_errors_of_ranges_holds : PySem.Challenge.rw_tightranges_k04_errors_of_ranges.Holds := by
  w_on; o_law; k_head; (case hw => w_witness2)
  k_fill
  refine Gd.walkG (l := PySem.Challenge.rw_tightranges_k04_errors_of_ranges) (n := 63) (k := 7) (x := "script") (sp := fun w => Pk04.sp_law _) rfl (by decide) rfl ⟨rfl, by decide, by decide⟩ (fun w h Y => PySem.W.kIn_of Y) ?F (fun _ _ a ns hl _ hS => ⟨a, ns, rfl, hS, hl, fun _ => rfl⟩)
  case F =>
    intro w mg fa h KX G hmg
    refine' Pk04.all_mk KX G hmg ?xn0 ?xl0 ?xr0 ?xn1 ?xl1 ?xr1 ?xn2 ?xl2 ?xr2 ?xn3 ?xl3 ?xr3 ?xn4 ?xl4 ?xr4 ?xn5 ?xl5 ?xr5 ?xn6 ?xl6 ?xr6 ?xn7 ?xl7 ?xr7 ?xn8 ?xl8 ?xr8 ?xn9 ?xl9 ?xr9 ?xi ?xb0 ?xk0 ?xb1 ?xk1 ?xb2 ?xk2 ?xb3 ?xk3 ?xb4 ?xk4 ?xb5 ?xk5 ?xb6 ?xk6 ?xb7 ?xk7 ?xb8 ?xk8 ?xb9 ?xk9 ?xj ?a0 ?l0 ?c0 ?k0 ?a1 ?l1 ?c1 ?k1 ?a2 ?l2 ?c2 ?k2 ?a3 ?l3 ?c3 ?k3 ?a4 ?l4 ?c4 ?k4 ?a5 ?l5 ?c5 ?k5 ?a6 ?l6 ?c6 ?k6 ?a7 ?l7 ?c7 ?k7 ?a8 ?l8 ?c8 ?k8 ?a9 ?l9 ?c9 ?k9 ?a10 ?l10 ?c10 ?k10 ?a11 ?l11 ?c11 ?k11 ?a12 ?l12 ?c12 ?k12 ?a13 ?l13 ?c13 ?k13 ?a14 ?l14 ?c14 ?k14 ?a15 ?l15 ?c15 ?k15 ?l16 ?c16 ?k16 ?a17 ?l17 ?c17 ?k17 ?a18 ?l18 ?c18 ?k18 ?a19 ?l19 ?c19 ?k19 ?a20 ?l20 ?c20 ?k20 ?z0 ?z1 ?z2 ?z3 ?z4 ?z5 ?z6 ?z7 ?z8
    (case xn0 => k_is); (case xl0 => k_is); (case xr0 => first | decide +kernel | rfl | k_is | trace_state); (case xn1 => k_is); (case xl1 => k_is); (case xr1 => first | decide +kernel | rfl | k_is | trace_state); (case xn2 => k_is); (case xl2 => k_is); (case xr2 => first | decide +kernel | rfl | k_is | trace_state); (case xn3 => k_is); (case xl3 => k_is); (case xr3 => first | decide +kernel | rfl | k_is | trace_state); (case xn4 => k_is); (case xl4 => k_is); (case xr4 => first | decide +kernel | rfl | k_is | trace_state); (case xn5 => k_is); (case xl5 => k_is); (case xr5 => first | decide +kernel | rfl | k_is | trace_state); (case xn6 => k_is); (case xl6 => k_is); (case xr6 => first | decide +kernel | rfl | k_is | trace_state); (case xn7 => k_is); (case xl7 => k_is); (case xr7 => first | decide +kernel | rfl | k_is | trace_state); (case xn8 => k_is); (case xl8 => k_is); (case xr8 => first | decide +kernel | rfl | k_is | trace_state); (case xn9 => k_is); (case xl9 => k_is); (case xr9 => first | decide +kernel | rfl | k_is | trace_state); (case xi => k_is); (case xb0 => first | decide +kernel | rfl | k_is | trace_state); (case xk0 => first | decide +kernel | rfl | k_is | trace_state); (case xb1 => first | decide +kernel | rfl | k_is | trace_state); (case xk1 => first | decide +kernel | rfl | k_is | trace_state); (case xb2 => first | decide +kernel | rfl | k_is | trace_state); (case xk2 => first | decide +kernel | rfl | k_is | trace_state); (case xb3 => first | decide +kernel | rfl | k_is | trace_state); (case xk3 => first | decide +kernel | rfl | k_is | trace_state); (case xb4 => first | decide +kernel | rfl | k_is | trace_state); (case xk4 => first | decide +kernel | rfl | k_is | trace_state); (case xb5 => first | decide +kernel | rfl | k_is | trace_state); (case xk5 => first | decide +kernel | rfl | k_is | trace_state); (case xb6 => first | decide +kernel | rfl | k_is | trace_state); (case xk6 => first | decide +kernel | rfl | k_is | trace_state); (case xb7 => first | decide +kernel | rfl | k_is | trace_state); (case xk7 => first | decide +kernel | rfl | k_is | trace_state); (case xb8 => first | decide +kernel | rfl | k_is | trace_state); (case xk8 => first | decide +kernel | rfl | k_is | trace_state); (case xb9 => first | decide +kernel | rfl | k_is | trace_state); (case xk9 => first | decide +kernel | rfl | k_is | trace_state); (case xj => first | decide +kernel | rfl | k_is | trace_state); (case a0 => k_is); (case l0 => k_is); (case c0 => k_is); (case k0 => k_is); (case a1 => k_is); (case l1 => k_is); (case c1 => k_is); (case k1 => k_is); (case a2 => k_is); (case l2 => k_is); (case c2 => k_is); (case k2 => k_is); (case a3 => k_is); (case l3 => k_is); (case c3 => k_is); (case k3 => k_is); (case a4 => k_is); (case l4 => k_is); (case c4 => k_is); (case k4 => k_is); (case a5 => k_is); (case l5 => k_is); (case c5 => k_is); (case k5 => k_is); (case a6 => k_is); (case l6 => k_is); (case c6 => k_is); (case k6 => k_is); (case a7 => k_is); (case l7 => k_is); (case c7 => k_is); (case k7 => k_is); (case a8 => k_is); (case l8 => k_is); (case c8 => k_is); (case k8 => k_is); (case a9 => k_is); (case l9 => k_is); (case c9 => k_is); (case k9 => k_is); (case a10 => k_is); (case l10 => k_is); (case c10 => k_is); (case k10 => k_is); (case a11 => k_is); (case l11 => k_is); (case c11 => k_is); (case k11 => k_is); (case a12 => k_is); (case l12 => k_is); (case c12 => k_is); (case k12 => k_is); (case a13 => k_is); (case l13 => k_is); (case c13 => k_is); (case k13 => k_is); (case a14 => k_is); (case l14 => k_is); (case c14 => k_is); (case k14 => k_is); (case a15 => k_is); (case l15 => k_is); (case c15 => k_is); (case k15 => k_is); (case l16 => k_is); (case c16 => k_is); (case k16 => k_is); (case a17 => k_is); (case l17 => k_is); (case c17 => k_is); (case k17 => k_is); (case a18 => k_is); (case l18 => k_is); (case c18 => k_is); (case k18 => k_is); (case a19 => k_is); (case l19 => k_is); (case c19 => k_is); (case k19 => k_is); (case a20 => k_is); (case l20 => k_is); (case c20 => k_is); (case k20 => k_is); (case z0 => k_is); (case z1 => k_is); (case z2 => k_is); (case z3 => k_is); (case z4 => k_is); (case z5 => k_is); (case z6 => k_is); (case z7 => k_is); (case z8 => k_is)
