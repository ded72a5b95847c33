import PyProof.Rows.All
import Wide.All
import OpenK.AllK
import Wide.FinOn
import HandS.ForMost
import HandS.IsInst
import HandS.Wide
import HandS.Zip
import HandS.SortInts
import HandS.SortKw
import HandS.Flow
import HandS.Style
import HandS.Strs
import HandS.Deep
import PyProof.ReprBulk
import PyProof.FitsInt
import KE.KSortedM
import KE.KMinKey
import HandS.Conv
import HandS.More
import HandS.SetFor
import HandS.Dict
import HandS.NoneIn
import HandS.Small
import HandS.Finally
import HandS.DictComp
import HandS.SortRule
import HandS.SetKeys
import HandS.TupSets
import HandS.Defaults
import HandS.MakeKwOnly
import HandS.Star
import HandS.Sort
import KE.DataMinMax
import KE.SortData
import PyProof.Rows.RowBridgeK
import HandS.SetBool
import PyProof.SumWalkG
import KE.KDictSum
import HandS.ForExc
import HandS.ExcInit
import HandS.ExcField
import HandS.ExcIs
import HandS.WideBits
import PySem.Challenge.RW_lateids_k33_sure_order_of_ids
set_option Elab.async false
set_option linter.all false
set_option maxRecDepth 100000
set_option maxHeartbeats 8000000
/-! Defs that are called where no repr is under way: the same promises, with the guards told. -/
namespace LD
open PySem PySem.Spec PyProof.Rows L2

/-- room, and no repr under way -/
structure Rm (k : Nat) (A : Around) : Prop where
  r : Room k A
  g : A.guards = some []
theorem Rm.mono {j k : Nat} {A : Around} (r : Rm k A) (h : j ≤ k) : Rm j A := ⟨r.r.mono h, r.g⟩

structure FnG (P : Program) (w : World) (K : PySem.W.Frag) (mg : Str → Option Value) (base : Heap) (CX : CXT) (k : Nat) (f : Addr) (fd : FuncData) (ps : List Str) (sp : Sp) : Prop where
  many : ∀ vs H Q E, sp vs H Q E → vs.length = ps.length
  go : ∀ (A : Around) (outer : List Env) (s : Shared) (H : Hp) (args : Args) (us : List Value) (vs : List V) (Q : VK) (E : XK), Rm k A →
    Env0 P w K mg base A outer s H → BindsTo s fd args (ps.zip us) → Vals vs us → sp vs H Q E → codeAny (model P w) A (.call (.ref f) args) (CR CX outer P w H s Q E) s

section
variable {P : Program} {w : World} {K : PySem.W.Frag} {mg : Str → Option Value} {base : Heap} {CX : CXT} {k : Nat} {f : Addr} {fd : FuncData} {ps : List Str} {sp : Sp}
theorem FnG.mono {j : Nat} (F : FnG P w K mg base CX j f fd ps sp) (h : j ≤ k) : FnG P w K mg base CX k f fd ps sp :=
  ⟨F.many, fun A o s H args us vs Q E hr => F.go A o s H args us vs Q E (hr.mono h)⟩

/-- a def by its body -/
theorem fnG_of {x qual : Str} {st : Stmt} {N : List Str} (F : Fun K x qual st f fd) (S : FnScope N ps (defScope st)) (many : ∀ vs H Q E, sp vs H Q E → vs.length = ps.length)
    (hbody : ∀ (cdv : Value) (A : Around) (outer : List Env) (s : Shared) (H : Hp) (vs : List V) (Q : VK) (E : XK), Rm k (A.deeper (envOfC qual (defScope st) s.heap.objs.size f cdv)) → sp vs H Q E →
      ∃ t, PSs (cxOf CX P w K mg base N qual (defScope st) f cdv A outer s H E) (defBody st) t ∧ t { nx := fun _ H' => Q .non H', rt := Q } (start N vs) H) :
    FnG P w K mg base CX (k + 1) f fd ps sp := by
  obtain ⟨oc, od, kV, doc, pm, an, cdv, ct, osl, rfl, lk, hcd⟩ := F.ex
  refine ⟨many, fun A outer s H args us vs Q E hrm en hb rel hsp => ?_⟩
  have KH : K.In s.heap := en.mod.kin.keeps fun b o e => (en.bs b o e).1
  have limH : s.heap.NoLimit := en.mod.nolimit.keeps fun b o e => (en.bs b o e).1
  have kinds : ∀ y ∈ ps.zip us, (defScope st).names.lookup y.1 = some .local ∨ ((defScope st).names.lookup y.1 = some .cell ∧ ((cellsFrom (s.heap.objs.size + 1) (defScope st).names []).lookup y.1).isSome = true) := by
    rintro ⟨n, v⟩ hy
    exact (S.par n (List.of_mem_zip hy).1).imp id fun q => ⟨q, PySem.W.cellsFrom_some _ _ _ (.inl q)⟩
  refine codeAny_call_function hrm.r.depth (KH _ _ lk) rfl S.co S.gen rfl (PySem.W.codeRec_of KH hcd) (hb _ _ _ _ ?_)
  refine wpAny_newFunctionEnv_cells S.kind kinds fun env henv s1 inC => ?_
  subst henv
  refine ⟨limH.keeps inC.toInCall.keep, codeAny_func ?_⟩
  obtain ⟨t, ht, hgo⟩ := hbody cdv A outer s H vs Q E ⟨hrm.r.deeper _, hrm.g⟩ hsp
  have I0 := inv_start (CX := CX) (E := E) (N := N) S hrm.r.hd en (many _ _ _ _ hsp) rel inC
  refine wpAny_mono (ht.run [] s1 (start N vs) H _ I0 hgo) (fun fl s2 hfl => ?_) fun e s2 he => he
  cases fl with
  | ret u => obtain ⟨v, σ2, H2, J, rv, q⟩ := hfl; exact ⟨v, H2, J.os, J.bare, J.base, J.hok, rv, q⟩
  | next => obtain ⟨σ2, H2, J, q⟩ := hfl; exact ⟨V.non, H2, J.os, J.bare, J.base, J.hok, rfl, q⟩
  | brk => obtain ⟨_, _, _, q⟩ := hfl; exact q.elim
  | cont => obtain ⟨_, _, _, q⟩ := hfl; exact q.elim
end

section
variable {X : Cx} {CX : CXT} {k : Nat} {f : Addr} {fd : FuncData} {ps : List Str} {sp : Sp} {E : XK} {x : Str} {p pos : Pos} {e : Expr} {es : List Expr} {t : TA}
theorem goesG {pins : List (Addr × Obj)} {σ : L2.St} {H : Hp} {s : Shared} {Q : VK} {us : List Value} {vs : List V} (F : FnG X.prog X.w X.K X.mg X.base CX k f fd ps sp) (hr : Rm k X.A) (hb : Binds X.K fd ps []) (hx : Passes CX X E)
    (I : Inv X pins σ H s) (r : Vals vs us) (h : sp vs H Q E) : wpAny (model X.prog X.w) X.A (call (.ref f) us) (EP X pins σ Q) X.xe s := by
  have hl : (us ++ []).length = ps.length := by rw [List.append_nil, ← r.length]; exact F.many _ _ _ _ h
  have hb' := hb s us I.kIn hl
  rw [List.append_nil] at hb'
  refine wpAny_call (codeAny_mono (F.go X.A X.stack s H ⟨us, []⟩ us vs Q E hr I.env0 hb' r h) fun res s2 hq => ?_)
  match res, hq with
  | .error e, hq => exact hx pins σ H s e s2 I hq
  | .ok (.ret u), hq => exact I.after hq
/-- f(e, ..) -/
theorem pe_callG (F : FnG X.prog X.w X.K X.mg X.base CX k f fd ps sp) (hr : Rm k X.A) (hg : Gl X x) (hm : X.mg x = some (.ref f)) (hk : PySem.W.keepIn X.K (.ref f) = true) (hb : Binds X.K fd ps []) (hx : Passes CX X E)
    (ha : PA X (e :: es) t) (hdb : (x == ("__debug__" : Str)) = false := by decide) (hst : starEach (e :: es) X.env = (false, eval e X.env) :: starEach es X.env := by rfl) (hpl : (backTo pos (starEach es X.env)).any (·.1) = false := by rfl) :
    PE X (.Call (.Name x p) (e :: es) [] pos) (tCall sp [] E t) := by
  constructor
  intro pins s σ H Q I h
  refine wpAny_Call_Name_kw (ld_glob I hg hm ?_ hdb)
  refine PySem.W.callWith_K (h₀ := X.base) I.ok.mod.kin hk (thn (ha.run pos pins s σ H _ I h) ?_) hst hpl
  rintro us s1 ⟨vs, H1, I1, r, q⟩
  rw [List.append_nil] at q
  exact ⟨I1.kIn, goesG F hr hb hx I1 r q⟩
theorem pe_callG0 (F : FnG X.prog X.w X.K X.mg X.base CX k f fd ps sp) (hr : Rm k X.A) (hg : Gl X x) (hm : X.mg x = some (.ref f)) (hk : PySem.W.keepIn X.K (.ref f) = true) (hb : Binds X.K fd ps []) (hx : Passes CX X E)
    (hdb : (x == ("__debug__" : Str)) = false := by decide) : PE X (.Call (.Name x p) [] [] pos) (tCall sp [] E tNil) := by
  constructor
  intro pins s σ H Q I h
  refine wpAny_Call_Name_kw (ld_glob I hg hm ?_ hdb)
  exact PySem.W.callWith_K0 I.kIn hk (goesG (us := []) F hr hb hx I .nil h)
end

/-! ### the law's own call -/
theorem law_goes {P : Program} {w : World} {K : PySem.W.Frag} {mg mb : Str → Option Value} {CX : CXT} {k : Nat} {fa a : Addr} {fd : FuncData} {x : Str} {sp : Sp} {s₁ : Shared} {vs : List Value} {ns : List Int}
    (KX : K.In s₁.heap) (hns : s₁.heap.Ns mainGlobals mg) (hb : s₁.heap.Ns builtinsNs mb) (hbb : ∀ x : Str, x ≠ "__name__" → mb x = bootBuiltins x) (hlim : s₁.heap.NoLimit) (hgen : s₁.gens = #[])
    (ha : s₁.heap.get? a = some { cls := .type "list", data := .seq vs.toArray }) (hi : IntsAre vs ns) (hl : ns.length ≤ sizeLine) (hr : Room k callerA)
    (F : ∀ base : Heap, K.In base → base.Ns mainGlobals mg → FnG P w K mg base CX k fa fd [x] sp) (hbind : ∀ (s : Shared) (u : Value), BindsTo s fd ⟨[u], []⟩ [(x, u)])
    (hsp : ∀ H : Hp, Only H → SqL K H a (ns.map V.int) → sp [.ref a] H (fun v _ => v = .bl true) fun _ _ _ => False)
    (hCX : ∀ H e s', CX [] H s₁ (fun _ _ _ => False) e s' → False) :
    codeAny (model P w) callerA (.call (.ref fa) ⟨[.ref a], []⟩) (fun r s' => r = .ok (.ret (.bool true)) ∧ OldK s₁.heap s'.heap ∧ s'.os = s₁.os ∧ AllBare s'.gens) s₁ := by
  have main : ∀ H : Hp, Only H → SqL K H a (ns.map V.int) → HOk P w H s₁.heap → (∀ b u, H b = some u → b = a) → (∀ u, H a = some u → K.lookup a = none) →
      codeAny (model P w) callerA (.call (.ref fa) ⟨[.ref a], []⟩) (fun r s' => r = .ok (.ret (.bool true)) ∧ OldK s₁.heap s'.heap ∧ s'.os = s₁.os ∧ AllBare s'.gens) s₁ := by
    intro H only hS okH atA noK
    -- no dict is tracked
    have dictFree : ∀ (b : Addr) (o : Obj) (es : Array DictEntry) (ep : Nat), s₁.heap.get? b = some o → o.data = .dict es ep → H b = none := by
      intro b o es ep e d
      cases hb : H b with
      | none => rfl
      | some u =>
        exfalso
        rw [atA b u hb, ha] at e
        rw [← Option.some.inj e] at d
        exact nomatch d
    have nsB : ∀ {b : Addr} {m : Str → Option Value}, s₁.heap.Ns b m → (hidT s₁.heap H).Ns b m := by
      rintro b m ⟨o, es, ep, e, d, rest⟩
      exact ⟨o, es, ep, hidT_get e (dictFree b o es ep e d), d, rest⟩
    have kinB : K.In (hidT s₁.heap H) := by
      intro b o e
      refine hidT_get (KX b o e) ?_
      cases hb : H b with
      | none => rfl
      | some u =>
        have hba := atA b u hb
        rw [hba] at hb e
        rw [noK u hb] at e
        exact nomatch e
    have md : Mod K mg (hidT s₁.heap H) := ⟨kinB, nsB hns, ⟨mb, nsB hb, hbb⟩, hlim.elim fun mc hm => ⟨mc, nsB hm.1, hm.2⟩⟩
    have en : Env0 P w K mg (hidT s₁.heap H) callerA [] s₁ H :=
      ⟨rfl, md, fun _ _ e => of_hidT e, Nat.le_of_eq (hidT_size s₁.heap H), trivial, (fun b hb => absurd (show b ∈ ([] : List Addr) from hb) (by simp)), okH, .of_eq hgen⟩
    refine codeAny_mono ((F _ kinB (nsB hns)).go callerA [] s₁ H ⟨[.ref a], []⟩ [.ref a] [.ref a] _ _ ⟨hr, rfl⟩ en (hbind s₁ (.ref a)) (.cons rfl .nil) (hsp H only hS)) ?_
    intro res s2 hres
    match res, hres with
    | .error e, h => exact (hCX H e s2 h).elim
    | .ok (.ret u), ⟨v, H2, os, bare, un, ok2, rel, q⟩ =>
      have q : v = .bl true := q
      subst q
      have rel : u = Value.bool true := rel
      subst rel
      refine ⟨rfl, OldK.of_keep ?_, os, bare⟩
      intro b o e
      rcases only b with hn | ⟨ob, xs, hf⟩
      · exact un.keep b o e hn (by intro z; cases z) (by intro z; cases z)
      · have e1 := (okH b _ hf).1
        have e2 := (ok2 b _ (un.frzs b ob _ hf)).1
        rw [e] at e1
        rw [Option.some.inj e1]
        exact e2
  have rel := vals_ints hi
  rcases hk : K.lookup a with _ | o
  · refine main (fun b => if b = a then some (.frz { cls := .type "list", data := .seq vs.toArray } (.lst (ns.map V.int))) else none) ?_ (.inl (.inr ⟨_, if_pos rfl⟩)) ?_ ?_ (fun _ _ => hk)
    · intro b
      by_cases e : b = a
      · exact .inr ⟨_, _, if_pos e⟩
      · exact .inl (if_neg e)
    · intro b u z
      by_cases e : b = a
      · have z := (if_pos e).symm.trans z
        cases z
        subst e
        exact ⟨ha, by rw [List.length_map]; exact hl, vs, _, rel, ha⟩
      · have z := (if_neg e).symm.trans z
        cases z
    · intro b u z
      by_cases e : b = a
      · exact e
      · have z := (if_neg e).symm.trans z
        cases z
  · have e := KX a o hk
    rw [ha] at e
    rw [← Option.some.inj e] at hk
    refine main (fun _ => none) (fun _ => .inl rfl) (.inr ⟨_, vs.toArray, _, hk, rfl, rfl, rfl, ?_, ?_⟩) (fun _ _ z => by cases z) (fun _ _ z => by cases z) (fun _ z => by cases z)
    · rw [List.size_toArray, hi.length]; exact hl
    · exact rel

theorem walkG {l : PySem.W.OpenLaw} {n k : Nat} {q : Program} {loose : List Str} {XP : (Str → Option Value) → Heap → Prop} {YP : World → Heap → Prop} {d : DefRec} {K : Params → PySem.W.Frag} {CX : CXT} {sp : PySem.W.Frag → Sp} {x : Str}
    (hn : l.most = some n) (hn2 : n ≤ sizeLine) (hdf : d.params.defaults = []) (hr : Room k callerA) (hY : ∀ (w : World) (h : Heap), YP w h → (K w.params).In h)
    (F : ∀ (w : World) (mg : Str → Option Value) (fa : Addr) (h : Heap), (K w.params).In h → h.Ns mainGlobals mg → mg d.name = some (.ref fa) →
      ∃ fd : FuncData, (∀ (s : Shared) (u : Value), BindsTo s fd ⟨[u], []⟩ [(x, u)]) ∧ ∀ base : Heap, (K w.params).In base → base.Ns mainGlobals mg → FnG l.prog w (K w.params) mg base CX k fa fd [x] (sp (K w.params)))
    (hsp : ∀ (K : PySem.W.Frag) (H : Hp) (a : Addr) (ns : List Int), ns.length ≤ n → Only H → SqL K H a (ns.map V.int) → sp K [.ref a] H (fun v _ => v = .bl true) fun _ _ _ => False)
    (hCX : ∀ (H : Hp) (s : Shared) (e : Value) (s' : Shared), CX [] H s (fun _ _ _ => False) e s' → False) :
    PySem.W.WalkO q loose XP YP l.row.toRowW d [] (fun f vs => PySem.call f vs) := by
  refine Att.attach_call hn hdf ?_
  intro w s₀ s₁ mg mb fa o pm cd doc a vs ns G Y ho hd hcd hmg hobj hints hlen hg
  obtain ⟨fd, hb, hF⟩ := F w mg fa _ (hY w _ Y) G.T.g hmg
  exact law_goes (hY w _ Y) G.T.g G.T.b G.T.builtins G.T.nolimit hg hobj hints (Nat.le_trans hlen hn2) hr hF hb (fun H h1 h2 => hsp _ H a ns hlen h1 h2) (fun H e s' => hCX H s₁ e s')
end LD

/-! What a state is as data: slots, temporaries, lists of one's own. -/
namespace LD
open PySem PySem.Spec PyProof.Rows L2

/-- what a slot or a temporary holds: a value that is known; data that came in; data of one's own; the n-th object of one's own -/
inductive Knd where
  | v (x : V) | arg (d : PyData) | dat (d : PyData) | own (n : Nat)
/-- what an object of one's own holds -/
inductive OC where
  | lst (ds : List PyData) | dic (kvs : List (Key × PyData)) | ldic (od : Obj) (us : List (Key × V)) (kvs : List (Key × PyData)) | gen (φ : Addr → List V → HO) (ks : List Knd) | tpl (ks : List Knd) | tr (qs : List Addr) (lss : List (List PyData)) | jl (n : Nat) | dead
def kidC : OC → List Addr
  | .tr qs _ => qs
  | _ => []
/-- the inner lists of one's own lists of lists -/
def kids (ow : List OC) : List Addr := ow.flatMap kidC
theorem kids_app (a b : List OC) : kids (a ++ b) = kids a ++ kids b := by unfold kids; rw [List.flatMap_append]
theorem kids_one (c : OC) : kids [c] = kidC c := by unfold kids; simp
theorem kids_set : ∀ {ow : List OC} {n : Nat} {c0 c1 : OC}, ow[n]? = some c0 → kidC c1 = kidC c0 → kids (ow.set n c1) = kids ow
  | c :: r, 0, _, _, h, e => by cases h; show kidC _ ++ kids r = kidC _ ++ kids r; rw [e]
  | c :: r, n + 1, _, _, h, e => by show kidC c ++ kids (r.set n _) = kidC c ++ kids r; rw [kids_set (ow := r) h e]
  | [], _, _, _, h, _ => by cases h
theorem kids_mem {ow : List OC} {n : Nat} {qs : List Addr} {lss : List (List PyData)} {q : Addr} (h : ow[n]? = some (.tr qs lss)) (hq : q ∈ qs) : q ∈ kids ow := List.mem_flatMap.mpr ⟨_, List.mem_of_getElem? h, hq⟩
theorem prd_mm {α β : Type} {F G : α → β → Prop} : ∀ {xs : List α} {ys : List β}, Paired F xs ys → (∀ x ∈ xs, ∀ y, F x y → G x y) → Paired G xs ys
  | _, _, .nil, _ => .nil
  | x :: _, _, .cons h t, g => .cons (g x (List.mem_cons_self ..) _ h) (prd_mm t fun y hy => g y (List.mem_cons_of_mem _ hy))
abbrev Env' := List (Option Knd)

mutual
/-- v stands for d: as the hand layer's reading, and an empty dict, too -/
inductive Dp (K : PySem.W.Frag) (H : Hp) : V → PyData → Prop
  | non : Dp K H V.non PyData.none
  | bl (k : Bool) : Dp K H (V.bl k) (PyData.bool k)
  | int (n : Int) : Dp K H (V.int n) (PyData.int n)
  | str (z : Str) : Dp K H (V.str z) (PyData.str z)
  | lst {p : Addr} {us : List V} {es : List PyData} (q : SqL K H p us) (r : DpAll K H us es) : Dp K H (V.ref p) (PyData.list es)
  | tup {p : Addr} {us : List V} {es : List PyData} (q : SqT K H p us) (r : DpAll K H us es) : Dp K H (V.ref p) (PyData.tuple es)
  | dic {p : Addr} (q : Rd H p (.dK [])) : Dp K H (V.ref p) (PyData.dict [])
inductive DpAll (K : PySem.W.Frag) (H : Hp) : List V → List PyData → Prop
  | nil : DpAll K H [] []
  | cons {x : V} {us : List V} {e : PyData} {es : List PyData} (h : Dp K H x e) (t : DpAll K H us es) : DpAll K H (x :: us) (e :: es)
end
mutual
/-- without dicts it is the hand layer's -/
theorem dp_hand {K : PySem.W.Frag} {H : Hp} : ∀ {x : V} {d : PyData}, Dp K H x d → d.hasDict = false → L2.Dp K H x d
  | _, _, .non, _ => .non
  | _, _, .bl b, _ => .bl b
  | _, _, .int i, _ => .int i
  | _, _, .str s, _ => .str s
  | _, _, .lst h a, e => .lst h (dpa_hand a (by rw [PyData.hasDict] at e; exact e))
  | _, _, .tup h a, e => .tup h (dpa_hand a (by rw [PyData.hasDict] at e; exact e))
  | _, _, .dic h, e => by rw [PyData.hasDict] at e; cases e
theorem dpa_hand {K : PySem.W.Frag} {H : Hp} : ∀ {xs : List V} {ds : List PyData}, DpAll K H xs ds → PyData.hasDictAll ds = false → L2.DpAll K H xs ds
  | _, _, .nil, _ => .nil
  | _, _, .cons h t, e => by
    rw [PyData.hasDictAll, Bool.or_eq_false_iff] at e
    exact .cons (dp_hand h e.1) (dpa_hand t e.2)
end
theorem nod_shaped {d : PyData} (h : SeqAt.shaped d = true) : d.hasDict = false := PyData.hasDict_of_canLay d (SeqAt.canLay_of_shaped h)

section
variable {K : PySem.W.Frag} {H H' H1 : Hp}
theorem rd_mono {a : Addr} {u : HO} (e : Same H H') (h : Rd H a u) : Rd H' a u := h.imp (e a _) fun ⟨o, q⟩ => ⟨o, e a _ q⟩
theorem sqt_mono {a : Addr} {xs : List V} (e : Same H H') (h : SqT K H a xs) : SqT K H' a xs := h.imp (rd_mono e) id
mutual
theorem dp_mono (e : Same H H') : ∀ {x : V} {d : PyData}, Dp K H x d → Dp K H' x d
  | _, _, .non => .non
  | _, _, .bl b => .bl b
  | _, _, .int i => .int i
  | _, _, .str s => .str s
  | _, _, .lst h a => .lst (e.seq h) (dpa_mono e a)
  | _, _, .tup h a => .tup (sqt_mono e h) (dpa_mono e a)
  | _, _, .dic h => .dic (rd_mono e h)
theorem dpa_mono (e : Same H H') : ∀ {xs : List V} {ds : List PyData}, DpAll K H xs ds → DpAll K H' xs ds
  | _, _, .nil => .nil
  | _, _, .cons h t => .cons (dp_mono e h) (dpa_mono e t)
end
theorem dpa_len : ∀ {xs : List V} {ds : List PyData}, DpAll K H xs ds → xs.length = ds.length
  | _, _, .nil => rfl
  | _, _, .cons _ t => congrArg (· + 1) (dpa_len t)
theorem dpa_get : ∀ {xs : List V} {ds : List PyData} {i : Nat} {d : PyData}, DpAll K H xs ds → ds[i]? = some d → ∃ x, xs[i]? = some x ∧ Dp K H x d
  | _, _, _, _, .nil, h => by cases h
  | _, _, 0, _, .cons h _, e => by cases e; exact ⟨_, rfl, h⟩
  | _, _, i + 1, _, .cons _ t, e => dpa_get (i := i) t e
theorem dpa_at : ∀ {xs : List V} {ds : List PyData} {i : Nat} {x : V}, DpAll K H xs ds → xs[i]? = some x → ∃ d, ds[i]? = some d ∧ Dp K H x d
  | _, _, _, _, .nil, h => by cases h
  | _, _, 0, _, .cons h _, e => by cases e; exact ⟨_, rfl, h⟩
  | _, _, i + 1, _, .cons _ t, e => dpa_at (i := i) t e
theorem dpa_app : ∀ {xs ys : List V} {ds es : List PyData}, DpAll K H xs ds → DpAll K H ys es → DpAll K H (xs ++ ys) (ds ++ es)
  | _, _, _, _, .nil, h => h
  | _, _, _, _, .cons a t, h => .cons a (dpa_app t h)
theorem dpa_take : ∀ {xs : List V} {ds : List PyData} (n : Nat), DpAll K H xs ds → DpAll K H (xs.take n) (ds.take n)
  | _, _, 0, _ => .nil
  | _, _, _ + 1, .nil => .nil
  | _, _, n + 1, .cons a t => .cons a (dpa_take n t)
theorem dpa_drop : ∀ {xs : List V} {ds : List PyData} (n : Nat), DpAll K H xs ds → DpAll K H (xs.drop n) (ds.drop n)
  | _, _, 0, h => h
  | _, _, _ + 1, .nil => .nil
  | _, _, n + 1, .cons _ t => dpa_drop n t
theorem dpa_set {x : V} {d : PyData} (h : Dp K H x d) : ∀ {xs : List V} {ds : List PyData} (n : Nat), DpAll K H xs ds → DpAll K H (xs.set n x) (ds.set n d)
  | _, _, _, .nil => .nil
  | _, _, 0, .cons _ t => .cons h t
  | _, _, n + 1, .cons a t => .cons a (dpa_set h n t)
theorem dpa_erase : ∀ {xs : List V} {ds : List PyData} (n : Nat), DpAll K H xs ds → DpAll K H (xs.eraseIdx n) (ds.eraseIdx n)
  | _, _, _, .nil => .nil
  | _, _, 0, .cons _ t => t
  | _, _, n + 1, .cons a t => .cons a (dpa_erase n t)
/-- a list of ints is no matter of the heap -/
theorem dpa_ints : ∀ ns : List Int, DpAll K H (ns.map V.int) (ns.map PyData.int)
  | [] => .nil
  | n :: r => .cons (.int n) (dpa_ints r)
theorem of_dpa_ints : ∀ {ns : List Int} {xs : List V}, DpAll K H xs (ns.map PyData.int) → xs = ns.map V.int
  | [], _, .nil => rfl
  | n :: r, _, .cons (.int _) t => by rw [of_dpa_ints (ns := r) t]; rfl
theorem dpa_bools : ∀ ns : List Bool, DpAll K H (ns.map V.bl) (ns.map PyData.bool)
  | [] => .nil
  | n :: r => .cons (.bl n) (dpa_bools r)
theorem of_dpa_bools : ∀ {ns : List Bool} {xs : List V}, DpAll K H xs (ns.map PyData.bool) → xs = ns.map V.bl
  | [], _, .nil => rfl
  | n :: r, _, .cons (.bl _) t => by rw [of_dpa_bools (ns := r) t]; rfl

/-- a tuple (that never changes) -/
def tupy : HO → Bool
  | .tup _ => true
  | .frz _ (.tup _) => true
  | _ => false
/-- the part of Hd that may be handed out: tuples, and what is younger than He -/
def port (He Hd : Hp) : Hp := fun a => match Hd a with
  | some o => if (tupy o || (He a).isNone) = true then some o else none
  | none => none
theorem port_of {He Hd : Hp} {a : Addr} {o : HO} (h : Hd a = some o) (c : tupy o = true ∨ He a = none) : port He Hd a = some o := by
  unfold port
  rw [h]
  rcases c with c | c <;> simp [c]
theorem of_port {He Hd : Hp} {a : Addr} {o : HO} (h : port He Hd a = some o) : Hd a = some o ∧ (tupy o = true ∨ He a = none) := by
  unfold port at h
  split at h
  · split at h
    · rename_i hc
      cases h
      refine ⟨by assumption, ?_⟩
      rw [Bool.or_eq_true] at hc
      exact hc.imp id fun z => Option.isNone_iff_eq_none.mp z
    · cases h
  · cases h
theorem port_sub (He Hd : Hp) : Same (port He Hd) Hd := fun _ _ h => (of_port h).1
theorem port_mono {He Hd Hd' : Hp} (e : Same Hd Hd') : Same (port He Hd) (port He Hd') := fun a o h => port_of (e a o (of_port h).1) (of_port h).2

theorem prd_in {α β : Type} {F : α → β → Prop} : ∀ {xs : List α} {ys : List β}, Paired F xs ys → ∀ x ∈ xs, ∃ y, F x y
  | _, _, .nil, _, h => by cases h
  | _, _, .cons h t, x, hx => by
    rcases List.mem_cons.mp hx with rfl | hx
    · exact ⟨_, h⟩
    · exact prd_in t x hx
theorem prd_set {α β : Type} {F : α → β → Prop} {x : α} {y : β} (h : F x y) : ∀ {xs : List α} {ys : List β} (i : Nat), Paired F xs ys → Paired F (xs.set i x) (ys.set i y)
  | _, _, _, .nil => .nil
  | _, _, 0, .cons _ t => .cons h t
  | _, _, i + 1, .cons a t => .cons a (prd_set h i t)
theorem prd_get {α β : Type} {F : α → β → Prop} : ∀ {xs : List α} {ys : List β} {i : Nat} {y : β}, Paired F xs ys → ys[i]? = some y → ∃ x, xs[i]? = some x ∧ F x y
  | _, _, _, _, .nil, h => by cases h
  | _, _, 0, _, .cons h _, e => by cases e; exact ⟨_, rfl, h⟩
  | _, _, i + 1, _, .cons _ t, e => prd_get (i := i) t e

def KOk (K : PySem.W.Frag) (Hq Hd : Hp) (ps : List Addr) (x : V) : Knd → Prop
  | .v y => x = y
  | .arg d => Dp K Hd x d
  | .dat d => Dp K Hq x d
  | .own n => ∃ p, ps[n]? = some p ∧ x = .ref p
def SlotOk (K : PySem.W.Frag) (Hq Hd : Hp) (ps : List Addr) (x : Option V) : Option Knd → Prop
  | none => True
  | some k => ∃ y, x = some y ∧ KOk K Hq Hd ps y k
/-- a dict's pairs as data -/
def KP (K : PySem.W.Frag) (Hq : Hp) (vs : List (Key × V)) (kvs : List (Key × PyData)) : Prop := Paired (fun a b => a.1 = b.1 ∧ Dp K Hq a.2 b.2) vs kvs
theorem kp_mono {K : PySem.W.Frag} {H H' : Hp} {vs : List (Key × V)} {kvs : List (Key × PyData)} (e : Same H H') (h : KP K H vs kvs) : KP K H' vs kvs := L2.Paired.mapP h fun _ _ q => ⟨q.1, dp_mono e q.2⟩
def OwnOk (K : PySem.W.Frag) (Hq Hd : Hp) (ps : List Addr) (H : Hp) (p : Addr) : OC → Prop
  | .lst ds => Hd p = none ∧ ∃ vs, H p = some (.lst vs) ∧ DpAll K Hq vs ds
  | .dic kvs => Hd p = none ∧ ∃ vs, H p = some (.dK vs) ∧ KP K Hq vs kvs
  | .ldic od us kvs => Hd p = none ∧ H p = some (.frz od (.dK us)) ∧ KP K Hq us kvs
  | .gen φ ks => Hd p = none ∧ ∃ vs, H p = some (φ p vs) ∧ tupy (φ p vs) = false ∧ Paired (KOk K Hq Hd ps) vs ks
  | .tpl ks => ∃ vs, H p = some (.tup vs) ∧ Paired (KOk K Hq Hd ps) vs ks
  | .tr qs lss => Hd p = none ∧ H p = some (.lst (qs.map V.ref)) ∧ (∀ q ∈ qs, Hd q = none) ∧ Paired (fun q ds => ∃ vs, H q = some (.lst vs) ∧ DpAll K Hq vs ds) qs lss
  | .jl n => Hd p = none ∧ ∃ vs, H p = some (.lst vs) ∧ vs.length ≤ n
  | .dead => ∃ o, H p = some o

/-- He: what stood at the def's entry; Fr: what others change, kept meanwhile; Hd: data; ps: where one's own objects stand -/
structure SB (K : PySem.W.Frag) (He Fr Hd : Hp) (ps : List Addr) (m : Env') (ow : List OC) (ts : List Knd) (σ : L2.St) (xs : List V) (H : Hp) : Prop where
  eh : Same He Hd
  dh : Same Hd H
  fh : Same Fr H
  fd : ∀ a o, Fr a = some o → Hd a = none ∧ tupy o = false
  fk : ∀ p ∈ ps ++ kids ow, Fr p = none
  nk : (ps ++ kids ow).Nodup
  pl : ps.length = ow.length
  ok : ∀ (n : Nat) (p : Addr) (c : OC), ps[n]? = some p → ow[n]? = some c → OwnOk K (port He Hd) Hd ps H p c
  sv : Paired (SlotOk K (port He Hd) Hd ps) σ m
  tv : Paired (KOk K (port He Hd) Hd ps) xs ts
def SA (K : PySem.W.Frag) (He Fr : Hp) (m : Env') (ow : List OC) (ts : List Knd) (σ : L2.St) (xs : List V) (H : Hp) : Prop := ∃ Hd ps, SB K He Fr Hd ps m ow ts σ xs H

theorem KOk.mono {Hq Hq' Hd Hd' : Hp} {ps : List Addr} (qs : List Addr) {x : V} {k : Knd} (h : KOk K Hq Hd ps x k) (e1 : Same Hq Hq') (e2 : Same Hd Hd') : KOk K Hq' Hd' (ps ++ qs) x k := by
  cases k with
  | v y => exact h
  | arg d => exact dp_mono e2 h
  | dat d => exact dp_mono e1 h
  | own n =>
    obtain ⟨p, hp, e⟩ := h
    exact ⟨p, by rw [List.getElem?_append_left (List.getElem?_eq_some_iff.mp hp).1]; exact hp, e⟩
theorem KOk.mono0 {Hq Hq' Hd Hd' : Hp} {ps : List Addr} {x : V} {k : Knd} (h : KOk K Hq Hd ps x k) (e1 : Same Hq Hq') (e2 : Same Hd Hd') : KOk K Hq' Hd' ps x k := by
  have := h.mono [] e1 e2
  rwa [List.append_nil] at this
theorem OwnOk.more {Hq Hd H : Hp} {ps : List Addr} {p : Addr} {c : OC} (h : OwnOk K Hq Hd ps H p c) (qs : List Addr) : OwnOk K Hq Hd (ps ++ qs) H p c := by
  cases c with
  | gen φ ks => exact ⟨h.1, h.2.imp fun vs h => ⟨h.1, h.2.1, L2.Paired.mapP h.2.2 fun x k h => h.mono qs (Same.refl _) (Same.refl _)⟩⟩
  | tpl ks => exact Exists.imp (fun vs h => ⟨h.1, L2.Paired.mapP h.2 fun x k h => h.mono qs (Same.refl _) (Same.refl _)⟩) h
  | lst ds => exact h
  | dic ds => exact h
  | ldic od us ds => exact h
  | tr qs lss => exact h
  | jl n => exact h
  | dead => exact h
theorem SlotOk.mono {Hq Hq' Hd Hd' : Hp} {ps : List Addr} (qs : List Addr) {x : Option V} {k : Option Knd} (h : SlotOk K Hq Hd ps x k) (e1 : Same Hq Hq') (e2 : Same Hd Hd') : SlotOk K Hq' Hd' (ps ++ qs) x k := by
  cases k with
  | none => trivial
  | some k => exact h.imp fun y h => ⟨h.1, h.2.mono qs e1 e2⟩
theorem SlotOk.mono0 {Hq Hq' Hd Hd' : Hp} {ps : List Addr} {x : Option V} {k : Option Knd} (h : SlotOk K Hq Hd ps x k) (e1 : Same Hq Hq') (e2 : Same Hd Hd') : SlotOk K Hq' Hd' ps x k := by
  have := h.mono [] e1 e2
  rwa [List.append_nil] at this

section
variable {He Fr Hd Hf : Hp} {ps : List Addr} {m : Env'} {ow : List OC} {ts : List Knd} {σ : L2.St} {xs : List V}
theorem SB.fp (S : SB K He Fr Hd ps m ow ts σ xs H) : ∀ p ∈ ps, Fr p = none := fun p hp => S.fk p (List.mem_append_left _ hp)
theorem SB.nd (S : SB K He Fr Hd ps m ow ts σ xs H) : ps.Nodup := (List.nodup_append.mp S.nk).1
theorem SB.kidNe (S : SB K He Fr Hd ps m ow ts σ xs H) {p q : Addr} (hp : p ∈ ps) (hq : q ∈ kids ow) : q ≠ p := fun e => (List.nodup_append.mp S.nk).2.2 p hp q hq e.symm
theorem SB.inH (S : SB K He Fr Hd ps m ow ts σ xs H) {p : Addr} (hp : p ∈ ps ++ kids ow) : ∃ o, H p = some o := by
  rcases List.mem_append.mp hp with hp | hp
  · obtain ⟨n, hn⟩ := List.mem_iff_getElem?.mp hp
    have hl : n < ow.length := by rw [← S.pl]; exact (List.getElem?_eq_some_iff.mp hn).1
    have := S.ok n p _ hn (List.getElem?_eq_getElem hl)
    cases q : ow[n] with
    | lst ds => rw [q] at this; obtain ⟨_, vs, h, _⟩ := this; exact ⟨_, h⟩
    | dic ds => rw [q] at this; obtain ⟨_, vs, h, _⟩ := this; exact ⟨_, h⟩
    | ldic od us ds => rw [q] at this; obtain ⟨_, h, _⟩ := this; exact ⟨_, h⟩
    | gen φ ks => rw [q] at this; obtain ⟨_, vs, h, _⟩ := this; exact ⟨_, h⟩
    | tpl ks => rw [q] at this; obtain ⟨vs, h, _⟩ := this; exact ⟨_, h⟩
    | jl n => rw [q] at this; obtain ⟨_, vs, h, _⟩ := this; exact ⟨_, h⟩
    | tr qs lss => rw [q] at this; obtain ⟨_, h, _⟩ := this; exact ⟨_, h⟩
    | dead => rw [q] at this; obtain ⟨o, h⟩ := this; exact ⟨o, h⟩
  · obtain ⟨c, hc, hk⟩ := List.mem_flatMap.mp hp
    obtain ⟨n, hn⟩ := List.mem_iff_getElem?.mp hc
    cases c with
    | tr qs lss =>
      have hl : n < ps.length := by rw [S.pl]; exact (List.getElem?_eq_some_iff.mp hn).1
      obtain ⟨_, _, _, h⟩ := S.ok n _ _ (List.getElem?_eq_getElem hl) hn
      obtain ⟨i, hi⟩ := List.mem_iff_getElem?.mp (show p ∈ qs from hk)
      have : ∀ {qs : List Addr} {lss : List (List PyData)} {i : Nat}, Paired (fun q ds => ∃ vs, H q = some (.lst vs) ∧ DpAll K (port He Hd) vs ds) qs lss → qs[i]? = some p → ∃ o, H p = some o := by
        intro qs lss i h
        induction h generalizing i with
        | nil => intro z; cases z
        | cons h t ih =>
          intro z
          cases i with
          | zero => cases z; obtain ⟨vs, h, _⟩ := h; exact ⟨_, h⟩
          | succ i => exact ih z
      obtain ⟨o, ho⟩ := this h hi
      exact ⟨o, ho⟩
    | lst _ => cases hk
    | dic _ => cases hk
    | ldic _ _ _ => cases hk
    | gen _ _ => cases hk
    | tpl _ => cases hk
    | jl _ => cases hk
    | dead => cases hk
/-- the heap grows; Hf, new or of tuples, becomes data of one's own -/
theorem SB.ext (S : SB K He Fr Hd ps m ow ts σ xs H) (e : Same H H') (ef : Same Hf H') (hf : ∀ a o, Hf a = some o → tupy o = true ∨ H a = none) :
    ∃ Hd', SB K He Fr Hd' ps m ow ts σ xs H' ∧ Same Hd Hd' ∧ Same Hf (port He Hd') ∧ (∀ p, H p = none → Hf p = none → Hd' p = none) := by
  have e2 : Same Hd (fun a => match Hd a with | some o => some o | none => Hf a) := fun a o h => by show (match Hd a with | some o => some o | none => Hf a) = some o; rw [h]
  have e1 := port_mono (He := He) e2
  have noD : ∀ p o', Hd p = none → H p = some o' → tupy o' = false → (match Hd p with | some o => some o | none => Hf p) = none := by
    intro p o' h1 h2 h3
    rw [h1]
    cases z : Hf p with
    | none => rfl
    | some o =>
      exfalso
      rcases hf p o z with h4 | z2
      · have := ef _ _ z
        rw [e _ _ h2] at this
        cases this
        rw [h4] at h3
        cases h3
      · rw [h2] at z2; cases z2
  refine ⟨fun a => match Hd a with | some o => some o | none => Hf a, ⟨S.eh.trans e2, fun a o h => ?_, S.fh.trans e, fun a o h => ?_, S.fk, S.nk, S.pl, fun n p c hp hc => ?_, ?_, ?_⟩, e2, ?_, ?_⟩
  · have h : (match Hd a with | some o => some o | none => Hf a) = some o := h
    split at h
    · cases h; exact e _ _ (S.dh _ _ (by assumption))
    · exact ef _ _ h
  · obtain ⟨h1, h2⟩ := S.fd a o h
    exact ⟨noD a o h1 (S.fh _ _ h) h2, h2⟩
  · have q := S.ok n p c hp hc
    cases c with
    | dead => obtain ⟨o, q⟩ := q; exact ⟨o, e _ _ q⟩
    | lst ds =>
      obtain ⟨q1, vs, q2, q3⟩ := q
      exact ⟨noD p _ q1 q2 rfl, vs, e _ _ q2, dpa_mono e1 q3⟩
    | dic ds =>
      obtain ⟨q1, vs, q2, q3⟩ := q
      exact ⟨noD p _ q1 q2 rfl, vs, e _ _ q2, kp_mono e1 q3⟩
    | ldic od us ds =>
      obtain ⟨q1, q2, q3⟩ := q
      exact ⟨noD p _ q1 q2 rfl, e _ _ q2, kp_mono e1 q3⟩
    | gen φ ks =>
      obtain ⟨q1, vs, q2, q3, q4⟩ := q
      exact ⟨noD p _ q1 q2 q3, vs, e _ _ q2, q3, L2.Paired.mapP q4 fun x k h => h.mono0 e1 e2⟩
    | jl n =>
      obtain ⟨q1, vs, q2, q3⟩ := q
      exact ⟨noD p _ q1 q2 rfl, vs, e _ _ q2, q3⟩
    | tpl ks =>
      obtain ⟨vs, q2, q4⟩ := q
      exact ⟨vs, e _ _ q2, L2.Paired.mapP q4 fun x k h => h.mono0 e1 e2⟩
    | tr qs lss =>
      obtain ⟨q1, q2, q3, q4⟩ := q
      refine ⟨noD p _ q1 q2 rfl, e _ _ q2, fun q hq => ?_, L2.Paired.mapP q4 fun x k h => h.imp fun vs h => ⟨e _ _ h.1, dpa_mono e1 h.2⟩⟩
      obtain ⟨ds, vs, h1, _⟩ := prd_in q4 q hq
      exact noD q _ (q3 q hq) h1 rfl
  · exact L2.Paired.mapP S.sv fun x k h => h.mono0 e1 e2
  · exact L2.Paired.mapP S.tv fun x k h => h.mono0 e1 e2
  · intro a o h
    have hH : (match Hd a with | some o => some o | none => Hf a) = some o := by
      split
      · rename_i u hu
        have := e _ _ (S.dh _ _ hu)
        rw [ef _ _ h] at this
        exact this.symm
      · exact h
    refine port_of hH ?_
    rcases hf a o h with z | z
    · exact .inl z
    · refine .inr ?_
      cases q : He a with
      | none => rfl
      | some u => rw [S.dh _ _ (S.eh _ _ q)] at z; cases z
  · intro p h1 h2
    show (match Hd p with | some o => some o | none => Hf p) = none
    cases q : Hd p with
    | none => exact h2
    | some u => rw [S.dh _ _ q] at h1; cases h1
theorem SB.grow (S : SB K He Fr Hd ps m ow ts σ xs H) (e : Same H H') : SB K He Fr Hd ps m ow ts σ xs H' := by
  refine ⟨S.eh, S.dh.trans e, S.fh.trans e, S.fd, S.fk, S.nk, S.pl, fun n p c hp hc => ?_, S.sv, S.tv⟩
  have q := S.ok n p c hp hc
  cases c with
  | dead => obtain ⟨o, q⟩ := q; exact ⟨o, e _ _ q⟩
  | lst ds => exact ⟨q.1, q.2.imp fun vs h => ⟨e _ _ h.1, h.2⟩⟩
  | dic ds => exact ⟨q.1, q.2.imp fun vs h => ⟨e _ _ h.1, h.2⟩⟩
  | ldic od us ds => exact ⟨q.1, e _ _ q.2.1, q.2.2⟩
  | gen φ ks => exact ⟨q.1, q.2.imp fun vs h => ⟨e _ _ h.1, h.2⟩⟩
  | tpl ks => exact q.imp fun vs h => ⟨e _ _ h.1, h.2⟩
  | jl n => exact ⟨q.1, q.2.imp fun vs h => ⟨e _ _ h.1, h.2⟩⟩
  | tr qs lss => exact ⟨q.1, e _ _ q.2.1, q.2.2.1, L2.Paired.mapP q.2.2.2 fun x k h => h.imp fun vs h => ⟨e _ _ h.1, h.2⟩⟩
theorem SB.push (S : SB K He Fr Hd ps m ow ts σ xs H) {x : V} {k : Knd} (h : KOk K (port He Hd) Hd ps x k) : SB K He Fr Hd ps m ow (k :: ts) σ (x :: xs) H := ⟨S.eh, S.dh, S.fh, S.fd, S.fk, S.nk, S.pl, S.ok, S.sv, .cons h S.tv⟩
theorem SB.pop {x : V} {k : Knd} (S : SB K He Fr Hd ps m ow (k :: ts) σ (x :: xs) H) : KOk K (port He Hd) Hd ps x k ∧ SB K He Fr Hd ps m ow ts σ xs H := by
  cases S.tv with
  | cons h t => exact ⟨h, S.eh, S.dh, S.fh, S.fd, S.fk, S.nk, S.pl, S.ok, S.sv, t⟩
/-- a new list of one's own -/
theorem SB.pushC (S : SB K He Fr Hd ps m ow ts σ xs H) {p : Addr} {c0 : OC} (hf : Fr p = none) (np : p ∉ ps ++ kids ow) (h : OwnOk K (port He Hd) Hd ps H p c0) (hk : kidC c0 = [] := by rfl) :
    SB K He Fr Hd (ps ++ [p]) m (ow ++ [c0]) (.own ow.length :: ts) σ (.ref p :: xs) H := by
  have ek : kids (ow ++ [c0]) = kids ow := by rw [kids_app, kids_one, hk, List.append_nil]
  refine ⟨S.eh, S.dh, S.fh, S.fd, fun q hq => ?_, ?_, ?_, fun n q c hq hc => ?_, L2.Paired.mapP S.sv fun x k h => h.mono _ (Same.refl _) (Same.refl _), .cons ⟨p, ?_, rfl⟩ (L2.Paired.mapP S.tv fun x k h => h.mono _ (Same.refl _) (Same.refl _))⟩
  · rw [ek] at hq
    rcases List.mem_append.mp hq with hq | hq
    · rcases List.mem_append.mp hq with hq | hq
      · exact S.fp q hq
      · simp at hq; subst hq; exact hf
    · exact S.fk q (List.mem_append_right _ hq)
  · rw [ek, List.append_assoc]
    have := S.nk
    rw [List.nodup_append] at this ⊢
    refine ⟨this.1, List.nodup_cons.mpr ⟨fun z => np (List.mem_append_right _ z), this.2.1⟩, fun a ha b hb => ?_⟩
    rcases List.mem_cons.mp hb with rfl | hb
    · exact fun e => np (List.mem_append_left _ (e ▸ ha))
    · exact this.2.2 a ha b hb
  · rw [List.length_append, List.length_append, S.pl]; rfl
  · by_cases hn : n < ps.length
    · rw [List.getElem?_append_left hn] at hq
      rw [List.getElem?_append_left (by rw [← S.pl]; exact hn)] at hc
      exact (S.ok n q c hq hc).more [p]
    · have e : n = ps.length := by
        have := (List.getElem?_eq_some_iff.mp hq).1
        rw [List.length_append] at this
        simp at this
        omega
      subst e
      rw [List.getElem?_append_right (Nat.le_refl _)] at hq
      rw [S.pl, List.getElem?_append_right (Nat.le_refl _)] at hc
      simp at hq hc
      subst hq
      subst hc
      exact h.more [p]
  · rw [← S.pl, List.getElem?_append_right (Nat.le_refl _)]
    simp
theorem SB.pushOwn (S : SB K He Fr Hd ps m ow ts σ xs H) {p : Addr} {vs : List V} {ds : List PyData} (hp : H p = some (.lst vs)) (hd : Hd p = none) (hf : Fr p = none) (np : p ∉ ps ++ kids ow) (h : DpAll K (port He Hd) vs ds) :
    SB K He Fr Hd (ps ++ [p]) m (ow ++ [.lst ds]) (.own ow.length :: ts) σ (.ref p :: xs) H := S.pushC (c0 := .lst ds) hf np ⟨hd, vs, hp, h⟩
theorem SB.apart (S : SB K He Fr Hd ps m ow ts σ xs H) {n j : Nat} {p q : Addr} (hp : ps[n]? = some p) (hq : ps[j]? = some q) (e : n ≠ j) : q ≠ p := fun z => by
  subst z
  obtain ⟨h1, e1⟩ := List.getElem?_eq_some_iff.mp hp
  obtain ⟨h2, e2⟩ := List.getElem?_eq_some_iff.mp hq
  exact e ((List.getElem_inj S.nd).mp (e1.trans e2.symm))
/-- a list of one's own is changed -/
theorem SB.writeC (S : SB K He Fr Hd ps m ow ts σ xs H) {n : Nat} {p : Addr} {o : HO} {c0 c1 : OC} (hp : ps[n]? = some p) (hn : ow[n]? = some c0) (hd : Hd p = none) (h : OwnOk K (port He Hd) Hd ps (upd H p o) p c1) (hk : kidC c1 = kidC c0 := by rfl) :
    SB K He Fr Hd ps m (ow.set n c1) ts σ xs (upd H p o) := by
  have ek := kids_set hn hk
  refine ⟨S.eh, fun a o ha => ?_, fun a o ha => ?_, S.fd, by rw [ek]; exact S.fk, by rw [ek]; exact S.nk, by rw [List.length_set]; exact S.pl, fun j q c hq hc => ?_, S.sv, S.tv⟩
  · have : a ≠ p := fun e => by rw [e, hd] at ha; cases ha
    rw [upd_ne this]
    exact S.dh _ _ ha
  · have : a ≠ p := fun e => by rw [e, S.fp p (List.mem_of_getElem? hp)] at ha; cases ha
    rw [upd_ne this]
    exact S.fh _ _ ha
  · by_cases e : n = j
    · subst e
      rw [hp] at hq
      cases hq
      rw [List.getElem?_set_self (List.getElem?_eq_some_iff.mp hn).1] at hc
      cases hc
      exact h
    · rw [List.getElem?_set_ne e] at hc
      have hne := S.apart hp hq e
      have q1 := S.ok j q c hq hc
      cases c with
      | dead => obtain ⟨o, q1⟩ := q1; exact ⟨o, by rw [upd_ne hne]; exact q1⟩
      | lst ds1 => exact ⟨q1.1, q1.2.imp fun us h => ⟨by rw [upd_ne hne]; exact h.1, h.2⟩⟩
      | dic ds1 => exact ⟨q1.1, q1.2.imp fun us h => ⟨by rw [upd_ne hne]; exact h.1, h.2⟩⟩
      | ldic od us ds1 => exact ⟨q1.1, by rw [upd_ne hne]; exact q1.2.1, q1.2.2⟩
      | gen φ ks => exact ⟨q1.1, q1.2.imp fun vs h => ⟨by rw [upd_ne hne]; exact h.1, h.2⟩⟩
      | tpl ks => exact q1.imp fun vs h => ⟨by rw [upd_ne hne]; exact h.1, h.2⟩
      | jl n => exact ⟨q1.1, q1.2.imp fun us h => ⟨by rw [upd_ne hne]; exact h.1, h.2⟩⟩
      | tr qs lss => exact ⟨q1.1, by rw [upd_ne hne]; exact q1.2.1, q1.2.2.1, prd_mm q1.2.2.2 fun x hx k h => h.imp fun vs h => ⟨by rw [upd_ne (S.kidNe (List.mem_of_getElem? hp) (kids_mem hc hx))]; exact h.1, h.2⟩⟩
theorem SB.write (S : SB K He Fr Hd ps m ow ts σ xs H) {n : Nat} {p : Addr} {ds0 : List PyData} (hp : ps[n]? = some p) (hn : ow[n]? = some (.lst ds0)) {vs : List V} {ds : List PyData} (h : DpAll K (port He Hd) vs ds) :
    SB K He Fr Hd ps m (ow.set n (.lst ds)) ts σ xs (upd H p (.lst vs)) := S.writeC (c1 := .lst ds) hp hn (S.ok n p _ hp hn).1 ⟨(S.ok n p _ hp hn).1, vs, upd_same, h⟩
/-- a slot is stored -/
theorem SB.store (S : SB K He Fr Hd ps m ow ts σ xs H) {x : V} {k : Knd} (h : KOk K (port He Hd) Hd ps x k) (i : Nat) : SB K He Fr Hd ps (m.set i (some k)) ow ts (σ.set i (some x)) xs H :=
  ⟨S.eh, S.dh, S.fh, S.fd, S.fk, S.nk, S.pl, S.ok, prd_set ⟨x, rfl, h⟩ i S.sv, S.tv⟩
end
end
end LD

/-! What an expression, a test, an argument list gives, as data. -/
namespace LD
open PySem PySem.Spec PyProof.Rows L2

def sd : V → Option PyData
  | .non => some .none
  | .bl b => some (.bool b)
  | .int i => some (.int i)
  | .str s => some (.str s)
  | _ => none
def kd : PyData → Knd
  | .none => .v .non
  | .bool b => .v (.bl b)
  | .int i => .v (.int i)
  | .str s => .v (.str s)
  | d => .dat d
def ka : PyData → Knd
  | .none => .v .non
  | .bool b => .v (.bl b)
  | .int i => .v (.int i)
  | .str s => .v (.str s)
  | d => .arg d
def ek (b : Bool) (d : PyData) : Knd := if b then kd d else ka d
def pd : Knd → Option PyData
  | .v x => sd x
  | .dat d => some d
  | _ => none
def ad (ow : List OC) : Knd → Option PyData
  | .v x => sd x
  | .dat d => some d
  | .arg d => some d
  | .own n => match ow[n]? with
    | some (.lst ds) => some (.list ds)
    | some (.tr _ lss) => some (.list (lss.map PyData.list))
    | _ => none
def ads (ow : List OC) : List Knd → Option (List PyData)
  | [] => some []
  | k :: r => match ad ow k, ads ow r with
    | some d, some ds => some (d :: ds)
    | _, _ => none
def pds : List Knd → Option (List PyData)
  | [] => some []
  | k :: r => match pd k, pds r with
    | some d, some ds => some (d :: ds)
    | _, _ => none
def seqOf (ow : List OC) : Knd → Option (Bool × List PyData)
  | .dat (.list ds) => some (true, ds)
  | .arg (.list ds) => some (false, ds)
  | .own n => match ow[n]? with
    | some (.lst ds) => some (true, ds)
    | _ => none
  | _ => none
def tupOf : Knd → Option (Bool × List PyData)
  | .dat (.tuple ds) => some (true, ds)
  | .arg (.tuple ds) => some (false, ds)
  | _ => none
mutual
def imm : PyData → Bool
  | .list _ => false
  | .dict _ => false
  | .tuple ds => imms ds
  | _ => true
def imms : List PyData → Bool
  | [] => true
  | d :: r => imm d && imms r
end
theorem imms_int : ∀ ns : List Int, imms (ns.map PyData.int) = true
  | [] => rfl
  | n :: r => by rw [List.map_cons, imms, imms_int r]; rfl
theorem imms_bool : ∀ ns : List Bool, imms (ns.map PyData.bool) = true
  | [] => rfl
  | n :: r => by rw [List.map_cons, imms, imms_bool r]; rfl
theorem imms_mem : ∀ {ds : List PyData}, (∀ d ∈ ds, imm d = true) → imms ds = true
  | [], _ => rfl
  | d :: r, h => by rw [imms, h d (List.mem_cons_self ..), imms_mem fun e he => h e (List.mem_cons_of_mem _ he)]; rfl
def reg (b : Bool) (He Hd : Hp) : Hp := if b = true then port He Hd else Hd

section
variable {K : PySem.W.Frag} {He Fr Hq Hd H : Hp} {ps : List Addr} {m : Env'} {ow : List OC} {ts : List Knd} {σ : L2.St} {xs : List V} {x : V} {k : Knd} {d : PyData} {ds : List PyData} {b : Bool}
theorem sd_ok {Hq : Hp} (h : sd x = some d) : Dp K Hq x d := by
  cases x <;> simp only [sd, Option.some.injEq, reduceCtorEq] at h <;> subst h <;> constructor
theorem kd_ok (h : Dp K Hq x d) : KOk K Hq Hd ps x (kd d) := by
  cases h with
  | non => exact rfl
  | bl b => exact rfl
  | int i => exact rfl
  | str s => exact rfl
  | lst a c => exact Dp.lst a c
  | tup a c => exact Dp.tup a c
  | dic a => exact Dp.dic a
theorem ka_ok (h : Dp K Hd x d) : KOk K Hq Hd ps x (ka d) := by
  cases h with
  | non => exact rfl
  | bl b => exact rfl
  | int i => exact rfl
  | str s => exact rfl
  | lst a c => exact Dp.lst a c
  | tup a c => exact Dp.tup a c
  | dic a => exact Dp.dic a
theorem ek_ok (h : Dp K (reg b He Hd) x d) : KOk K (port He Hd) Hd ps x (ek b d) := by
  cases b with
  | true => exact kd_ok h
  | false => exact ka_ok h
theorem pd_ok (h : KOk K Hq Hd ps x k) (e : pd k = some d) : Dp K Hq x d := by
  cases k with
  | v y => cases (show x = y from h); exact sd_ok e
  | dat d' => simp only [pd, Option.some.injEq] at e; subst e; exact h
  | arg d' => simp [pd] at e
  | own n => simp [pd] at e
theorem SB.own (S : SB K He Fr Hd ps m ow ts σ xs H) {n : Nat} (h : KOk K (port He Hd) Hd ps x (.own n)) (e : ow[n]? = some (.lst ds)) :
    ∃ p vs, ps[n]? = some p ∧ x = .ref p ∧ Hd p = none ∧ H p = some (.lst vs) ∧ DpAll K (port He Hd) vs ds := by
  obtain ⟨p, hp, hx⟩ := h
  obtain ⟨h1, vs, h2, h3⟩ := S.ok n p _ hp e
  exact ⟨p, vs, hp, hx, h1, h2, h3⟩
theorem SB.sub (S : SB K He Fr Hd ps m ow ts σ xs H) : Same (port He Hd) H := (port_sub _ _).trans S.dh
theorem reg_sub (b : Bool) : Same (reg b He Hd) Hd := by
  cases b with
  | true => exact port_sub _ _
  | false => exact Same.refl _
theorem tr_dpa {Hx : Hp} : ∀ {qs : List Addr} {lss : List (List PyData)}, (∀ q ∈ qs, ∀ vs, H q = some (.lst vs) → Hx q = some (.lst vs)) → Same Hq Hx → Paired (fun q ds => ∃ vs, H q = some (.lst vs) ∧ DpAll K Hq vs ds) qs lss → DpAll K Hx (qs.map V.ref) (lss.map PyData.list)
  | _, _, _, _, .nil => .nil
  | q :: qs, _, g, e, .cons h t => by
    obtain ⟨vs, h1, h2⟩ := h
    exact .cons (.lst (.inl (.inl (g q (List.mem_cons_self ..) vs h1))) (dpa_mono e h2)) (tr_dpa (fun q hq => g q (List.mem_cons_of_mem _ hq)) e t)
theorem ad_ok (S : SB K He Fr Hd ps m ow ts σ xs H) (h : KOk K (port He Hd) Hd ps x k) (e : ad ow k = some d) : Dp K H x d := by
  cases k with
  | v y => cases (show x = y from h); exact sd_ok e
  | dat d' => simp only [ad, Option.some.injEq] at e; subst e; exact dp_mono S.sub h
  | arg d' => simp only [ad, Option.some.injEq] at e; subst e; exact dp_mono S.dh h
  | own n =>
    simp only [ad] at e
    split at e
    · rename_i ds q
      simp only [Option.some.injEq] at e
      subst e
      obtain ⟨p, vs, _, rfl, _, h2, h3⟩ := S.own h q
      exact .lst (.inl (.inl h2)) (dpa_mono S.sub h3)
    · rename_i qs lss q
      simp only [Option.some.injEq] at e
      subst e
      obtain ⟨p, hp, rfl⟩ := h
      obtain ⟨_, h2, _, h4⟩ := S.ok _ p _ hp q
      exact .lst (.inl (.inl h2)) (tr_dpa (fun _ _ _ hv => hv) S.sub h4)
    · cases e
theorem ads_ok (S : SB K He Fr Hd ps m ow ts σ xs H) : ∀ {ks : List Knd} {ys : List V} {ds : List PyData}, Paired (KOk K (port He Hd) Hd ps) ys ks → ads ow ks = some ds → DpAll K H ys ds
  | _, _, _, .nil, e => by simp only [ads, Option.some.injEq] at e; subst e; exact .nil
  | k :: r, _, _, .cons h t, e => by
    simp only [ads] at e
    split at e
    · rename_i d ds h1 h2
      simp only [Option.some.injEq] at e
      subst e
      exact .cons (ad_ok S h h1) (ads_ok S t h2)
    · cases e
theorem pds_ok : ∀ {ks : List Knd} {ys : List V} {ds : List PyData}, Paired (KOk K Hq Hd ps) ys ks → pds ks = some ds → DpAll K Hq ys ds
  | _, _, _, .nil, e => by simp only [pds, Option.some.injEq] at e; subst e; exact .nil
  | k :: r, _, _, .cons h t, e => by
    simp only [pds] at e
    split at e
    · rename_i d ds h1 h2
      simp only [Option.some.injEq] at e
      subst e
      exact .cons (pd_ok h h1) (pds_ok t h2)
    · cases e
theorem seq_ok (S : SB K He Fr Hd ps m ow ts σ xs H) (h : KOk K (port He Hd) Hd ps x k) (e : seqOf ow k = some (b, ds)) : ∃ p vs, x = .ref p ∧ SqL K H p vs ∧ DpAll K (reg b He Hd) vs ds := by
  cases k with
  | v y => simp [seqOf] at e
  | dat d' =>
    cases d' <;> simp only [seqOf, Option.some.injEq, Prod.mk.injEq, reduceCtorEq] at e
    obtain ⟨rfl, rfl⟩ := e
    cases (show Dp K (port He Hd) x _ from h) with
    | lst a c => exact ⟨_, _, rfl, S.sub.seq a, c⟩
  | arg d' =>
    cases d' <;> simp only [seqOf, Option.some.injEq, Prod.mk.injEq, reduceCtorEq] at e
    obtain ⟨rfl, rfl⟩ := e
    cases (show Dp K Hd x _ from h) with
    | lst a c => exact ⟨_, _, rfl, S.dh.seq a, c⟩
  | own n =>
    simp only [seqOf] at e
    split at e
    · rename_i ds' q
      simp only [Option.some.injEq, Prod.mk.injEq] at e
      obtain ⟨rfl, rfl⟩ := e
      obtain ⟨p, vs, _, rfl, _, h2, h3⟩ := S.own h q
      exact ⟨p, vs, rfl, .inl (.inl h2), h3⟩
    · cases e
theorem tup_ok (S : SB K He Fr Hd ps m ow ts σ xs H) (h : KOk K (port He Hd) Hd ps x k) (e : tupOf k = some (b, ds)) : ∃ p vs, x = .ref p ∧ SqT K H p vs ∧ DpAll K (reg b He Hd) vs ds := by
  cases k with
  | v y => simp [tupOf] at e
  | own n => simp [tupOf] at e
  | dat d' =>
    cases d' <;> simp only [tupOf, Option.some.injEq, Prod.mk.injEq, reduceCtorEq] at e
    obtain ⟨rfl, rfl⟩ := e
    cases (show Dp K (port He Hd) x _ from h) with
    | tup a c => exact ⟨_, _, rfl, sqt_mono S.sub a, c⟩
  | arg d' =>
    cases d' <;> simp only [tupOf, Option.some.injEq, Prod.mk.injEq, reduceCtorEq] at e
    obtain ⟨rfl, rfl⟩ := e
    cases (show Dp K Hd x _ from h) with
    | tup a c => exact ⟨_, _, rfl, sqt_mono S.dh a, c⟩
mutual
theorem imm_ok : ∀ {x : V} {d : PyData}, Dp K Hd x d → imm d = true → Dp K (port He Hd) x d
  | _, _, .non, _ => .non
  | _, _, .bl b, _ => .bl b
  | _, _, .int i, _ => .int i
  | _, _, .str s, _ => .str s
  | _, _, .lst _ _, h => by simp [imm] at h
  | _, _, .dic _, h => by simp [imm] at h
  | _, _, .tup q c, h => by
    rw [imm] at h
    refine .tup ?_ (imms_ok c h)
    rcases q with (q | ⟨o, q⟩) | q
    · exact .inl (.inl (port_of q (.inl rfl)))
    · exact .inl (.inr ⟨o, port_of q (.inl rfl)⟩)
    · exact .inr q
theorem imms_ok : ∀ {xs : List V} {ds : List PyData}, DpAll K Hd xs ds → imms ds = true → DpAll K (port He Hd) xs ds
  | _, _, .nil, _ => .nil
  | _, _, .cons h t, e => by
    rw [imms, Bool.and_eq_true] at e
    exact .cons (imm_ok h e.1) (imms_ok t e.2)
end
/-- either it is one's own, or nothing in it changes -/
theorem prt (h : DpAll K (reg b He Hd) xs ds) (e : (b || imms ds) = true) : DpAll K (port He Hd) xs ds := by
  cases b with
  | true => exact h
  | false => exact imms_ok h (by simpa using e)
theorem prt1 (h : Dp K (reg b He Hd) x d) (e : (b || imm d) = true) : Dp K (port He Hd) x d := by
  cases b with
  | true => exact h
  | false => exact imm_ok h (by simpa using e)
end

/-- a new list: as data (b) or as one's own -/
def newK (b : Bool) (ow : List OC) (ds : List PyData) : Knd := if b then .dat (.list ds) else .own ow.length
def newO (b : Bool) (ow : List OC) (ds : List PyData) : List OC := if b then ow else ow ++ [.lst ds]

/-! ### the judgements -/
section
variable (K : PySem.W.Frag)
def EE (te : TE) (m : Env') (ow : List OC) (k : Knd) (ow' : List OC) : Prop := ∀ (He Fr : Hp) (ts : List Knd) (σ : L2.St) (xs : List V) (H : Hp) (Q : VK), SA K He Fr m ow ts σ xs H →
  (∀ x H', SA K He Fr m ow' (k :: ts) σ (x :: xs) H' → Q x H') → te σ H Q
def EB (tt : TT) (m : Env') (ow : List OC) (b : Bool) (ow' : List OC) : Prop := ∀ (He Fr : Hp) (ts : List Knd) (σ : L2.St) (xs : List V) (H : Hp) (Q : Bool → Hp → Prop), SA K He Fr m ow ts σ xs H →
  (∀ H', SA K He Fr m ow' ts σ xs H' → Q b H') → tt σ H Q
def EA (ta : TA) (m : Env') (ow : List OC) (ks : List Knd) (ow' : List OC) : Prop := ∀ (He Fr : Hp) (ts : List Knd) (σ : L2.St) (xs : List V) (H : Hp) (Q : List V → Hp → Prop), SA K He Fr m ow ts σ xs H →
  (∀ ys H', ys.length = ks.length → SA K He Fr m ow' (ks.reverseAux ts) σ (ys.reverseAux xs) H' → Q ys H') → ta σ H Q
def RR (r : R2) (m : Env') (ow : List OC) (k1 k2 k : Knd) (ow' : List OC) : Prop := ∀ (He Fr : Hp) (ts : List Knd) (σ : L2.St) (x y : V) (xs : List V) (H : Hp) (Q : VK), SA K He Fr m ow (k2 :: k1 :: ts) σ (y :: x :: xs) H →
  (∀ z H', SA K He Fr m ow' (k :: ts) σ (z :: xs) H' → Q z H') → r x y H Q
def CC (r : List V → Hp → VK → Prop) (m : Env') (ow : List OC) (ks : List Knd) (k : Knd) (ow' : List OC) : Prop := ∀ (He Fr : Hp) (ts : List Knd) (σ : L2.St) (ys xs : List V) (H : Hp) (Q : VK), ys.length = ks.length →
  SA K He Fr m ow (ks.reverseAux ts) σ (ys.reverseAux xs) H → (∀ z H', SA K He Fr m ow' (k :: ts) σ (z :: xs) H' → Q z H') → r ys H Q
/-- a part of a slice -/
def EO (to : TO) (m : Env') (ow : List OC) (o : Option Int) (ow' : List OC) : Prop := ∀ (He Fr : Hp) (ts : List Knd) (σ : L2.St) (xs : List V) (H : Hp) (Q : Option Int → Hp → Prop), SA K He Fr m ow ts σ xs H →
  (∀ H', SA K He Fr m ow' ts σ xs H' → Q o H') → to σ H Q
end

section
variable {K : PySem.W.Frag} {m : Env'} {ow ow1 ow2 ow3 ow' : List OC} {k k1 k2 k3 : Knd} {ks : List Knd} {ta tb tc te to : TE} {t u : TT} {ar : TA} {b c : Bool} {i j l : Int} {v x y : V} {d e : PyData} {ds es : List PyData}

theorem SA.mk {He Fr Hd : Hp} {ps : List Addr} {ts : List Knd} {σ : L2.St} {xs : List V} {H : Hp} (S : SB K He Fr Hd ps m ow ts σ xs H) : SA K He Fr m ow ts σ xs H := ⟨Hd, ps, S⟩
/-- the value that is known of the topmost temporary -/
theorem SA.top {He Fr : Hp} {ts : List Knd} {σ : L2.St} {xs : List V} {H : Hp} (S : SA K He Fr m ow (.v v :: ts) σ (x :: xs) H) : x = v := let ⟨_, _, S⟩ := S; S.pop.1
theorem SA.drop {He Fr : Hp} {ts : List Knd} {σ : L2.St} {xs : List V} {H : Hp} (S : SA K He Fr m ow (k :: ts) σ (x :: xs) H) : SA K He Fr m ow ts σ xs H := let ⟨_, _, S⟩ := S; ⟨_, _, S.pop.2⟩
theorem SA.pushV {He Fr : Hp} {ts : List Knd} {σ : L2.St} {xs : List V} {H : Hp} (S : SA K He Fr m ow ts σ xs H) (v : V) : SA K He Fr m ow (.v v :: ts) σ (v :: xs) H := let ⟨_, _, S⟩ := S; ⟨_, _, S.push rfl⟩
/-- the new list at p -/
theorem SB.made {He Fr Hd : Hp} {ps : List Addr} {ts : List Knd} {σ : L2.St} {xs : List V} {H : Hp} (b : Bool) (S : SB K He Fr Hd ps m ow ts σ xs H) {p : Addr} {vs : List V} (hp : H p = none) (h : DpAll K (port He Hd) vs ds) :
    SA K He Fr m (newO b ow ds) (newK b ow ds :: ts) σ (.ref p :: xs) (upd H p (.lst vs)) := by
  have e : Same H (upd H p (.lst vs)) := fun a o q => by rw [upd_ne (ne_of_none q hp)]; exact q
  have nF : Fr p = none := by
    cases q : Fr p with
    | none => rfl
    | some o => rw [S.fh _ _ q] at hp; cases hp
  cases b with
  | false =>
    have nD : Hd p = none := by
      cases q : Hd p with
      | none => rfl
      | some o => rw [S.dh _ _ q] at hp; cases hp
    exact ⟨_, _, (S.grow e).pushOwn upd_same nD nF (fun hm => by obtain ⟨o, q⟩ := S.inH hm; rw [hp] at q; cases q) h⟩
  | true =>
    have c : ∀ a o, (if a = p then some (HO.lst vs) else none) = some o → a = p ∧ o = .lst vs := fun a o q => by
      split at q
      · cases q; exact ⟨by assumption, rfl⟩
      · cases q
    obtain ⟨Hd', S', e1, e2, _⟩ := S.ext (Hf := fun a => if a = p then some (.lst vs) else none) e (fun a o q => (by obtain ⟨rfl, rfl⟩ := c a o q; exact upd_same)) fun a o q => .inr (by obtain ⟨rfl, rfl⟩ := c a o q; exact hp)
    exact ⟨Hd', ps, S'.push (k := .dat (.list ds)) (.lst (.inl (.inl (e2 p _ (if_pos rfl)))) (dpa_mono (port_mono e1) h))⟩
/-- the new tuple at p -/
theorem SB.madeT {He Fr Hd : Hp} {ps : List Addr} {ts : List Knd} {σ : L2.St} {xs : List V} {H : Hp} (S : SB K He Fr Hd ps m ow ts σ xs H) {p : Addr} {vs : List V} (hp : H p = none) (h : DpAll K (port He Hd) vs ds) :
    SA K He Fr m ow (.dat (.tuple ds) :: ts) σ (.ref p :: xs) (upd H p (.tup vs)) := by
  have e : Same H (upd H p (.tup vs)) := fun a o q => by rw [upd_ne (ne_of_none q hp)]; exact q
  have c : ∀ a o, (if a = p then some (HO.tup vs) else none) = some o → a = p ∧ o = .tup vs := fun a o q => by
    split at q
    · cases q; exact ⟨by assumption, rfl⟩
    · cases q
  obtain ⟨Hd', S', e1, e2, _⟩ := S.ext (Hf := fun a => if a = p then some (.tup vs) else none) e (fun a o q => (by obtain ⟨rfl, rfl⟩ := c a o q; exact upd_same)) fun a o q => .inr (by obtain ⟨rfl, rfl⟩ := c a o q; exact hp)
  exact ⟨Hd', ps, S'.push (k := .dat (.tuple ds)) (.tup (.inl (.inl (e2 p _ (if_pos rfl)))) (dpa_mono (port_mono e1) h))⟩

/-! ### names, constants, operators -/
theorem ee_var {i : Nat} (h : m[i]? = some (some k)) : EE K (tVar i) m ow k ow := by
  rintro He Fr ts σ xs H Q ⟨Hd, ps, S⟩ q
  obtain ⟨y, h1, h2⟩ := prd_get S.sv h
  obtain ⟨x, rfl, h3⟩ := (show ∃ x, y = some x ∧ _ from h2)
  exact ⟨x, h1, q x H ⟨Hd, ps, S.push h3⟩⟩
theorem ee_c : EE K (tC v) m ow (.v v) ow := fun He Fr ts σ xs H Q S q => q v H (S.pushV v)
theorem ee_op {r : R2} (ha : EE K ta m ow k1 ow1) (hb : EE K tb m ow1 k2 ow2) (hr : RR K r m ow2 k1 k2 k ow3) : EE K (tOp r ta tb) m ow k ow3 := fun He Fr ts σ xs H Q S q =>
  ha He Fr ts σ xs H _ S fun x H1 S1 => hb He Fr _ σ _ H1 _ S1 fun y H2 S2 => hr He Fr ts σ x y xs H2 Q S2 q
theorem ee_un {g : Int → V} (ha : EE K ta m ow (.v (.int i)) ow1) : EE K (tUn (rU g) ta) m ow (.v (g i)) ow1 := fun He Fr ts σ xs H Q S q =>
  ha He Fr ts σ xs H _ S fun x H1 S1 => ⟨i, S1.top, q _ H1 (S1.drop.pushV _)⟩
theorem rr_0 {g : Int → Int → V} : RR K (rI0 g) m ow (.v (.int i)) (.v (.int j)) (.v (g i j)) ow := fun He Fr ts σ x y xs H Q S q => ⟨i, j, S.drop.top, S.top, q _ H (S.drop.drop.pushV _)⟩
theorem rr_1 {C : Int → Int → Prop} {g : Int → Int → V} (h : C i j) : RR K (rI C g) m ow (.v (.int i)) (.v (.int j)) (.v (g i j)) ow := fun He Fr ts σ x y xs H Q S q => ⟨i, j, S.drop.top, S.top, h, q _ H (S.drop.drop.pushV _)⟩
theorem rr_eq (h : scal x y = true) : RR K rEq m ow (.v x) (.v y) (.v (.bl (decide (x = y)))) ow := fun He Fr ts σ x' y' xs H Q S q => by
  cases S.drop.top
  cases S.top
  exact ⟨h, q _ H (S.drop.drop.pushV _)⟩
theorem rr_ne (h : scal x y = true) : RR K rNe m ow (.v x) (.v y) (.v (.bl (!decide (x = y)))) ow := fun He Fr ts σ x' y' xs H Q S q => by
  cases S.drop.top
  cases S.top
  exact ⟨h, q _ H (S.drop.drop.pushV _)⟩
theorem rr_eqD (h1 : ad ow k1 = some d) (h2 : ad ow k2 = some e) (s1 : SeqAt.shaped d = true) (s2 : SeqAt.shaped e = true) : RR K (rEqD K) m ow k1 k2 (.v (.bl (PyData.eqv d e))) ow := by
  rintro He Fr ts σ x y xs H Q ⟨Hd, ps, S⟩ q
  exact ⟨d, e, dp_hand (ad_ok S S.pop.2.pop.1 h1) (nod_shaped s1), dp_hand (ad_ok S S.pop.1 h2) (nod_shaped s2), s1, s2, q _ H ⟨Hd, ps, S.pop.2.pop.2.push rfl⟩⟩
theorem rr_neD (h1 : ad ow k1 = some d) (h2 : ad ow k2 = some e) (s1 : SeqAt.shaped d = true) (s2 : SeqAt.shaped e = true) : RR K (rNeD K) m ow k1 k2 (.v (.bl (!PyData.eqv d e))) ow := by
  rintro He Fr ts σ x y xs H Q ⟨Hd, ps, S⟩ q
  exact ⟨d, e, dp_hand (ad_ok S S.pop.2.pop.1 h1) (nod_shaped s1), dp_hand (ad_ok S S.pop.1 h2) (nod_shaped s2), s1, s2, q _ H ⟨Hd, ps, S.pop.2.pop.2.push rfl⟩⟩
theorem atI_len {α β : Type} {xs : List α} {ys : List β} (h : xs.length = ys.length) {i : Int} {y : β} (e : atI ys i = some y) : ∃ j : Nat, ys[j]? = some y ∧ ∀ x, xs[j]? = some x → atI xs i = some x := by
  unfold atI at e ⊢
  rw [h]
  cases q : ixN ys.length i with
  | none => rw [q] at e; cases e
  | some j => rw [q] at e; exact ⟨j, e, fun x hx => hx⟩
theorem rr_ixL (h : seqOf ow k1 = some (b, ds)) (ha : atI ds i = some d) : RR K (rIxL K) m ow k1 (.v (.int i)) (ek b d) ow := by
  rintro He Fr ts σ x y xs H Q ⟨Hd, ps, S⟩ q
  obtain ⟨p, vs, rfl, hs, hd⟩ := seq_ok S S.pop.2.pop.1 h
  obtain ⟨j, e1, e2⟩ := atI_len (dpa_len hd) ha
  obtain ⟨z, e3, hz⟩ := dpa_get hd e1
  exact ⟨p, vs, i, z, rfl, S.pop.1, hs, e2 z e3, q z H ⟨Hd, ps, S.pop.2.pop.2.push (ek_ok hz)⟩⟩
theorem rr_ixT (h : tupOf k1 = some (b, ds)) (ha : atI ds i = some d) : RR K (rIxT K) m ow k1 (.v (.int i)) (ek b d) ow := by
  rintro He Fr ts σ x y xs H Q ⟨Hd, ps, S⟩ q
  obtain ⟨p, vs, rfl, hs, hd⟩ := tup_ok S S.pop.2.pop.1 h
  obtain ⟨j, e1, e2⟩ := atI_len (dpa_len hd) ha
  obtain ⟨z, e3, hz⟩ := dpa_get hd e1
  exact ⟨p, vs, i, z, rfl, S.pop.1, hs, e2 z e3, q z H ⟨Hd, ps, S.pop.2.pop.2.push (ek_ok hz)⟩⟩
theorem ee_isN (ha : EE K ta m ow (.v x) ow1) : EE K (tIsN ta) m ow (.v (.bl (decide (x = .non)))) ow1 := fun He Fr ts σ xs H Q S q =>
  ha He Fr ts σ xs H _ S fun y H1 S1 => by cases S1.top; exact q _ H1 (S1.drop.pushV _)
theorem ee_notN (ha : EE K ta m ow (.v x) ow1) : EE K (tNotN ta) m ow (.v (.bl (!decide (x = .non)))) ow1 := fun He Fr ts σ xs H Q S q =>
  ha He Fr ts σ xs H _ S fun y H1 S1 => by cases S1.top; exact q _ H1 (S1.drop.pushV _)
theorem ee_not (ha : EE K ta m ow (.v (.bl b)) ow1) : EE K (tNotV ta) m ow (.v (.bl (!b))) ow1 := fun He Fr ts σ xs H Q S q =>
  ha He Fr ts σ xs H _ S fun y H1 S1 => ⟨b, S1.top, q _ H1 (S1.drop.pushV _)⟩
theorem ee_and (ha : EE K ta m ow (.v (.bl b)) ow) (hb : b = true → EE K tb m ow (.v (.bl c)) ow) : EE K (tAndV ta tb) m ow (.v (.bl (b && c))) ow := fun He Fr ts σ xs H Q S q =>
  ha He Fr ts σ xs H _ S fun y H1 S1 => ⟨b, S1.top, by
    cases b with
    | true => rw [if_pos rfl]; exact hb rfl He Fr ts σ xs H1 Q S1.drop q
    | false => rw [if_neg Bool.false_ne_true]; exact q _ H1 (S1.drop.pushV _)⟩
theorem ee_or (ha : EE K ta m ow (.v (.bl b)) ow) (hb : b = false → EE K tb m ow (.v (.bl c)) ow) : EE K (tOrV ta tb) m ow (.v (.bl (b || c))) ow := fun He Fr ts σ xs H Q S q =>
  ha He Fr ts σ xs H _ S fun y H1 S1 => ⟨b, S1.top, by
    cases b with
    | false => rw [if_neg Bool.false_ne_true]; exact hb rfl He Fr ts σ xs H1 Q S1.drop q
    | true => rw [if_pos rfl]; exact q _ H1 (S1.drop.pushV _)⟩
theorem ee_ifT (h : EB K t m ow true ow1) (ha : EE K ta m ow1 k ow2) : EE K (tIf t ta tb) m ow k ow2 := fun He Fr ts σ xs H Q S q =>
  h He Fr ts σ xs H _ S fun H1 S1 => iteT (ha He Fr ts σ xs H1 Q S1 q)
theorem ee_ifF (h : EB K t m ow false ow1) (hb : EE K tb m ow1 k ow2) : EE K (tIf t ta tb) m ow k ow2 := fun He Fr ts σ xs H Q S q =>
  h He Fr ts σ xs H _ S fun H1 S1 => iteF (hb He Fr ts σ xs H1 Q S1 q)
theorem ee_if (h : EB K t m ow b ow1) (ha : b = true → EE K ta m ow1 k ow2) (hb : b = false → EE K tb m ow1 k ow2) : EE K (tIf t ta tb) m ow k ow2 := by
  cases b with
  | true => exact ee_ifT h (ha rfl)
  | false => exact ee_ifF h (hb rfl)
/-- a < b < c of whole numbers -/
theorem ee_chain {p p' : Int → Int → Bool} (ha : EE K ta m ow (.v (.int i)) ow) (hb : EE K tb m ow (.v (.int j)) ow) (hc : EE K tc m ow (.v (.int l)) ow) :
    EE K (tChain (rI0 fun i j => .bl (p i j)) (rI0 fun i j => .bl (p' i j)) ta tb tc) m ow (.v (.bl (p i j && p' j l))) ow := fun He Fr ts σ xs H Q S q =>
  ha He Fr ts σ xs H _ S fun x H1 S1 => hb He Fr _ σ _ H1 _ S1 fun y H2 S2 => ⟨i, j, S2.drop.top, S2.top, p i j, rfl, by
    cases hp : p i j with
    | true =>
      rw [hp] at q
      rw [if_pos rfl]
      exact hc He Fr _ σ _ H2 _ S2 fun z H3 S3 => ⟨j, l, S3.drop.top, S3.top, q _ H3 (S3.drop.drop.drop.pushV _)⟩
    | false =>
      rw [hp] at q
      rw [if_neg Bool.false_ne_true]
      exact q _ H2 (S2.drop.drop.pushV _)⟩
/-! ### tests -/
theorem eb_test (h : EE K te m ow (.v (.bl b)) ow1) : EB K (tTest te) m ow b ow1 := fun He Fr ts σ xs H Q S q => h He Fr ts σ xs H _ S fun x H1 S1 => ⟨b, S1.top, q H1 S1.drop⟩
theorem eb_val (h : EE K te m ow (.v (.bl b)) ow1) : EB K (tB te) m ow b ow1 := fun He Fr ts σ xs H Q S q => h He Fr ts σ xs H _ S fun x H1 S1 => ⟨b, S1.top, q H1 S1.drop⟩
theorem eb_not (h : EB K t m ow b ow1) : EB K (tNot t) m ow (!b) ow1 := fun He Fr ts σ xs H Q S q => h He Fr ts σ xs H _ S q
theorem eb_and (ha : EB K t m ow b ow) (hb : b = true → EB K u m ow c ow) : EB K (tAnd t u) m ow (b && c) ow := fun He Fr ts σ xs H Q S q => ha He Fr ts σ xs H _ S fun H1 S1 => by
  cases b with
  | true => rw [if_pos rfl]; exact hb rfl He Fr ts σ xs H1 Q S1 q
  | false => rw [if_neg Bool.false_ne_true]; exact q H1 S1
theorem eb_or (ha : EB K t m ow b ow) (hb : b = false → EB K u m ow c ow) : EB K (tOr t u) m ow (b || c) ow := fun He Fr ts σ xs H Q S q => ha He Fr ts σ xs H _ S fun H1 S1 => by
  cases b with
  | false => rw [if_neg Bool.false_ne_true]; exact hb rfl He Fr ts σ xs H1 Q S1 q
  | true => rw [if_pos rfl]; exact q H1 S1
theorem eb_andT (ha : EB K t m ow true ow1) (hb : EB K u m ow1 c ow2) : EB K (tAnd t u) m ow c ow2 := fun He Fr ts σ xs H Q S q => ha He Fr ts σ xs H _ S fun H1 S1 => iteT (hb He Fr ts σ xs H1 Q S1 q)
theorem eb_andF (ha : EB K t m ow false ow1) : EB K (tAnd t u) m ow false ow1 := fun He Fr ts σ xs H Q S q => ha He Fr ts σ xs H _ S fun H1 S1 => iteF (q H1 S1)
theorem eb_orF (ha : EB K t m ow false ow1) (hb : EB K u m ow1 c ow2) : EB K (tOr t u) m ow c ow2 := fun He Fr ts σ xs H Q S q => ha He Fr ts σ xs H _ S fun H1 S1 => iteF (hb He Fr ts σ xs H1 Q S1 q)
theorem eb_orT (ha : EB K t m ow true ow1) : EB K (tOr t u) m ow true ow1 := fun He Fr ts σ xs H Q S q => ha He Fr ts σ xs H _ S fun H1 S1 => iteT (q H1 S1)
theorem eb_yes : EB K tYes m ow true ow := fun He Fr ts σ xs H Q S q => q H S
/-! ### argument lists, displays -/
theorem ea_nil : EA K tNil m ow [] ow := fun He Fr ts σ xs H Q S q => q [] H rfl S
theorem ea_cons (ha : EE K ta m ow k ow1) (hr : EA K ar m ow1 ks ow2) : EA K (tCons ta ar) m ow (k :: ks) ow2 := fun He Fr ts σ xs H Q S q =>
  ha He Fr ts σ xs H _ S fun x H1 S1 => hr He Fr _ σ _ H1 _ S1 fun ys H2 hl S2 => q (x :: ys) H2 (congrArg (· + 1) hl) S2
theorem rev_prd {α β : Type} {F : α → β → Prop} : ∀ {ks : List β} {ys : List α} {ts : List β} {xs : List α}, ys.length = ks.length → Paired F (ys.reverseAux xs) (ks.reverseAux ts) → Paired F ys ks ∧ Paired F xs ts
  | [], [], _, _, _, h => ⟨.nil, h⟩
  | k :: ks, y :: ys, ts, xs, hl, h => by
    obtain ⟨h1, h2⟩ := rev_prd (ks := ks) (ys := ys) (by simpa using hl) h
    cases h2 with
    | cons a t => exact ⟨.cons a h1, t⟩
theorem SB.args {He Fr Hd : Hp} {ps : List Addr} {ts : List Knd} {σ : L2.St} {xs ys : List V} {H : Hp} (S : SB K He Fr Hd ps m ow (ks.reverseAux ts) σ (ys.reverseAux xs) H) (hl : ys.length = ks.length) :
    Paired (KOk K (port He Hd) Hd ps) ys ks ∧ SB K He Fr Hd ps m ow ts σ xs H := by
  obtain ⟨h1, h2⟩ := rev_prd hl S.tv
  exact ⟨h1, S.eh, S.dh, S.fh, S.fd, S.fk, S.nk, S.pl, S.ok, S.sv, h2⟩
theorem ee_lst (b : Bool) (h : EA K ar m ow ks ow1) (hp : pds ks = some ds) (hs : ks.length ≤ 1000 := by exact Nat.le_of_ble_eq_true rfl) : EE K (tLst ar) m ow (newK b ow1 ds) (newO b ow1 ds) := fun He Fr ts σ xs H Q S q =>
  h He Fr ts σ xs H _ S fun ys H1 hl ⟨Hd, ps, S1⟩ => by
    obtain ⟨h1, S2⟩ := S1.args hl
    exact ⟨by rw [hl, sizeLine_eq]; omega, fun p hp' => q _ _ (S2.made b hp' (pds_ok h1 hp))⟩
theorem ee_tup (h : EA K ar m ow ks ow1) (hp : pds ks = some ds) (hs : ks.length ≤ 1000 := by exact Nat.le_of_ble_eq_true rfl) : EE K (tTup ar) m ow (.dat (.tuple ds)) ow1 := fun He Fr ts σ xs H Q S q =>
  h He Fr ts σ xs H _ S fun ys H1 hl ⟨Hd, ps, S1⟩ => by
    obtain ⟨h1, S2⟩ := S1.args hl
    exact ⟨by rw [hl, sizeLine_eq]; omega, fun p hp' => q _ _ (S2.madeT hp' (pds_ok h1 hp))⟩
theorem ee_cb {r : List V → Hp → VK → Prop} (h : EA K ar m ow ks ow1) (hr : CC K r m ow1 ks k ow2) : EE K (tCB r ar) m ow k ow2 := fun He Fr ts σ xs H Q S q =>
  h He Fr ts σ xs H _ S fun ys H1 hl S1 => hr He Fr ts σ ys xs H1 Q hl S1 q
theorem eo_no : EO K tNoPart m ow none ow := fun He Fr ts σ xs H Q S q => q H S
theorem eo_some (h : EE K te m ow (.v (.int i)) ow1) : EO K (tPart te) m ow (some i) ow1 := fun He Fr ts σ xs H Q S q => h He Fr ts σ xs H _ S fun x H1 S1 => ⟨i, S1.top, q H1 S1.drop⟩
/-- xs[a:b] as data -/
def cutD (ds : List PyData) (lo hi : Option Int) : List PyData := (ds.drop (HT.sIx ds.length 0 lo)).take (HT.sIx ds.length ds.length hi - HT.sIx ds.length 0 lo)
theorem ee_slice (b : Bool) {fl : Bool} {tl th : TO} {lo hi : Option Int} (h : EE K te m ow k ow1) (h1 : EO K tl m ow1 lo ow2) (h2 : EO K th m ow2 hi ow3) (hs : seqOf ow3 k = some (fl, ds)) (hp : (fl || imms (cutD ds lo hi)) = true) :
    EE K (tSl (rSlL K) te tl th) m ow (newK b ow3 (cutD ds lo hi)) (newO b ow3 (cutD ds lo hi)) := fun He Fr ts σ xs H Q S q =>
  h He Fr ts σ xs H _ S fun x H1 S1 => h1 He Fr _ σ _ H1 _ S1 fun H2 S2 => h2 He Fr _ σ _ H2 _ S2 fun H3 ⟨Hd, ps, S3⟩ => by
    obtain ⟨p, vs, rfl, a, c⟩ := seq_ok S3 S3.pop.1 hs
    refine ⟨p, vs, rfl, a, fun q' hq => q _ _ (S3.pop.2.made b hq (prt (b := fl) ?_ hp))⟩
    unfold cutV cutD
    rw [dpa_len c]
    exact dpa_take _ (dpa_drop _ c)
end
end LD

/-! Methods that change a list of one's own; built-ins; comprehensions; statements; promises. -/
namespace LD
open PySem PySem.Spec PyProof.Rows L2

section
variable {K : PySem.W.Frag} {m : Env'} {ow ow1 ow2 ow3 ow' : List OC} {k k1 k2 k3 : Knd} {ks : List Knd} {ta tb tc te to : TE} {t u : TT} {ar : TA} {b c fl : Bool} {i j l : Int} {n : Nat} {v x y : V} {d e : PyData} {ds es : List PyData}

/-! ### methods of a list of one's own -/
theorem SB.isL {He Fr Hd H : Hp} {ps : List Addr} {ts : List Knd} {σ : L2.St} {xs : List V} (S : SB K He Fr Hd ps m ow (.own n :: ts) σ (x :: xs) H) (h : ow[n]? = some (.lst ds)) : tyV K "list" x H := by
  obtain ⟨p, vs, _, rfl, _, h2, _⟩ := S.own S.pop.1 h
  exact .inl ⟨rfl, vs, .inl (.inl h2)⟩
theorem ee_append {ds0 : List PyData} (h : EE K to m ow (.own n) ow1) (h0 : ow1[n]? = some (.lst ds0)) (ha : EA K ar m ow1 [k] ow2) (hn : ow2[n]? = some (.lst ds)) (hk : pd k = some d) (hz : ds.length < 10000000) :
    EE K (tBM K "list" rAppend to ar) m ow (.v .non) (ow2.set n (.lst (ds ++ [d]))) := fun He Fr ts σ xs H Q S q =>
  h He Fr ts σ xs H _ S fun x H1 ⟨Hd, ps, S1⟩ => ⟨S1.isL h0, ha He Fr _ σ _ H1 _ ⟨Hd, ps, S1⟩ fun ys H2 hl ⟨Hd2, ps2, S2⟩ => by
    obtain ⟨hp, S3⟩ := S2.args hl
    obtain ⟨y, rfl⟩ : ∃ y, ys = [y] := by match ys, hl with | [y], _ => exact ⟨y, rfl⟩
    cases hp with
    | cons hy _ =>
      obtain ⟨p, vs, e1, rfl, _, e2, e3⟩ := S3.own S3.pop.1 hn
      refine ⟨p, vs, y, rfl, rfl, e2, by rw [dpa_len e3, sizeLine_eq]; omega, q _ _ ⟨Hd2, ps2, ((S3.pop.2.write e1 hn ?_).push rfl)⟩⟩
      exact dpa_app e3 (.cons (pd_ok hy hk) .nil)⟩
theorem ee_pop (h : EE K to m ow (.own n) ow1) (h0 : ow1[n]? = some (.lst ds)) (hl : ds[ds.length - 1]? = some d) : EE K (tBM0 K "list" rPop to) m ow (kd d) (ow1.set n (.lst ds.dropLast)) := fun He Fr ts σ xs H Q S q =>
  h He Fr ts σ xs H _ S fun x H1 ⟨Hd, ps, S1⟩ => ⟨S1.isL h0, by
    obtain ⟨p, vs, e1, rfl, _, e2, e3⟩ := S1.own S1.pop.1 h0
    obtain ⟨y, g1, g2⟩ := dpa_get e3 hl
    rw [← dpa_len e3] at g1
    refine ⟨p, vs, y, rfl, rfl, e2, g1, q _ _ ⟨Hd, ps, (S1.pop.2.write e1 h0 ?_).push (kd_ok g2)⟩⟩
    rw [List.dropLast_eq_take, List.dropLast_eq_take, dpa_len e3]
    exact dpa_take _ e3⟩
theorem seqIx {j n : Nat} (h : j < n) : seqIndex? (j : Int) n = some j := by
  unfold seqIndex?
  have h1 : ¬ ((j : Int) < 0) := by omega
  simp only [if_neg h1]
  rw [if_pos (by simp; omega)]
  rfl
theorem ee_popAt {ds0 : List PyData} {j : Nat} (h : EE K to m ow (.own n) ow1) (h0 : ow1[n]? = some (.lst ds0)) (ha : EA K ar m ow1 [.v (.int i)] ow2) (hn : ow2[n]? = some (.lst ds)) (hi : i = (j : Int)) (hj : ds[j]? = some d) (hz : ds.length < 10000000) :
    EE K (tBM K "list" rPopAt to ar) m ow (kd d) (ow2.set n (.lst (ds.eraseIdx j))) := fun He Fr ts σ xs H Q S q =>
  h He Fr ts σ xs H _ S fun x H1 ⟨Hd, ps, S1⟩ => ⟨S1.isL h0, ha He Fr _ σ _ H1 _ ⟨Hd, ps, S1⟩ fun ys H2 hl ⟨Hd2, ps2, S2⟩ => by
    obtain ⟨hp, S3⟩ := S2.args hl
    obtain ⟨y, rfl⟩ : ∃ y, ys = [y] := by match ys, hl with | [y], _ => exact ⟨y, rfl⟩
    cases hp with
    | cons hy _ =>
      have hy : y = .int i := hy
      subst hy
      subst hi
      obtain ⟨p, vs, e1, rfl, _, e2, e3⟩ := S3.own S3.pop.1 hn
      obtain ⟨z, g1, g2⟩ := dpa_get e3 hj
      have hlt : j < vs.length := (List.getElem?_eq_some_iff.mp g1).1
      have hle : vs.length < 10000000 := by rw [dpa_len e3]; exact hz
      exact ⟨p, vs, (j : Int), j, z, rfl, rfl, e2, by omega, by omega, seqIx hlt, g1, q _ _ ⟨Hd2, ps2, (S3.pop.2.write e1 hn (dpa_erase _ e3)).push (kd_ok g2)⟩⟩⟩
theorem ee_clear (h : EE K to m ow (.own n) ow1) (h0 : ow1[n]? = some (.lst ds)) : EE K (tBM0 K "list" rClear to) m ow (.v .non) (ow1.set n (.lst [])) := fun He Fr ts σ xs H Q S q =>
  h He Fr ts σ xs H _ S fun x H1 ⟨Hd, ps, S1⟩ => ⟨S1.isL h0, by
    obtain ⟨p, vs, e1, rfl, _, e2, e3⟩ := S1.own S1.pop.1 h0
    exact ⟨p, vs, rfl, rfl, e2, q _ _ ⟨Hd, ps, (S1.pop.2.write e1 h0 .nil).push rfl⟩⟩⟩

/-! ### built-ins -/
def rLn (K : PySem.W.Frag) : List V → Hp → VK → Prop := fun xs H Q => ∃ p ys, xs = [.ref p] ∧ (SqL K H p ys ∨ SqT K H p ys) ∧ Q (.int ys.length) H
def rIn1 : List V → Hp → VK → Prop := fun xs H Q => (∃ i, xs = [.int i] ∧ Q (.int i) H) ∨ ∃ k, xs = [.bl k] ∧ Q (.int (if k then 1 else 0)) H
def rMx2 : List V → Hp → VK → Prop := fun xs H Q => ∃ i j, xs = [.int i, .int j] ∧ Q (.int (if j > i then j else i)) H
def rMn2 : List V → Hp → VK → Prop := fun xs H Q => ∃ i j, xs = [.int i, .int j] ∧ Q (.int (if j < i then j else i)) H
def rLo (K : PySem.W.Frag) : List V → Hp → VK → Prop := fun xs H Q => ∃ p ys, xs = [.ref p] ∧ (SqL K H p ys ∨ SqT K H p ys) ∧ ∀ l, H l = none → Q (.ref l) (upd H l (.lst ys))
def rAbs : List V → Hp → VK → Prop := fun xs H Q => ∃ i, xs = [.int i] ∧ Q (.int (if i < 0 then -i else i)) H
section
variable {X : Cx}
theorem call_ln : CallR X (.builtin "len") (rLn X.K) := call_len_seq
theorem call_in1 : CallR X (.type "int") rIn1 := call_int1
theorem call_mx2 (hc : X.calm = true) : CallR X (.builtin "max") rMx2 := call_max2 hc
theorem call_mn2 (hc : X.calm = true) : CallR X (.builtin "min") rMn2 := call_min2 hc
theorem call_lo : CallR X (.type "list") (rLo X.K) := call_list_of
theorem call_ab : CallR X (.builtin "abs") rAbs := call_abs
end
theorem one {α β : Type} {ys : List α} {k : β} (h : ys.length = [k].length) : ∃ y, ys = [y] := by match ys, h with | [y], _ => exact ⟨y, rfl⟩
theorem two {α β : Type} {ys : List α} {k l : β} (h : ys.length = [k, l].length) : ∃ y z, ys = [y, z] := by match ys, h with | [y, z], _ => exact ⟨y, z, rfl⟩
theorem cc_len (h : seqOf ow k = some (b, ds)) : CC K (rLn K) m ow [k] (.v (.int (ds.length : Int))) ow := by
  rintro He Fr ts σ ys xs H Q hl ⟨Hd, ps, S⟩ q
  obtain ⟨y, rfl⟩ := one hl
  obtain ⟨p, vs, rfl, h1, h2⟩ := seq_ok S S.pop.1 h
  exact ⟨p, vs, rfl, .inl h1, by rw [dpa_len h2]; exact q _ H ⟨Hd, ps, S.pop.2.push rfl⟩⟩
theorem cc_lenT (h : tupOf k = some (b, ds)) : CC K (rLn K) m ow [k] (.v (.int (ds.length : Int))) ow := by
  rintro He Fr ts σ ys xs H Q hl ⟨Hd, ps, S⟩ q
  obtain ⟨y, rfl⟩ := one hl
  obtain ⟨p, vs, rfl, h1, h2⟩ := tup_ok S S.pop.1 h
  exact ⟨p, vs, rfl, .inr h1, by rw [dpa_len h2]; exact q _ H ⟨Hd, ps, S.pop.2.push rfl⟩⟩
theorem cc_intB : CC K rIn1 m ow [.v (.bl b)] (.v (.int (if b then 1 else 0))) ow := by
  rintro He Fr ts σ ys xs H Q hl ⟨Hd, ps, S⟩ q
  obtain ⟨y, rfl⟩ := one hl
  cases (show y = .bl b from S.pop.1)
  exact .inr ⟨b, rfl, q _ H ⟨Hd, ps, S.pop.2.push rfl⟩⟩
theorem cc_int : CC K rIn1 m ow [.v (.int i)] (.v (.int i)) ow := by
  rintro He Fr ts σ ys xs H Q hl ⟨Hd, ps, S⟩ q
  obtain ⟨y, rfl⟩ := one hl
  cases (show y = .int i from S.pop.1)
  exact .inl ⟨i, rfl, q _ H ⟨Hd, ps, S.pop.2.push rfl⟩⟩
theorem cc_abs : CC K rAbs m ow [.v (.int i)] (.v (.int (if i < 0 then -i else i))) ow := by
  rintro He Fr ts σ ys xs H Q hl ⟨Hd, ps, S⟩ q
  obtain ⟨y, rfl⟩ := one hl
  cases (show y = .int i from S.pop.1)
  exact ⟨i, rfl, q _ H ⟨Hd, ps, S.pop.2.push rfl⟩⟩
theorem cc_mx2 : CC K rMx2 m ow [.v (.int i), .v (.int j)] (.v (.int (if j > i then j else i))) ow := by
  rintro He Fr ts σ ys xs H Q hl ⟨Hd, ps, S⟩ q
  obtain ⟨y, z, rfl⟩ := two hl
  cases (show z = .int j from S.pop.1)
  cases (show y = .int i from S.pop.2.pop.1)
  exact ⟨i, j, rfl, q _ H ⟨Hd, ps, S.pop.2.pop.2.push rfl⟩⟩
theorem cc_mn2 : CC K rMn2 m ow [.v (.int i), .v (.int j)] (.v (.int (if j < i then j else i))) ow := by
  rintro He Fr ts σ ys xs H Q hl ⟨Hd, ps, S⟩ q
  obtain ⟨y, z, rfl⟩ := two hl
  cases (show z = .int j from S.pop.1)
  cases (show y = .int i from S.pop.2.pop.1)
  exact ⟨i, j, rfl, q _ H ⟨Hd, ps, S.pop.2.pop.2.push rfl⟩⟩
/-- sorted whole numbers -/
def srt (ns : List Int) : List Int := ns.mergeSort fun a b => decide (a ≤ b)
theorem srt_perm (ns : List Int) : (srt ns).Perm ns := List.mergeSort_perm ns _
theorem srt_up (ns : List Int) : (srt ns).Pairwise (· ≤ ·) := by
  have := List.pairwise_mergeSort (le := fun a b : Int => decide (a ≤ b)) (fun a b c h1 h2 => by simp at *; omega) (fun a b => by simp; omega) ns
  exact this.imp fun h => by simpa using h
theorem srt_eq {ns ms : List Int} (p : ms.Perm ns) (h : ms.Pairwise (· ≤ ·)) : ms = srt ns := PySem.W.ksm_same (p.trans (srt_perm ns).symm) h (srt_up ns)
theorem cc_sorted (b : Bool) {ns : List Int} (h : seqOf ow k = some (fl, ns.map PyData.int)) : CC K (rSortedI K) m ow [k] (newK b ow ((srt ns).map PyData.int)) (newO b ow ((srt ns).map PyData.int)) := by
  rintro He Fr ts σ ys xs H Q hl ⟨Hd, ps, S⟩ q
  obtain ⟨y, rfl⟩ := one hl
  obtain ⟨p, vs, rfl, h1, h2⟩ := seq_ok S S.pop.1 h
  rw [of_dpa_ints h2] at h1
  refine ⟨p, ns, rfl, h1, fun ms r e1 e2 hr => ?_⟩
  rw [srt_eq e1 e2]
  exact q _ _ (S.pop.2.made b hr (dpa_ints _))
theorem cc_list (b : Bool) (h : seqOf ow k = some (fl, ds)) (hp : (fl || imms ds) = true) : CC K (rLo K) m ow [k] (newK b ow ds) (newO b ow ds) := by
  rintro He Fr ts σ ys xs H Q hl ⟨Hd, ps, S⟩ q
  obtain ⟨y, rfl⟩ := one hl
  obtain ⟨p, vs, rfl, h1, h2⟩ := seq_ok S S.pop.1 h
  exact ⟨p, vs, rfl, .inl h1, fun r hr => q _ _ (S.pop.2.made b hr (prt h2 hp))⟩
theorem cc_all {bs : List Bool} (h : seqOf ow k = some (fl, bs.map PyData.bool)) : CC K (rAll K) m ow [k] (.v (.bl (bs.all id))) ow := by
  rintro He Fr ts σ ys xs H Q hl ⟨Hd, ps, S⟩ q
  obtain ⟨y, rfl⟩ := one hl
  obtain ⟨p, vs, rfl, h1, h2⟩ := seq_ok S S.pop.1 h
  rw [of_dpa_bools h2] at h1
  exact ⟨p, bs, rfl, h1, q _ H ⟨Hd, ps, S.pop.2.push rfl⟩⟩
theorem cc_any {bs : List Bool} (h : seqOf ow k = some (fl, bs.map PyData.bool)) : CC K (rAny K) m ow [k] (.v (.bl (bs.any id))) ow := by
  rintro He Fr ts σ ys xs H Q hl ⟨Hd, ps, S⟩ q
  obtain ⟨y, rfl⟩ := one hl
  obtain ⟨p, vs, rfl, h1, h2⟩ := seq_ok S S.pop.1 h
  rw [of_dpa_bools h2] at h1
  exact ⟨p, bs, rfl, h1, q _ H ⟨Hd, ps, S.pop.2.push rfl⟩⟩
theorem cc_sum {ns : List Int} (h : seqOf ow k = some (fl, ns.map PyData.int)) : CC K (rSum K) m ow [k] (.v (.int ns.sum)) ow := by
  rintro He Fr ts σ ys xs H Q hl ⟨Hd, ps, S⟩ q
  obtain ⟨y, rfl⟩ := one hl
  obtain ⟨p, vs, rfl, h1, h2⟩ := seq_ok S S.pop.1 h
  rw [of_dpa_ints h2] at h1
  exact ⟨p, ns, rfl, h1, q _ H ⟨Hd, ps, S.pop.2.push rfl⟩⟩
/-- a value's built-in type -/
def tyn (ow : List OC) : Knd → Option String
  | .v .non => some "NoneType"
  | .v (.bl _) => some "bool"
  | .v (.int _) => some "int"
  | .v (.str _) => some "str"
  | .dat (.list _) => some "list"
  | .arg (.list _) => some "list"
  | .dat (.tuple _) => some "tuple"
  | .arg (.tuple _) => some "tuple"
  | .dat (.dict _) => some "dict"
  | .arg (.dict _) => some "dict"
  | .own n => match ow[n]? with
    | some (.lst _) => some "list"
    | some (.tr _ _) => some "list"
    | some (.jl _) => some "list"
    | _ => none
  | _ => none
theorem tyx_l {H : Hp} {a : Addr} {vs : List V} (h : SqL K H a vs) : TyX K H (.ref a) (.type "list") := by
  rcases h with (h | ⟨o, h⟩) | ⟨o, its, n, h, c, _⟩
  · exact .base (.lst h)
  · exact .base (.frz h)
  · exact .kList h c
theorem tyx_d {H : Hp} {a : Addr} (h : Rd H a (.dK [])) : TyX K H (.ref a) (.type "dict") := by
  rcases h with h | ⟨o, h⟩
  · exact .base (.dK h)
  · exact .fDict h
theorem tyx_t {H : Hp} {a : Addr} {vs : List V} (h : SqT K H a vs) : TyX K H (.ref a) (.type "tuple") := by
  rcases h with (h | ⟨o, h⟩) | ⟨o, its, n, h, c, _⟩
  · exact .base (.tup h)
  · exact .fTuple h
  · exact .kTuple h c
theorem tyn_ok {He Fr Hd H : Hp} {ps : List Addr} {ts : List Knd} {σ : L2.St} {xs : List V} {T : String} (S : SB K He Fr Hd ps m ow ts σ xs H) (h : KOk K (port He Hd) Hd ps x k) (e : tyn ow k = some T) : TyX K H x (.type T) := by
  have dp : ∀ {Hq : Hp} {d : PyData}, Same Hq H → Dp K Hq x d → tyn ow (.dat d) = some T → TyX K H x (.type T) := by
    intro Hq d sm hd he
    cases hd with
    | lst a _ => cases he; exact tyx_l (sm.seq a)
    | tup a _ => cases he; exact tyx_t (sqt_mono sm a)
    | dic a => cases he; exact tyx_d (rd_mono sm a)
    | non => cases he
    | bl _ => cases he
    | int _ => cases he
    | str _ => cases he
  cases k with
  | v y =>
    cases (show x = y from h)
    cases x <;> simp only [tyn, Option.some.injEq, reduceCtorEq] at e <;> subst e
    · exact .base .non
    · exact .base (.bl _)
    · exact .base (.int _)
    · exact .base (.str _)
  | dat d => exact dp S.sub h e
  | arg d => exact dp S.dh h (by cases d <;> exact e)
  | own n =>
    simp only [tyn] at e
    split at e
    · cases e
      rename_i ds q
      obtain ⟨p, vs, _, rfl, _, h2, _⟩ := S.own h q
      exact .base (.lst h2)
    · cases e
      rename_i qs lss q
      obtain ⟨p, hp, rfl⟩ := h
      exact .base (.lst (S.ok _ p _ hp q).2.1)
    · cases e
      rename_i nn q
      obtain ⟨p, hp, rfl⟩ := h
      obtain ⟨_, vs, h2, _⟩ := S.ok _ p _ hp q
      exact .base (.lst h2)
    · cases e
theorem cc_isi {T T' : String} (h : tyn ow k = some T) (hb : kitB T T' = some b) : CC K (rIsi K) m ow [k, .v (.ty T')] (.v (.bl b)) ow := by
  rintro He Fr ts σ ys xs H Q hl ⟨Hd, ps, S⟩ q
  obtain ⟨y, z, rfl⟩ := two hl
  cases (show z = .ty T' from S.pop.1)
  exact ⟨y, .ty T', .type T, .type T', b, rfl, .ty T', tyn_ok S S.pop.2.pop.1 h, kit_ty hb, q _ H ⟨Hd, ps, S.pop.2.pop.2.push rfl⟩⟩

/-! ### repr -/
/-- data of which repr gives a text -/
def repOk (d : PyData) : Prop := d.showable = true ∧ d.shown.length ≤ sizeLine ∧ d.depth ≤ 40
def rRp (K : PySem.W.Frag) : List V → Hp → VK → Prop := fun xs H Q => ∃ x d, xs = [x] ∧ Dp K H x d ∧ repOk d ∧ Q (.str d.shown) H
section
variable {X : Cx} {pins : List (Addr × Obj)} {σ : L2.St} {H : Hp} {s : Shared}
theorem dic_reads (I : Inv X pins σ H s) {p : Addr} (h : Rd H p (.dK [])) : (p == sysModules) = false ∧ Reads s.heap (.ref p) (.dict []) [p] := by
  obtain ⟨_, ns, vs, kv, o, es, ep, g1, g2, g3, _, g5, _⟩ := dk_rd I.hok h
  cases kv
  generalize hl : es.toList = l at g5
  cases g5
  exact ⟨ns, Reads.dict (kvs := []) (as := []) (bs := []) g1 g2.1 g3 (by rw [hl]; exact .nil) (by rw [hl]; exact .nil)⟩
theorem dic_repr {prog : Program} {w : World} (I : Inv X pins σ H s) {p : Addr} (h : Rd H p (.dK [])) :
    ∃ bs, ReadAtMost s.heap (PyData.dict []).depth bs ∧ ReprK prog w bs s.heap (PyData.dict []).depth (.ref p) (PyData.dict []).shown := by
  obtain ⟨ns, rd⟩ := dic_reads I h
  refine ReprK.of_reads rd (by simp [PyData.showable, PyData.showableKv]) (fun _ z => ?_) (by simp only [PyData.shown]; decide)
  rw [← List.mem_singleton.mp z] at ns
  exact absurd ns (by simp)
/-- what has no parts has no text to be unfolded -/
theorem scal_repr {prog : Program} {w : World} {h0 : Heap} {u : Value} {d : PyData} (r : Reads h0 u d []) (hd : d.hasDict = false) (h1 : d.showable = true) (h2 : d.shown.length ≤ sizeLine) :
    ∃ as bs, Reads h0 u d as ∧ ReadAtMost h0 d.depth bs ∧ ReprK prog w bs h0 d.depth u d.shown :=
  let ⟨bs, b1, b2⟩ := ReprK.of_reads (prog := prog) (w := w) r h1 (PyData.noDict_hsm hd) h2
  ⟨[], bs, r, b1, b2⟩
mutual
/-- read and shown -/
theorem dp_repr (I : Inv X pins σ H s) {prog : Program} {w : World} : ∀ (d : PyData) {x : V} {u : Value}, Dp X.K H x d → RelV x u → d.showable = true → d.shown.length ≤ sizeLine →
    ∃ as bs, Reads s.heap u d as ∧ ReadAtMost s.heap d.depth bs ∧ ReprK prog w bs s.heap d.depth u d.shown
  | .none, _, _, .non, r, h1, h2 => by cases r; exact scal_repr .none rfl h1 h2
  | .bool b, _, _, .bl _, r, h1, h2 => by cases r; exact scal_repr (.bool b) rfl h1 h2
  | .int i, _, _, .int _, r, h1, h2 => by obtain ⟨t, rfl⟩ := r; exact scal_repr (.int i t) rfl h1 h2
  | .str z, _, _, .str _, r, h1, h2 => by obtain ⟨t, rfl⟩ := r; exact scal_repr (.str z t) rfl h1 h2
  | .dict _, _, _, .dic h, r, h1, h2 => by
    cases r
    obtain ⟨bs, b1, b2⟩ := dic_repr (prog := prog) (w := w) I h
    exact ⟨_, bs, (dic_reads I h).2, b1, b2⟩
  | .list ds, _, _, .lst hs ha, r, h1, h2 => by
    cases r
    rw [PyData.showable] at h1
    simp only [PyData.shown] at h2
    obtain ⟨its, rv, ⟨o, n, ho, hc, _, hd⟩, _⟩ := I.list hs
    obtain ⟨as, bs, ra, hb, hk⟩ := dpa_repr I (prog := prog) (w := w) ds ha rv h1 fun t ht => Nat.le_trans (PySem.listText_mem_le ht) h2
    have rd : Reads s.heap _ (.list ds) _ := .list ho hc hd ra
    have nin : _ ∉ bs := not_mem_of_deeper rd (by simp only [PyData.depth]; omega) hb
    refine ⟨_, _ :: bs, rd, ReadAtMost.cons rd (by simp only [PyData.depth]; omega) hb, ?_⟩
    simp only [PyData.depth, PyData.shown]
    cases its with
    | nil =>
      cases ra
      simp only [PyData.shownAll, listText_nil]
      exact ReprK.listEmpty ho hc hd
    | cons z l => exact ReprK.list ho hc hd nin (by simpa using hk.length_eq) fun i y e => hk.item i y (by simpa using e)
  | .tuple ds, _, _, .tup hs ha, r, h1, h2 => by
    cases r
    rw [PyData.showable] at h1
    simp only [PyData.shown] at h2
    obtain ⟨its, rv, ⟨o, ho, hc, n, hd⟩, _⟩ := I.tuple hs
    obtain ⟨as, bs, ra, hb, hk⟩ := dpa_repr I (prog := prog) (w := w) ds ha rv h1 fun t ht => Nat.le_trans (tupleText_mem_le ht) h2
    have rd : Reads s.heap _ (.tuple ds) _ := .tuple ho hc hd ra
    have nin : _ ∉ bs := not_mem_of_deeper rd (by simp only [PyData.depth]; omega) hb
    refine ⟨_, _ :: bs, rd, ReadAtMost.cons rd (by simp only [PyData.depth]; omega) hb, ?_⟩
    simp only [PyData.depth, PyData.shown]
    exact ReprK.tuple ho hc hd nin hk
theorem dpa_repr (I : Inv X pins σ H s) {prog : Program} {w : World} : ∀ (ds : List PyData) {xs : List V} {us : List Value}, DpAll X.K H xs ds → Vals xs us → PyData.showableAll ds = true → (∀ t ∈ PyData.shownAll ds, t.length ≤ sizeLine) →
    ∃ as bs, ReadsAll s.heap us ds as ∧ ReadAtMost s.heap (PyData.depthAll ds) bs ∧ ReprAllK prog w bs s.heap (PyData.depthAll ds) us (PyData.shownAll ds)
  | [], _, _, .nil, .nil, _, _ => ⟨[], [], .nil, (fun _ h => nomatch h), by simp only [PyData.shownAll]; exact .nil⟩
  | d :: ds, _, _, .cons h t, .cons r rs, h1, h2 => by
    rw [PyData.showableAll, Bool.and_eq_true] at h1
    obtain ⟨a1, b1, r1, e1, k1⟩ := dp_repr I (prog := prog) (w := w) d h r h1.1 (h2 _ (by simp only [PyData.shownAll]; exact List.mem_cons_self ..))
    obtain ⟨a2, b2, r2, e2, k2⟩ := dpa_repr I (prog := prog) (w := w) ds t rs h1.2 (fun t ht => h2 t (by simp only [PyData.shownAll]; exact List.mem_cons_of_mem _ ht))
    refine ⟨_, b1 ++ b2, .cons r1 r2, ?_, ?_⟩
    · simp only [PyData.depthAll]
      exact (e1.mono (Nat.le_max_left _ _)).append (e2.mono (Nat.le_max_right _ _))
    · simp only [PyData.depthAll, PyData.shownAll]
      exact .cons ((k1.more fun b hb => List.mem_append_left _ hb).level_le (Nat.le_max_left _ _)) (k2.more_le (fun b hb => List.mem_append_right _ hb) (Nat.le_max_right _ _))
end
mutual
theorem Dp.reads (I : Inv X pins σ H s) : ∀ (d : PyData) (v : V) (u : Value), Dp X.K H v d → RelV v u → ∃ as, Reads s.heap u d as
  | .none, _, _, .non, r => by cases r; exact ⟨_, .none⟩
  | .bool b, _, _, .bl _, r => by cases r; exact ⟨_, .bool b⟩
  | .int i, _, _, .int _, r => by obtain ⟨t, rfl⟩ := r; exact ⟨_, .int i t⟩
  | .str z, _, _, .str _, r => by obtain ⟨t, rfl⟩ := r; exact ⟨_, .str z t⟩
  | .dict _, _, _, .dic h, r => by cases r; exact ⟨_, (dic_reads I h).2⟩
  | .list ds, _, _, .lst hs ha, r => by
    cases r
    obtain ⟨its, rv, ⟨o, n, ho, hc, _, hd⟩, _⟩ := I.list hs
    exact (Dp.readsAll I ds _ its ha rv).elim fun as ra => ⟨_, .list ho hc hd ra⟩
  | .tuple ds, _, _, .tup hs ha, r => by
    cases r
    obtain ⟨its, rv, ⟨o, ho, hc, n, hd⟩, _⟩ := I.tuple hs
    exact (Dp.readsAll I ds _ its ha rv).elim fun as ra => ⟨_, .tuple ho hc hd ra⟩
theorem Dp.readsAll (I : Inv X pins σ H s) : ∀ (ds : List PyData) (vs : List V) (us : List Value), DpAll X.K H vs ds → Vals vs us → ∃ as, ReadsAll s.heap us ds as
  | [], _, _, .nil, .nil => ⟨_, .nil⟩
  | d :: ds, _, _, .cons h t, .cons r rs => (Dp.reads I d _ _ h r).elim fun _ q1 => (Dp.readsAll I ds _ _ t rs).elim fun _ q2 => ⟨_, .cons q1 q2⟩
end
end
theorem call_rp {X : Cx} (hg : X.A.guards = some []) (hu : X.A.units + 64 < cLine) : CallR X (.builtin "repr") (rRp X.K) := by
  intro pins s σ H xs us Q I r h
  obtain ⟨x, d, rfl, hd, ⟨h1, h2, h3⟩, q⟩ := h
  obtain ⟨u, rfl, ru⟩ := vals1 r
  cases hd with
  | non => cases ru; exact PySem.P.repr_of_none ⟨.str _, H, I.tok _, ⟨_, rfl⟩, q⟩
  | bl b => cases ru; exact PySem.P.repr_of_bool ⟨.str _, H, I.tok _, ⟨_, rfl⟩, q⟩
  | int i => obtain ⟨t, rfl⟩ := ru; exact PySem.P.repr_of_int (by simpa [PyData.showable] using h1) ⟨.str _, H, I.tok _, ⟨_, rfl⟩, q⟩
  | str z => obtain ⟨t, rfl⟩ := ru; exact PySem.P.repr_of_str (hsz := h2) ⟨.str _, H, I.tok _, ⟨_, rfl⟩, q⟩
  | dic a =>
    cases ru
    obtain ⟨ns, rd⟩ := dic_reads I a
    refine repr_of_reads' rd h1 (fun _ z => ?_) hg (by omega) (fun _ _ e => e) (fun h' w tk hk => ⟨.str _, H, I.kept hk, ⟨_, rfl⟩, q⟩) h2
    rw [← List.mem_singleton.mp z] at ns
    exact absurd ns (by simp)
  | @lst p vs ds hs ha =>
    cases ru
    obtain ⟨its, rv, ⟨o, n, ho, hc, _, hdd⟩, _⟩ := I.list hs
    rw [PyData.showable] at h1
    simp only [PyData.shown] at h2 q
    obtain ⟨as, bs, ra, hb, hk⟩ := dpa_repr I (prog := X.prog) (w := X.w) ds ha rv h1 fun t ht => Nat.le_trans (PySem.listText_mem_le ht) h2
    have rd : Reads s.heap (.ref p) (.list ds) (p :: as) := .list ho hc hdd ra
    have nin : p ∉ bs := not_mem_of_deeper rd (by simp only [PyData.depth]; omega) hb
    simp only [PyData.depth] at h3
    refine call_repr_slot (T := "list") (by omega) ⟨_, ho, hc⟩ F.slot_list_repr.toG ?_
    cases its with
    | nil =>
      cases ra
      simp only [PyData.shownAll, listText_nil] at q
      exact call_list_repr_empty ⟨_, ho, hc⟩ ho hdd ⟨_, _, rfl, .str _, H, I.tok _, ⟨_, rfl⟩, q⟩
    | cons z l => exact call_list_reprK ho hc hdd nin (by simpa using hk.length_eq) (fun i y e => hk.item i y (by simpa using e)) hg (fun b _ => Clear.nil b) (by show X.A.units + 1 + (PyData.depthAll ds + 1) < cLine; omega) (fun _ _ e => e) (fun h' u tk hk => ⟨_, _, rfl, .str _, H, I.kept hk, ⟨_, rfl⟩, q⟩) h2
  | @tup p vs ds hs ha =>
    cases ru
    obtain ⟨its, rv, ⟨o, ho, hc, n, hdd⟩, _⟩ := I.tuple hs
    rw [PyData.showable] at h1
    simp only [PyData.shown] at h2 q
    obtain ⟨as, bs, ra, hb, hk⟩ := dpa_repr I (prog := X.prog) (w := X.w) ds ha rv h1 fun t ht => Nat.le_trans (tupleText_mem_le ht) h2
    have rd : Reads s.heap (.ref p) (.tuple ds) as := .tuple ho hc hdd ra
    have nin : p ∉ bs := not_mem_of_deeper rd (by simp only [PyData.depth]; omega) hb
    simp only [PyData.depth] at h3
    refine call_repr_slot (T := "tuple") (by omega) ⟨_, ho, hc⟩ F.slot_tuple_repr ?_
    exact call_tuple_reprK ho hc hdd nin hk hg (fun b _ => Clear.nil b) (by show X.A.units + 1 + (PyData.depthAll ds + 1) < cLine; omega) (fun _ _ e => e) (fun h' u tk hk => ⟨_, _, rfl, .str _, H, I.kept hk, ⟨_, rfl⟩, q⟩) h2
theorem cc_repr (h : ad ow k = some d) (hr : repOk d) : CC K (rRp K) m ow [k] (.v (.str d.shown)) ow := by
  rintro He Fr ts σ ys xs H Q hl ⟨Hd, ps, S⟩ q
  obtain ⟨y, rfl⟩ := one hl
  exact ⟨y, d, rfl, ad_ok S S.pop.1 h, hr, q _ H ⟨Hd, ps, S.pop.2.push rfl⟩⟩
/-- texts short, numbers below 1,920 bits, less than 4,000 places -/
def leafOk : PyData → Bool
  | .str x => x.cps.toList.all fun c => decide (c < 16 ^ 8)
  | _ => true
theorem rep_int {i : Int} (h : i.natAbs.log2 < 1920) : PyData.leavesShort 1930 (.int i) = true := by
  rw [PyData.leavesShort]
  have := int_text_length_le (k := 1920) (by decide) h
  refine decide_eq_true ?_
  show (Str.ofString (toString i)).length ≤ 1930
  rw [PySem.ofString_length]
  omega
theorem repOk_of {d : PyData} (h1 : d.showable = true) (h2 : d.leavesShort 1930 = true) (h3 : d.bulk ≤ 8000) (h4 : d.depth ≤ 40) : repOk d := by
  refine ⟨h1, ?_, h4⟩
  have := PyData.shown_le_bulk 1930 (by decide) d h2
  rw [sizeLine_eq]
  omega
theorem ints_show : ∀ {ns : List Int}, (∀ n ∈ ns, n.natAbs.log2 < 1920) → PyData.showableAll (ns.map PyData.int) = true ∧ PyData.leavesShortAll 1930 (ns.map PyData.int) = true
  | [], _ => ⟨rfl, rfl⟩
  | n :: r, h => by
    have h0 := h n (List.mem_cons_self ..)
    obtain ⟨a, b⟩ := ints_show (ns := r) fun m hm => h m (List.mem_cons_of_mem _ hm)
    rw [List.map_cons, PyData.showableAll, PyData.leavesShortAll, a, b, rep_int h0, PyData.showable, decide_eq_true h0]
    exact ⟨rfl, rfl⟩
theorem ints_bulk : ∀ ns : List Int, PyData.bulkAll (ns.map PyData.int) = ns.length
  | [] => rfl
  | n :: r => by rw [List.map_cons, PyData.bulkAll, ints_bulk r, PyData.bulk, List.length_cons]; omega
theorem ints_depth : ∀ ns : List Int, PyData.depthAll (ns.map PyData.int) ≤ 1
  | [] => by rw [List.map_nil, PyData.depthAll]; omega
  | n :: r => by rw [List.map_cons, PyData.depthAll, PyData.depth]; have := ints_depth r; omega
theorem rep_ints {ns : List Int} (h : ∀ n ∈ ns, n.natAbs.log2 < 1920) (hl : ns.length ≤ 8000) : repOk (.list (ns.map PyData.int)) := by
  obtain ⟨a, b⟩ := ints_show h
  refine repOk_of (by rw [PyData.showable]; exact a) (by rw [PyData.leavesShort]; exact b) (by rw [PyData.bulk, ints_bulk]; exact hl) ?_
  rw [PyData.depth]
  have := ints_depth ns
  omega
theorem rep_num {i : Int} (h : i.natAbs.log2 < 1920) : repOk (.int i) := repOk_of (by rw [PyData.showable]; exact decide_eq_true h) (rep_int h) (by rw [PyData.bulk]; omega) (by rw [PyData.depth]; omega)
theorem log_lt {i : Int} {a : Nat} (h : i.natAbs < 2 ^ a) (h0 : 0 < a) (ha : a ≤ 1920) : i.natAbs.log2 < 1920 := Nat.lt_of_lt_of_le (PySem.Flt.log2_lt_of h0 h) ha
end
end LD

/-! Comprehensions, statements, loops. -/
namespace LD
open PySem PySem.Spec PyProof.Rows L2

def hid (H : Hp) (p : Addr) : Hp := fun a => if a = p then none else H a
theorem hid_sub (H : Hp) (p : Addr) : Same (hid H p) H := fun a o h => by
  unfold hid at h
  split at h
  · cases h
  · exact h
theorem hid_at {H : Hp} {p : Addr} : hid H p p = none := if_pos rfl
theorem hid_ne {H : Hp} {p a : Addr} (h : a ≠ p) : hid H p a = H a := if_neg h
theorem hid_upd {H : Hp} {p : Addr} {o : HO} : hid (upd H p o) p = hid H p := by
  funext a
  unfold hid upd
  split <;> rfl
theorem upd_hid {H : Hp} {p : Addr} {o : HO} (h : H p = some o) : upd (hid H p) p o = H := by
  funext a
  unfold hid upd
  by_cases e : a = p
  · subst e; rw [if_pos rfl, h]
  · show (if a = p then some o else if a = p then none else H a) = H a
    rw [if_neg e, if_neg e]
def known (m : Env') : List Knd := m.filterMap id
def wipeM (m : Env') : List Nat → Env'
  | [] => m
  | v :: vs => (wipeM m vs).set v none

section
variable {K : PySem.W.Frag} {He Fr Hd Hq H : Hp} {ps : List Addr} {m : Env'} {ow ow1 ow2 ow3 : List OC} {ts : List Knd} {σ : L2.St} {xs : List V} {k k1 : Knd} {ks : List Knd}
theorem hold : ∀ {σ : L2.St} {m : Env'}, Paired (SlotOk K Hq Hd ps) σ m → ∃ zs, Paired (KOk K Hq Hd ps) zs (known m) ∧ ∀ Hq' Hd' ps', Paired (KOk K Hq' Hd' ps') zs (known m) → Paired (SlotOk K Hq' Hd' ps') σ m
  | _, _, .nil => ⟨[], .nil, fun _ _ _ _ => .nil⟩
  | _, none :: m, .cons _ t => by
    obtain ⟨zs, h1, h2⟩ := hold t
    exact ⟨zs, h1, fun a b c h => .cons trivial (h2 a b c h)⟩
  | _, some k :: m, .cons ⟨y, e, hy⟩ t => by
    obtain ⟨zs, h1, h2⟩ := hold t
    subst e
    refine ⟨y :: zs, .cons hy h1, fun a b c h => ?_⟩
    cases h with
    | cons h t => exact .cons ⟨y, rfl, h⟩ (h2 a b c t)
theorem prd_app {α β : Type} {F : α → β → Prop} : ∀ {xs zs : List α} {ys ws : List β}, Paired F xs ys → Paired F zs ws → Paired F (xs ++ zs) (ys ++ ws)
  | _, _, _, _, .nil, h => h
  | _, _, _, _, .cons a t, h => .cons a (prd_app t h)
theorem prd_split {α β : Type} {F : α → β → Prop} : ∀ {xs zs : List α} {ys ws : List β}, xs.length = ys.length → Paired F (xs ++ zs) (ys ++ ws) → Paired F xs ys ∧ Paired F zs ws
  | [], _, [], _, _, h => ⟨.nil, h⟩
  | x :: xs, _, y :: ys, _, e, .cons a t => by
    obtain ⟨h1, h2⟩ := prd_split (xs := xs) (ys := ys) (by simpa using e) t
    exact ⟨.cons a h1, h2⟩
theorem dpa_prd : ∀ {xs : List V} {ds : List PyData}, DpAll K Hq xs ds → Paired (KOk K Hq Hd ps) xs (ds.map Knd.dat)
  | _, _, .nil => .nil
  | _, _, .cons a t => .cons a (dpa_prd t)
theorem of_dpa_prd : ∀ {xs : List V} {ds : List PyData}, Paired (KOk K Hq Hd ps) xs (ds.map Knd.dat) → DpAll K Hq xs ds
  | _, [], .nil => .nil
  | _, _ :: _, .cons a t => .cons a (of_dpa_prd t)
theorem SB.wipe (S : SB K He Fr Hd ps m ow ts σ xs H) (vs : List Nat) : SB K He Fr Hd ps (wipeM m vs) ow ts (wipe σ vs) xs H := by
  refine ⟨S.eh, S.dh, S.fh, S.fd, S.fk, S.nk, S.pl, S.ok, ?_, S.tv⟩
  induction vs with
  | nil => exact S.sv
  | cons v vs ih => exact prd_set trivial v ih
theorem SB.lock {D : Addr} {o : HO} (S : SB K He Fr Hd ps m ow ts σ xs (hid H D)) (hD : H D = some o) (ho : tupy o = false) : SB K He (upd Fr D o) Hd ps m ow ts σ xs H := by
  have S' := S.grow (hid_sub H D)
  have nD : Hd D = none := by
    cases q : Hd D with
    | none => rfl
    | some u => have := S.dh _ _ q; rw [hid_at] at this; cases this
  have nP : D ∉ ps ++ kids ow := fun h => by obtain ⟨o, q⟩ := S.inH h; rw [hid_at] at q; cases q
  refine ⟨S'.eh, S'.dh, fun a u h => ?_, fun a u h => ?_, fun p hp => ?_, S'.nk, S'.pl, S'.ok, S'.sv, S'.tv⟩
  · by_cases e : a = D
    · subst e; rw [upd_same] at h; cases h; exact hD
    · rw [upd_ne e] at h; exact S'.fh _ _ h
  · by_cases e : a = D
    · subst e; rw [upd_same] at h; cases h; exact ⟨nD, ho⟩
    · rw [upd_ne e] at h; exact S'.fd _ _ h
  · rw [upd_ne (fun e : p = D => nP (by rw [← e]; exact hp))]
    exact S'.fk p hp
theorem SB.unlock {D : Addr} {o : HO} (S : SB K He (upd Fr D o) Hd ps m ow ts σ xs H) (hF : Fr D = none) : H D = some o ∧ SB K He Fr Hd ps m ow ts σ xs (hid H D) := by
  have nD := (S.fd D o upd_same).1
  have nP : ∀ p ∈ ps ++ kids ow, p ≠ D := fun p hp e => by have := S.fk p hp; rw [e, upd_same] at this; cases this
  refine ⟨S.fh _ _ upd_same, S.eh, fun a u h => ?_, fun a u h => ?_, fun a u h => ?_, fun p hp => ?_, S.nk, S.pl, fun n p c h1 h2 => ?_, S.sv, S.tv⟩
  · rw [hid_ne (fun e => by rw [e, nD] at h; cases h)]; exact S.dh _ _ h
  · have e : a ≠ D := fun e => by rw [e, hF] at h; cases h
    rw [hid_ne e]
    exact S.fh _ _ (by rw [upd_ne e]; exact h)
  · have e : a ≠ D := fun e => by rw [e, hF] at h; cases h
    exact S.fd a u (by rw [upd_ne e]; exact h)
  · have := S.fk p hp
    rwa [upd_ne (nP p hp)] at this
  · have hn := nP p (List.mem_append_left _ (List.mem_of_getElem? h1))
    have q := S.ok n p c h1 h2
    cases c with
    | dead => exact q.imp fun o h => by rw [hid_ne hn]; exact h
    | lst ds => exact ⟨q.1, q.2.imp fun vs h => ⟨by rw [hid_ne hn]; exact h.1, h.2⟩⟩
    | dic ds => exact ⟨q.1, q.2.imp fun vs h => ⟨by rw [hid_ne hn]; exact h.1, h.2⟩⟩
    | ldic od us ds => exact ⟨q.1, by rw [hid_ne hn]; exact q.2.1, q.2.2⟩
    | gen φ ks => exact ⟨q.1, q.2.imp fun vs h => ⟨by rw [hid_ne hn]; exact h.1, h.2⟩⟩
    | tpl ks => exact q.imp fun vs h => ⟨by rw [hid_ne hn]; exact h.1, h.2⟩
    | jl n => exact ⟨q.1, q.2.imp fun vs h => ⟨by rw [hid_ne hn]; exact h.1, h.2⟩⟩
    | tr qs lss => exact ⟨q.1, by rw [hid_ne hn]; exact q.2.1, q.2.2.1, prd_mm q.2.2.2 fun x hx k h => h.imp fun vs h => ⟨by rw [hid_ne (nP x (List.mem_append_right _ (kids_mem h2 hx)))]; exact h.1, h.2⟩⟩
/-- temporaries between -/
theorem SB.tvs (S : SB K He Fr Hd ps m ow ts σ xs H) {ts' : List Knd} {xs' : List V} (h : Paired (KOk K (port He Hd) Hd ps) xs' ts') : SB K He Fr Hd ps m ow ts' σ xs' H := ⟨S.eh, S.dh, S.fh, S.fd, S.fk, S.nk, S.pl, S.ok, S.sv, h⟩
theorem SB.svs (S : SB K He Fr Hd ps m ow ts σ xs H) {m' : Env'} {σ' : L2.St} (h : Paired (SlotOk K (port He Hd) Hd ps) σ' m') : SB K He Fr Hd ps m' ow ts σ' xs H := ⟨S.eh, S.dh, S.fh, S.fd, S.fk, S.nk, S.pl, S.ok, h, S.tv⟩
theorem SB.noF (S : SB K He Fr Hd ps m ow ts σ xs H) {D : Addr} (h : H D = none) : Fr D = none := by
  cases q : Fr D with
  | none => rfl
  | some o => rw [S.fh _ _ q] at h; cases h

theorem wipe_get (σ : L2.St) : ∀ (vs : List Nat) (i : Nat), (wipe σ vs)[i]? = if i ∈ vs then (σ[i]?).map (fun _ => none) else σ[i]?
  | [], i => by simp [wipe]
  | v :: vs, i => by
    unfold wipe
    rw [List.getElem?_set, wipe_get σ vs i, wipe_length]
    by_cases e : v = i
    · subst e
      simp only [List.mem_cons, true_or, if_true]
      by_cases h : v < σ.length
      · rw [if_pos h, List.getElem?_eq_getElem h]; rfl
      · rw [if_neg h, List.getElem?_eq_none (by omega)]; rfl
    · have e' : ¬ i = v := fun z => e z.symm
      simp only [List.mem_cons, e', false_or, if_neg e]
theorem wipe_again (σ : L2.St) (vs : List Nat) (j : Nat) (x : Option V) (hj : j ∈ vs) : wipe ((wipe σ vs).set j x) vs = wipe σ vs := by
  apply List.ext_getElem?
  intro i
  rw [wipe_get, wipe_get, List.getElem?_set, wipe_length, wipe_get]
  by_cases h : i ∈ vs
  · rw [if_pos h, if_pos h]
    by_cases e : j = i
    · rw [if_pos e]
      by_cases h2 : j < σ.length
      · rw [if_pos h2, ← e, List.getElem?_eq_getElem h2]; rfl
      · rw [if_neg h2, ← e, List.getElem?_eq_none (by omega)] <;> rfl
    · rw [if_neg e]
      cases σ[i]? <;> rfl
  · rw [if_neg h, if_neg h, if_neg (fun e : j = i => h (by rw [← e]; exact hj))]

/-! ### comprehensions that change nothing -/
section
variable {tl te : TE} {tt : TT} {j n : Nat} {vs : List Nat} {fl b : Bool} {α : Type} {as : List α} {emb f : α → PyData} {c : α → Bool}
/-- what one turn asks -/
def Turn1 (K : PySem.W.Frag) (m : Env') (ow : List OC) (vs : List Nat) (j : Nat) (tt : TT) (te : TE) (kx : α → Knd) (c : α → Bool) (f : α → PyData) (as : List α) : Prop :=
  ∀ a ∈ as, EB K tt ((wipeM m vs).set j (some (kx a))) ow (c a) ow ∧ (c a = true → ∃ k', pd k' = some (f a) ∧ EE K te ((wipeM m vs).set j (some (kx a))) ow k' ow)
/-- the list so far stands at D -/
def SoFar (K : PySem.W.Frag) (He Fr : Hp) (m : Env') (ow : List OC) (ts : List Knd) (σ : L2.St) (xs : List V) (D : Addr) (ds : List PyData) (H : Hp) : Prop :=
  ∃ Hd ps acc, H D = some (.lst acc) ∧ SB K He Fr Hd ps m ow ts σ xs (hid H D) ∧ DpAll K (port He Hd) acc ds
theorem lc_turn {D : Addr} {ds : List PyData} {a : α} {x : V} {kx : α → Knd} {Nx : Hp → Prop} (hj : j ∈ vs) (hF : Fr D = none) (hT : Turn1 K m ow vs j tt te kx c f as) (ha : a ∈ as) (hz : ds.length < 10000000)
    (hx : ∀ Hd ps, SB K He Fr Hd ps m ow ts σ xs (hid H D) → KOk K (port He Hd) Hd ps x (kx a))
    (S : SoFar K He Fr m ow ts σ xs D ds H) (q : ∀ H', SoFar K He Fr m ow ts σ xs D (if c a = true then ds ++ [f a] else ds) H' → Nx H') :
    gName j x (wipe σ vs) H fun σ2 H2 => wipe σ2 vs = wipe σ vs ∧ tt σ2 H2 fun b H3 => if b = true then te σ2 H3 fun y H4 => ∃ acc, H4 D = some (.lst acc) ∧ acc.length < sizeLine ∧ Nx (upd H4 D (.lst (acc ++ [y]))) else Nx H3 := by
  obtain ⟨Hd, ps, acc, hD, S, hacc⟩ := S
  obtain ⟨zs, hz1, hz2⟩ := hold S.sv
  have hx := hx Hd ps S
  have S1 := (S.lock hD rfl).tvs (prd_app (dpa_prd (ps := ps) hacc) (prd_app hz1 S.tv))
  have lz := PySem.Paired.length hz1
  have la := dpa_len hacc
  have S2 := (S1.wipe vs).store hx j
  obtain ⟨ht, he⟩ := hT a ha
  refine ⟨wipe_again σ vs j _ hj, ht He _ _ _ _ _ _ ⟨_, _, S2⟩ fun H3 ⟨Hd3, ps3, S3⟩ => ?_⟩
  have back : ∀ {Hd4 : Hp} {ps4 : List Addr} {m4 : Env'} {σ4 : L2.St} {H4 : Hp}, SB K He (upd Fr D (.lst acc)) Hd4 ps4 m4 ow (ds.map Knd.dat ++ (known m ++ ts)) σ4 (acc ++ (zs ++ xs)) H4 →
      H4 D = some (.lst acc) ∧ SB K He Fr Hd4 ps4 m ow ts σ xs (hid H4 D) ∧ DpAll K (port He Hd4) acc ds := by
    intro Hd4 ps4 m4 σ4 H4 S4
    obtain ⟨e, S5⟩ := S4.unlock hF
    obtain ⟨t1, t2⟩ := prd_split (by rw [List.length_map]; exact la) S5.tv
    obtain ⟨t3, t4⟩ := prd_split lz t2
    exact ⟨e, (S5.svs (hz2 _ _ _ t3)).tvs t4, of_dpa_prd t1⟩
  cases hc : c a with
  | false =>
    rw [if_neg Bool.false_ne_true]
    refine q _ ?_
    rw [hc, if_neg Bool.false_ne_true]
    obtain ⟨e, S5, h5⟩ := back S3
    exact ⟨_, _, acc, e, S5, h5⟩
  | true =>
    rw [if_pos rfl]
    obtain ⟨k', hk', he⟩ := he hc
    refine he He _ _ _ _ _ _ ⟨_, _, S3⟩ fun y H4 ⟨Hd4, ps4, S4⟩ => ?_
    obtain ⟨hy, S4⟩ := S4.pop
    obtain ⟨e, S5, h5⟩ := back S4
    refine ⟨acc, e, by rw [la, sizeLine_eq]; omega, q _ ?_⟩
    rw [hc, if_pos rfl]
    exact ⟨Hd4, ps4, acc ++ [y], upd_same, by rw [hid_upd]; exact S5, dpa_app h5 (.cons (pd_ok hy hk') .nil)⟩
theorem lc_begin {D : Addr} (S : SB K He Fr Hd ps m ow ts σ xs H) (hD : H D = none) : SoFar K He Fr m ow ts σ xs D [] (upd H D (.lst [])) := by
  refine ⟨Hd, ps, [], upd_same, ?_, .nil⟩
  have e : hid (upd H D (.lst [])) D = H := by
    funext a
    unfold hid upd
    split
    · subst_vars; exact hD.symm
    · rfl
  rw [e]
  exact S
theorem lc_end (b : Bool) {D : Addr} {ds : List PyData} (S : SoFar K He Fr m ow ts σ xs D ds H) : SA K He Fr m (newO b ow ds) (newK b ow ds :: ts) σ (.ref D :: xs) H := by
  obtain ⟨Hd, ps, acc, hD, S, hacc⟩ := S
  have := S.made b hid_at hacc
  rwa [upd_hid hD] at this
theorem filt_step {as : List α} {c : α → Bool} {f : α → PyData} {i : Nat} {a : α} (h : as[i]? = some a) : ((as.take (i + 1)).filter c).map f = if c a = true then ((as.take i).filter c).map f ++ [f a] else ((as.take i).filter c).map f := by
  rw [List.take_add_one, h]
  show ((as.take i ++ [a]).filter c).map f = _
  rw [List.filter_append, List.map_append]
  cases hc : c a <;> simp [hc]
/-- [e for x in xs if t] over a list -/
theorem ee_lc (b : Bool) (as : List α) (emb : α → PyData) (c : α → Bool) (f : α → PyData) (hl : EE K tl m ow k ow1) (hs : seqOf ow1 k = some (fl, as.map emb)) (hT : Turn1 K m ow1 vs j tt te (fun a => ek fl (emb a)) c f as) (hj : j ∈ vs) (hz : as.length < 10000000) :
    EE K (tLc (iList K tl) (gName j) tt te vs) m ow (newK b ow1 ((as.filter c).map f)) (newO b ow1 ((as.filter c).map f)) := fun He Fr ts σ xs H Q S q =>
  hl He Fr ts σ xs H _ S fun x H1 ⟨Hd, ps, S1⟩ => by
    obtain ⟨p, us, rfl, hsq, _⟩ := seq_ok S1 S1.pop.1 hs
    refine ⟨p, rfl, ⟨us, hsq⟩, fun D hD => ?_⟩
    have hF := S1.noF hD
    refine ⟨fun i n H => n = as.length - i ∧ i ≤ as.length ∧ SoFar K He Fr m ow1 (k :: ts) σ (.ref p :: xs) D (((as.take i).filter c).map f) H, ⟨_, rfl, Nat.zero_le _, lc_begin S1 hD⟩, ?_⟩
    rintro i n H2 ⟨rfl, hi, S2⟩
    obtain ⟨Hd2, ps2, acc, e1, S3, e2⟩ := id S2
    obtain ⟨p2, us2, e, hsq2, hd2⟩ := seq_ok S3 S3.pop.1 hs
    cases e
    have hsq2 := (hid_sub H2 D).seq hsq2
    have hlen : us2.length = as.length := by rw [dpa_len hd2, List.length_map]
    by_cases hlt : i < as.length
    · have ha : as[i]? = some as[i] := List.getElem?_eq_getElem hlt
      refine .inr ⟨⟨us2, us2[i]'(by omega), hsq2, List.getElem?_eq_getElem (by omega)⟩, _, fun H' h => ⟨as.length - (i + 1), by omega, rfl, hlt, h⟩, fun x H' hy => ?_⟩
      obtain ⟨rfl, hy⟩ := hy
      refine lc_turn (a := as[i]) hj hF hT (List.getElem_mem hlt) ?_ (fun Hd4 ps4 S4 => ?_) S2 fun H' h => ?_
      · rw [List.length_map]
        refine Nat.lt_of_le_of_lt (List.length_filter_le ..) ?_
        rw [List.length_take]
        omega
      · obtain ⟨p4, us4, e, hsq4, hd4⟩ := seq_ok S4 S4.pop.1 hs
        cases e
        have hx := hy us4 ((hid_sub H' D).seq hsq4)
        obtain ⟨d, h1, h2⟩ := dpa_at hd4 hx
        rw [List.getElem?_map, ha] at h1
        cases h1
        exact ek_ok h2
      · rw [filt_step ha]; exact h
    · have e : i = as.length := by omega
      subst e
      refine .inl ⟨⟨us2, hsq2, by omega⟩, q _ _ ?_⟩
      rw [List.take_length] at S2
      have S5 := lc_end b S2
      -- the walked list's own temporary goes
      obtain ⟨Hd5, ps5, S5⟩ := S5
      obtain ⟨h1, h2⟩ := S5.pop
      exact ⟨Hd5, ps5, h2.pop.2.push h1⟩
/-- .. over range(n) -/
theorem ee_lcR (b : Bool) {ar : TA} {i : Int} (c : Nat → Bool) (f : Nat → PyData) (hl : EA K ar m ow [.v (.int i)] ow1) (hn : i = (n : Int)) (hT : Turn1 K m ow1 vs j tt te (fun a : Nat => .v (.int (a : Int))) c f (List.range n)) (hj : j ∈ vs) (hz : n < 10000000) :
    EE K (tLc (iRng1 ar) (gName j) tt te vs) m ow (newK b ow1 (((List.range n).filter c).map f)) (newO b ow1 (((List.range n).filter c).map f)) := fun He Fr ts σ xs H Q S q =>
  hl He Fr ts σ xs H _ S fun ys H1 hyl ⟨Hd, ps, S0⟩ => by
    obtain ⟨hp, S1⟩ := S0.args hyl
    obtain ⟨y, rfl⟩ := one hyl
    subst hn
    cases hp with
    | cons hy _ =>
    have hy : y = .int n := hy
    subst hy
    refine ⟨n, rfl, by omega, by omega, fun D hD => ?_⟩
    have hF := S1.noF hD
    refine ⟨fun i k H => k = n - i ∧ i ≤ n ∧ SoFar K He Fr m ow1 ts σ xs D ((((List.range n).take i).filter c).map f) H, ⟨_, rfl, Nat.zero_le _, lc_begin S1 hD⟩, ?_⟩
    rintro i k H2 ⟨rfl, hi, S2⟩
    by_cases hlt : i < n
    · have ha : (List.range n)[i]? = some i := by rw [List.getElem?_range hlt]
      refine .inr ⟨by show i < (n : Int).toNat; omega, _, fun H' h => ⟨n - (i + 1), by omega, rfl, hlt, h⟩, fun x H' hy => ?_⟩
      obtain ⟨rfl, rfl⟩ := hy
      refine lc_turn (a := i) hj hF hT (List.mem_of_getElem? ha) ?_ (fun Hd4 ps4 S4 => ?_) S2 fun H' h => ?_
      · rw [List.length_map]
        refine Nat.lt_of_le_of_lt (List.length_filter_le ..) ?_
        rw [List.length_take, List.length_range]
        omega
      · show V.int (0 + (i : Int)) = V.int (i : Int)
        rw [Int.zero_add]
      · rw [filt_step ha]; exact h
    · have e : i = n := by omega
      subst e
      refine .inl ⟨by show (i : Int).toNat ≤ i; omega, q _ _ ?_⟩
      rw [List.take_of_length_le (by rw [List.length_range]; omega)] at S2
      exact lc_end b S2
end

/-! ### own objects that are kept -/
def okN (n : Nat) : Knd → Prop
  | .own j => j < n
  | _ => True
section
variable {K : PySem.W.Frag} {He Fr Hd H : Hp} {ps : List Addr} {m : Env'} {ow ow1 ow2 cs : List OC} {ts : List Knd} {σ : L2.St} {xs : List V} {k k1 k2 : Knd} {x : V} {n : Nat}
theorem prd_mem {α β : Type} {F G : α → β → Prop} {P : β → Prop} (f : ∀ x y, F x y → P y → G x y) : ∀ {xs : List α} {ys : List β}, Paired F xs ys → (∀ y ∈ ys, P y) → Paired G xs ys
  | _, _, .nil, _ => .nil
  | _, _, .cons h t, g => .cons (f _ _ h (g _ (List.mem_cons_self ..))) (prd_mem f t fun y hy => g y (List.mem_cons_of_mem _ hy))
theorem prd_all {α β : Type} {F : α → β → Prop} {P : β → Prop} (f : ∀ x y, F x y → P y) : ∀ {xs : List α} {ys : List β}, Paired F xs ys → ∀ y ∈ ys, P y
  | _, _, .nil, _, h => by cases h
  | _, _, .cons h t, y, hy => by
    rcases List.mem_cons.mp hy with rfl | hy
    · exact f _ _ h
    · exact prd_all f t y hy
theorem kok_n {Hq : Hp} (h : KOk K Hq Hd ps x k) : okN ps.length k := by
  cases k with
  | own j => obtain ⟨p, h, _⟩ := h; exact (List.getElem?_eq_some_iff.mp h).1
  | v _ => trivial
  | arg _ => trivial
  | dat _ => trivial
def okS (n : Nat) : Option Knd → Prop
  | none => True
  | some k => okN n k
theorem SB.inS (S : SB K He Fr Hd ps m ow ts σ xs H) : ∀ k ∈ m, okS ow.length k := prd_all (fun x y h => by
  cases y with
  | none => trivial
  | some k => obtain ⟨y, _, h⟩ := h; rw [← S.pl]; exact kok_n h) S.sv
theorem SB.inT (S : SB K He Fr Hd ps m ow ts σ xs H) : ∀ k ∈ ts, okN ow.length k := prd_all (fun x y h => by rw [← S.pl]; exact kok_n h) S.tv
theorem kok_take {Hq : Hp} (h : KOk K Hq Hd ps x k) (hn : okN n k) : KOk K Hq Hd (ps.take n) x k := by
  cases k with
  | own j =>
    obtain ⟨p, h, e⟩ := h
    exact ⟨p, by rw [List.getElem?_take_of_lt hn]; exact h, e⟩
  | v _ => exact h
  | arg _ => exact h
  | dat _ => exact h
def okC (n : Nat) : OC → Prop
  | .gen _ ks => ∀ k ∈ ks, okN n k
  | .tpl ks => ∀ k ∈ ks, okN n k
  | _ => True
theorem SB.inO (S : SB K He Fr Hd ps m ow ts σ xs H) : ∀ c ∈ ow, okC ow.length c := fun c hc => by
  obtain ⟨n, hn⟩ := List.mem_iff_getElem?.mp hc
  have hl : n < ps.length := by rw [S.pl]; exact (List.getElem?_eq_some_iff.mp hn).1
  have q := S.ok n _ c (List.getElem?_eq_getElem hl) hn
  rw [← S.pl]
  cases c with
  | gen φ ks => obtain ⟨_, vs, _, _, h⟩ := q; exact prd_all (fun x y h => kok_n h) h
  | tpl ks => obtain ⟨vs, _, h⟩ := q; exact prd_all (fun x y h => kok_n h) h
  | lst _ => trivial
  | dic _ => trivial
  | ldic _ _ _ => trivial
  | tr _ _ => trivial
  | jl _ => trivial
  | dead => trivial
/-- own objects that nothing speaks of are forgotten -/
theorem SB.forget (S : SB K He Fr Hd ps m (ow ++ cs) ts σ xs H) (hm : ∀ k ∈ m, okS ow.length k) (ht : ∀ k ∈ ts, okN ow.length k) (hc0 : ∀ c ∈ ow, okC ow.length c) : SB K He Fr Hd (ps.take ow.length) m ow ts σ xs H := by
  have hl := S.pl
  rw [List.length_append] at hl
  have sub : (ps.take ow.length ++ kids ow).Sublist (ps ++ kids (ow ++ cs)) := by rw [kids_app]; exact (List.take_sublist _ _).append (List.sublist_append_left _ _)
  refine ⟨S.eh, S.dh, S.fh, S.fd, fun p hp => S.fk p (sub.subset hp), S.nk.sublist sub, by rw [List.length_take]; omega, fun n p c hp hc => ?_, prd_mem (fun x y h hy => ?_) S.sv hm, prd_mem (F := KOk K (port He Hd) Hd ps) (fun x y h hy => kok_take h hy) S.tv ht⟩
  · have hn : n < ow.length := (List.getElem?_eq_some_iff.mp hc).1
    rw [List.getElem?_take_of_lt hn] at hp
    have q := S.ok n p c hp (by rw [List.getElem?_append_left hn]; exact hc)
    have q2 := hc0 c (List.mem_of_getElem? hc)
    cases c with
    | gen φ ks => exact ⟨q.1, q.2.imp fun vs h => ⟨h.1, h.2.1, prd_mem (F := KOk K (port He Hd) Hd ps) (fun x y h hy => kok_take h hy) h.2.2 q2⟩⟩
    | tpl ks => exact q.imp fun vs h => ⟨h.1, prd_mem (F := KOk K (port He Hd) Hd ps) (fun x y h hy => kok_take h hy) h.2 q2⟩
    | lst _ => exact q
    | dic _ => exact q
    | ldic _ _ _ => exact q
    | tr _ _ => exact q
    | jl _ => exact q
    | dead => exact q
  · cases y with
    | none => trivial
    | some k => obtain ⟨y, e, h⟩ := h; exact ⟨y, e, kok_take h hy⟩
theorem ee_drop {te : TE} (h : EE K te m ow k (ow ++ cs)) (hk : okN ow.length k) : EE K te m ow k ow := fun He Fr ts σ xs H Q ⟨Hd, ps, S⟩ q =>
  h He Fr ts σ xs H _ ⟨Hd, ps, S⟩ fun x H1 ⟨Hd1, ps1, S1⟩ => q x H1 ⟨Hd1, _, S1.forget S.inS (fun k' hk' => by
    rcases List.mem_cons.mp hk' with rfl | hk'
    · exact hk
    · exact S.inT k' hk') S.inO⟩
theorem eb_drop {tt : TT} {b : Bool} (h : EB K tt m ow b (ow ++ cs)) : EB K tt m ow b ow := fun He Fr ts σ xs H Q ⟨Hd, ps, S⟩ q =>
  h He Fr ts σ xs H _ ⟨Hd, ps, S⟩ fun H1 ⟨Hd1, ps1, S1⟩ => q H1 ⟨Hd1, _, S1.forget S.inS S.inT S.inO⟩
end
def trimS (n : Nat) : Option Knd → Option Knd
  | some (.own j) => if j < n then some (.own j) else none
  | x => x
def trimM (n : Nat) (m : Env') : Env' := m.map (trimS n)
def okKb (n : Nat) : Knd → Bool
  | .own j => decide (j < n)
  | _ => true
def trimC (n : Nat) : OC → OC
  | .gen φ ks => if ks.all (okKb n) = true then .gen φ ks else .dead
  | .tpl ks => if ks.all (okKb n) = true then .tpl ks else .dead
  | c => c
def trimO (n : Nat) (ow : List OC) : List OC := (ow.take n).map (trimC n)
section
variable {K : PySem.W.Frag} {He Fr Hd H : Hp} {ps : List Addr} {m : Env'} {ow : List OC} {ts : List Knd} {σ : L2.St} {xs : List V} {P : Post} {t : TS}
theorem trim_ok {Hq : Hp} {n : Nat} : ∀ {σ : L2.St} {m : Env'}, Paired (SlotOk K Hq Hd ps) σ m → Paired (SlotOk K Hq Hd ps) σ (trimM n m)
  | _, _, .nil => .nil
  | _, x :: m, .cons h t => by
    refine .cons ?_ (trim_ok t)
    unfold trimS
    split
    · split
      · exact h
      · trivial
    · exact h
theorem trim_in {n : Nat} (hn : n ≤ ow.length) (hm : ∀ k ∈ m, okS ow.length k) : ∀ k ∈ trimM n m, okS (ow.take n).length k := by
  intro k hk
  obtain ⟨x, hx, rfl⟩ := List.mem_map.mp hk
  have := hm x hx
  have hl : (ow.take n).length = n := by rw [List.length_take]; omega
  rw [hl]
  unfold trimS
  split
  · split
    · rename_i j h; exact h
    · trivial
  · rename_i h
    cases x with
    | none => trivial
    | some x =>
      cases x with
      | own j => exact absurd rfl (h j)
      | v _ => trivial
      | arg _ => trivial
      | dat _ => trivial
theorem okKb_ok {n : Nat} {ks : List Knd} (h : ks.all (okKb n) = true) : ∀ k ∈ ks, okN n k := fun k hk => by
  have := List.all_eq_true.mp h k hk
  cases k with
  | own j => exact of_decide_eq_true (p := j < n) this
  | v _ => trivial
  | arg _ => trivial
  | dat _ => trivial
theorem trimC_ok (n : Nat) (c : OC) : okC n (trimC n c) := by
  cases c with
  | gen φ ks =>
    show okC n (if ks.all (okKb n) = true then _ else _)
    split
    · exact okKb_ok (by assumption)
    · trivial
  | tpl ks =>
    show okC n (if ks.all (okKb n) = true then _ else _)
    split
    · exact okKb_ok (by assumption)
    · trivial
  | lst _ => trivial
  | dic _ => trivial
  | ldic _ _ _ => trivial
  | tr _ _ => trivial
  | jl _ => trivial
  | dead => trivial
theorem OwnOk.dead {Hq Hd H : Hp} {ps : List Addr} {p : Addr} {c : OC} (h : OwnOk K Hq Hd ps H p c) : OwnOk K Hq Hd ps H p .dead := by
  cases c with
  | gen φ ks => obtain ⟨_, vs, h, _⟩ := h; exact ⟨_, h⟩
  | tpl ks => obtain ⟨vs, h, _⟩ := h; exact ⟨_, h⟩
  | lst _ => obtain ⟨_, vs, h, _⟩ := h; exact ⟨_, h⟩
  | dic _ => obtain ⟨_, vs, h, _⟩ := h; exact ⟨_, h⟩
  | ldic _ _ _ => obtain ⟨_, h, _⟩ := h; exact ⟨_, h⟩
  | tr _ _ => obtain ⟨_, h, _⟩ := h; exact ⟨_, h⟩
  | jl _ => obtain ⟨_, vs, h, _⟩ := h; exact ⟨_, h⟩
  | dead => exact h
theorem OwnOk.trim {Hq Hd H : Hp} {ps : List Addr} {p : Addr} {c : OC} (n : Nat) (h : OwnOk K Hq Hd ps H p c) : OwnOk K Hq Hd ps H p (trimC n c) := by
  cases c with
  | gen φ ks =>
    show OwnOk K Hq Hd ps H p (if ks.all (okKb n) = true then _ else _)
    split
    · exact h
    · exact h.dead
  | tpl ks =>
    show OwnOk K Hq Hd ps H p (if ks.all (okKb n) = true then _ else _)
    split
    · exact h
    · exact h.dead
  | lst _ => exact h
  | dic _ => exact h
  | ldic _ _ _ => exact h
  | tr _ _ => exact h
  | jl _ => exact h
  | dead => exact h
theorem kids_trim (n : Nat) : ∀ ow : List OC, kids (ow.map (trimC n)) = kids ow
  | [] => rfl
  | c :: r => by
    show kidC (trimC n c) ++ kids (r.map (trimC n)) = kidC c ++ kids r
    rw [kids_trim n r]
    cases c with
    | gen φ ks =>
      show kidC (if ks.all (okKb n) = true then _ else _) ++ _ = _
      split <;> rfl
    | tpl ks =>
      show kidC (if ks.all (okKb n) = true then _ else _) ++ _ = _
      split <;> rfl
    | lst _ => rfl
    | dic _ => rfl
    | ldic _ _ _ => rfl
    | tr _ _ => rfl
    | jl _ => rfl
    | dead => rfl
theorem SB.trimmed (S : SB K He Fr Hd ps m ow ts σ xs H) (n : Nat) : SB K He Fr Hd ps m (ow.map (trimC n)) ts σ xs H :=
  ⟨S.eh, S.dh, S.fh, S.fd, by rw [kids_trim]; exact S.fk, by rw [kids_trim]; exact S.nk, by rw [List.length_map]; exact S.pl, fun j p c hp hc => by
    rw [List.getElem?_map] at hc
    obtain ⟨c0, h0, rfl⟩ := Option.map_eq_some_iff.mp hc
    exact (S.ok j p c0 hp h0).trim n, S.sv, S.tv⟩
theorem trimO_len {n : Nat} (hn : n ≤ ow.length) : (trimO n ow).length = n := by unfold trimO; rw [List.length_map, List.length_take]; omega
theorem SB.trim (S : SB K He Fr Hd ps m ow ts σ xs H) (n : Nat) (hn : n ≤ ow.length) (ht : ∀ k ∈ ts, okN (ow.take n).length k) : SA K He Fr (trimM n m) (trimO n ow) ts σ xs H := by
  have S1 := (S.trimmed n).svs (trim_ok (n := n) S.sv)
  have e : ow.map (trimC n) = trimO n ow ++ (ow.drop n).map (trimC n) := by unfold trimO; rw [← List.map_append, List.take_append_drop]
  have hm := trim_in hn S.inS
  have hl := trimO_len hn
  have hl2 : (ow.take n).length = n := by rw [List.length_take]; omega
  rw [hl2] at hm ht
  have hc : ∀ c ∈ trimO n ow, okC (trimO n ow).length c := fun c hc => by
    rw [hl]
    obtain ⟨c0, _, rfl⟩ := List.mem_map.mp hc
    exact trimC_ok n c0
  rw [← hl] at hm ht
  rw [e] at S1
  exact ⟨Hd, _, S1.forget (by rw [hl] at hm ⊢; exact hm) ht hc⟩
end

/-! ### statements -/
structure Post where
  nx : Env' → List OC → Prop
  rt : Knd → List OC → Prop
  bk : Env' → List OC → Prop := fun _ _ => False
  ct : Env' → List OC → Prop := fun _ _ => False
  n0 : Nat := 0
structure Fit (K : PySem.W.Frag) (He Fr : Hp) (ts : List Knd) (xs : List V) (D : Ends) (P : Post) : Prop where
  nx : ∀ m ow σ H, P.nx m ow → SA K He Fr m ow ts σ xs H → D.nx σ H
  rt : ∀ k m ow σ x H, P.rt k ow → SA K He Fr m ow (k :: ts) σ (x :: xs) H → D.rt x H
  bk : ∀ m ow σ H, P.bk m ow → SA K He Fr m ow ts σ xs H → D.bk σ H
  ct : ∀ m ow σ H, P.ct m ow → SA K He Fr m ow ts σ xs H → D.ct σ H
  tn : ∀ k ∈ ts, okN P.n0 k
def SS (K : PySem.W.Frag) (t : TS) (m : Env') (ow : List OC) (P : Post) : Prop := ∀ (He Fr : Hp) (ts : List Knd) (σ : L2.St) (xs : List V) (H : Hp) (D : Ends), SA K He Fr m ow ts σ xs H → Fit K He Fr ts xs D P → t D σ H
section
variable {P : Post} {s t u tb : TS} {te tl : TE} {tc : TT} {ar : TA} {i j n : Nat} {b c fl : Bool} {ds : List PyData} {d : PyData} {z : Int}
theorem ss_imp {P' : Post} (h : SS K t m ow P') (h1 : ∀ m ow, P'.nx m ow → P.nx m ow) (h2 : ∀ k ow, P'.rt k ow → P.rt k ow) (h3 : ∀ m ow, P'.bk m ow → P.bk m ow) (h4 : ∀ m ow, P'.ct m ow → P.ct m ow) (h5 : P.n0 = P'.n0 := by rfl) : SS K t m ow P := fun He Fr ts σ xs H D S F =>
  h He Fr ts σ xs H D S ⟨fun m ow σ H q => F.nx m ow σ H (h1 m ow q), fun k m ow σ x H q => F.rt k m ow σ x H (h2 k ow q), fun m ow σ H q => F.bk m ow σ H (h3 m ow q), fun m ow σ H q => F.ct m ow σ H (h4 m ow q), h5 ▸ F.tn⟩
theorem ss_seq (h : SS K t m ow { P with nx := fun m ow => SS K u m ow P }) : SS K (tSeq t u) m ow P := fun He Fr ts σ xs H D S F =>
  h He Fr ts σ xs H _ S ⟨fun m ow σ H q S => q He Fr ts σ xs H D S F, F.rt, F.bk, F.ct, F.tn⟩
/-- the first n own objects are kept -/
theorem ss_trim {m' : Env'} {ow' : List OC} (n : Nat) (h : SS K t m' ow' P) (e1 : trimM n m = m' := by rfl) (e2 : trimO n ow = ow' := by rfl) (hn : n ≤ ow.length := by exact Nat.le_of_ble_eq_true rfl) (h0 : P.n0 ≤ n := by exact Nat.le_of_ble_eq_true rfl) : SS K t m ow P := fun He Fr ts σ xs H D S F => by
  subst e1
  subst e2
  obtain ⟨Hd, ps, S1⟩ := id S
  refine h He Fr ts σ xs H D (S1.trim n hn fun k hk => ?_) F
  have := F.tn k hk
  have hl : (ow.take n).length = n := by rw [List.length_take]; omega
  rw [hl]
  cases k with
  | own j => exact Nat.lt_of_lt_of_le this h0
  | v _ => trivial
  | arg _ => trivial
  | dat _ => trivial
/-- behind it, the first n own objects are kept -/
theorem ss_end (n : Nat) (h : SS K t m ow { P with nx := fun m ow => n ≤ ow.length ∧ P.nx (trimM n m) (trimO n ow), ct := fun m ow => n ≤ ow.length ∧ P.ct (trimM n m) (trimO n ow) }) (h0 : P.n0 ≤ n := by exact Nat.le_of_ble_eq_true rfl) : SS K t m ow P := fun He Fr ts σ xs H D S F => by
  have go : ∀ {m : Env'} {ow : List OC} {σ : L2.St} {H : Hp}, n ≤ ow.length → SA K He Fr m ow ts σ xs H → SA K He Fr (trimM n m) (trimO n ow) ts σ xs H := fun {m ow σ H} hn ⟨Hd, ps, S1⟩ => S1.trim n hn fun k hk => by
    have := F.tn k hk
    have hl : (ow.take n).length = n := by rw [List.length_take]; omega
    rw [hl]
    cases k with
    | own j => exact Nat.lt_of_lt_of_le this h0
    | v _ => trivial
    | arg _ => trivial
    | dat _ => trivial
  exact h He Fr ts σ xs H _ S ⟨fun m ow σ H q S => F.nx _ _ _ _ q.2 (go q.1 S), F.rt, F.bk, fun m ow σ H q S => F.ct _ _ _ _ q.2 (go q.1 S), F.tn⟩
theorem ss_next (h : P.nx m ow) : SS K tNext m ow P := fun He Fr ts σ xs H D S F => F.nx m ow σ H h S
theorem ss_break (h : P.bk m ow) : SS K tBreak m ow P := fun He Fr ts σ xs H D S F => F.bk m ow σ H h S
theorem ss_cont (h : P.ct m ow) : SS K tCont m ow P := fun He Fr ts σ xs H D S F => F.ct m ow σ H h S
theorem ss_set (h : EE K te m ow k ow1) (q : P.nx (m.set i (some k)) ow1) : SS K (tAsg te (gName i)) m ow P := fun He Fr ts σ xs H D S F =>
  h He Fr ts σ xs H _ S fun x H1 ⟨Hd, ps, S1⟩ => F.nx _ _ _ _ q ⟨Hd, ps, S1.pop.2.store S1.pop.1 i⟩
theorem ss_par (h : EA K ar m ow [k, k1] ow1) (q : P.nx ((m.set i (some k)).set j (some k1)) ow1) : SS K (tPar i j ar) m ow P := fun He Fr ts σ xs H D S F =>
  h He Fr ts σ xs H _ S fun ys H1 hl ⟨Hd, ps, S1⟩ => by
    obtain ⟨y, z, rfl⟩ := two hl
    exact ⟨y, z, rfl, F.nx _ _ _ _ q ⟨Hd, ps, (S1.pop.2.pop.2.store S1.pop.2.pop.1 i).store S1.pop.1 j⟩⟩
theorem ss_expr (h : EE K te m ow k ow1) (q : P.nx m ow1) : SS K (tDrop te) m ow P := fun He Fr ts σ xs H D S F =>
  h He Fr ts σ xs H _ S fun x H1 S1 => F.nx _ _ _ _ q S1.drop
theorem ss_ret (h : EE K te m ow k ow1) (q : P.rt k ow1) : SS K (tRet te) m ow P := fun He Fr ts σ xs H D S F =>
  h He Fr ts σ xs H _ S fun x H1 S1 => F.rt _ _ _ _ _ _ q S1
theorem ss_retN (q : P.rt (.v .non) ow) : SS K tRetN m ow P := fun He Fr ts σ xs H D S F => F.rt _ _ _ _ _ _ q (S.pushV .non)
theorem ss_if (h : EB K tc m ow b ow1) (h1 : b = true → SS K t m ow1 P) (h2 : b = false → SS K u m ow1 P) : SS K (tIfS tc t u) m ow P := fun He Fr ts σ xs H D S F =>
  h He Fr ts σ xs H _ S fun H1 S1 => by
    cases b with
    | true => rw [if_pos rfl]; exact h1 rfl He Fr ts σ xs H1 D S1 F
    | false => rw [if_neg Bool.false_ne_true]; exact h2 rfl He Fr ts σ xs H1 D S1 F
/-- the temporary below the topmost goes -/
theorem SA.drop2 (S : SA K He Fr m ow (k :: k1 :: ts) σ xs H) : ∀ {x y : V} {ys : List V}, xs = x :: y :: ys → SA K He Fr m ow (k :: ts) σ (x :: ys) H := by
  rintro x y ys rfl
  obtain ⟨Hd, ps, S⟩ := S
  exact ⟨Hd, ps, S.pop.2.pop.2.push S.pop.1⟩
theorem ss_for (I : Nat → Env' → List OC → Prop) (fl : Bool) (ds : List PyData) (h : EE K tl m ow k ow1) (h0 : I 0 m ow1) (hs : ∀ i m ow, i ≤ ds.length → I i m ow → seqOf ow k = some (fl, ds))
    (ht : ∀ i d m ow, ds[i]? = some d → I i m ow → SS K tb (m.set j (some (ek fl d))) ow { nx := I (i + 1), rt := P.rt, bk := P.nx, ct := I (i + 1), n0 := ow1.length }) (he : ∀ m ow, I ds.length m ow → P.nx m ow) :
    SS K (tFor (iList K tl) (gName j) tb) m ow P := fun He Fr ts σ xs H D S F =>
  h He Fr ts σ xs H _ S fun x H1 ⟨Hd, ps, S1⟩ => by
    obtain ⟨p, us, rfl, hsq, _⟩ := seq_ok S1 S1.pop.1 (hs 0 _ _ (Nat.zero_le _) h0)
    refine ⟨p, rfl, ⟨us, hsq⟩, fun i n σ H => n = ds.length - i ∧ i ≤ ds.length ∧ ∃ m ow, I i m ow ∧ SA K He Fr m ow (k :: ts) σ (.ref p :: xs) H, ⟨_, rfl, Nat.zero_le _, _, _, h0, _, _, S1⟩, ?_⟩
    rintro i n σ2 H2 ⟨rfl, hi, m2, ow2, I2, Hd2, ps2, S2⟩
    obtain ⟨p2, us2, e, hsq2, hd2⟩ := seq_ok S2 S2.pop.1 (hs i _ _ hi I2)
    cases e
    have hlen := dpa_len hd2
    by_cases hlt : i < ds.length
    · have ha : ds[i]? = some ds[i] := List.getElem?_eq_getElem hlt
      refine .inr ⟨⟨us2, us2[i]'(by omega), hsq2, List.getElem?_eq_getElem (by omega)⟩, _, fun σ' H' h => ⟨ds.length - (i + 1), by omega, rfl, hlt, h⟩, fun x H' hy => ?_⟩
      obtain ⟨rfl, hy⟩ := hy
      have hx := hy us2 hsq2
      obtain ⟨d, h1, h2⟩ := dpa_at hd2 hx
      refine ht i d m2 ow2 h1 I2 He Fr (k :: ts) _ (.ref p :: xs) _ _ ⟨Hd2, ps2, S2.store (ek_ok h2) j⟩ ⟨fun m ow σ H q S => ⟨m, ow, q, S⟩, fun k' m ow σ x H q S => F.rt _ _ _ _ _ _ q (S.drop2 rfl), fun m ow σ H q S => F.nx _ _ _ _ q S.drop, fun m ow σ H q S => ⟨m, ow, q, S⟩, S1.inT⟩
    · have e : i = ds.length := by omega
      subst e
      exact .inl ⟨⟨us2, hsq2, by omega⟩, F.nx _ _ _ _ (he _ _ I2) ⟨Hd2, ps2, S2.pop.2⟩⟩
theorem ss_forR (I : Nat → Env' → List OC → Prop) (n : Nat) (h : EA K ar m ow [.v (.int z)] ow1) (hn : z.toNat = n) (hz : z < 10000000) (h0 : I 0 m ow1)
    (ht : ∀ i m ow, i < n → I i m ow → SS K tb (m.set j (some (.v (.int (i : Int))))) ow { nx := I (i + 1), rt := P.rt, bk := P.nx, ct := I (i + 1), n0 := ow1.length }) (he : ∀ m ow, I n m ow → P.nx m ow) (hz0 : -10000000 < z := by omega) :
    SS K (tFor (iRng1 ar) (gName j) tb) m ow P := fun He Fr ts σ xs H D S F =>
  h He Fr ts σ xs H _ S fun ys H1 hyl ⟨Hd, ps, S0⟩ => by
    obtain ⟨hp, S1⟩ := S0.args hyl
    obtain ⟨y, rfl⟩ := one hyl
    cases hp with
    | cons hy _ =>
    have hy : y = .int z := hy
    subst hy
    refine ⟨z, rfl, by omega, by omega, fun i k σ H => k = n - i ∧ i ≤ n ∧ ∃ m ow, I i m ow ∧ SA K He Fr m ow ts σ xs H, ⟨_, rfl, Nat.zero_le _, _, _, h0, _, _, S1⟩, ?_⟩
    rintro i k σ2 H2 ⟨rfl, hi, m2, ow2, I2, Hd2, ps2, S2⟩
    by_cases hlt : i < n
    · refine .inr ⟨by show i < z.toNat; omega, _, fun σ' H' h => ⟨n - (i + 1), by omega, rfl, hlt, h⟩, fun x H' hy => ?_⟩
      obtain ⟨rfl, rfl⟩ := hy
      refine ht i m2 ow2 hlt I2 He Fr ts _ xs _ _ ⟨Hd2, ps2, S2.store (x := .int (0 + (i : Int))) (k := .v (.int (i : Int))) ?_ j⟩ ⟨fun m ow σ H q S => ⟨m, ow, q, S⟩, F.rt, fun m ow σ H q S => F.nx _ _ _ _ q S, fun m ow σ H q S => ⟨m, ow, q, S⟩, S1.inT⟩
      show V.int (0 + (i : Int)) = V.int (i : Int)
      rw [Int.zero_add]
    · have e : i = n := by omega
      subst e
      exact .inl ⟨by show z.toNat ≤ i; omega, F.nx _ _ _ _ (he _ _ I2) ⟨Hd2, ps2, S2⟩⟩
theorem ss_while (I : Env' → List OC → Prop) (μ : Env' → List OC → Nat) (h0 : I m ow) {L0 : Nat}  (hs : ∀ m ow, I m ow → ∃ b ow', EB K tc m ow b ow' ∧
      (b = true → SS K tb m ow' { nx := fun m2 ow2 => I m2 ow2 ∧ μ m2 ow2 < μ m ow, rt := P.rt, bk := P.nx, ct := fun m2 ow2 => I m2 ow2 ∧ μ m2 ow2 < μ m ow, n0 := L0 }) ∧ (b = false → P.nx m ow')) (hL : ow.length = L0 := by rfl) : SS K (tWhile tc tb) m ow P := fun He Fr ts σ xs H D S F => by
  have hts : ∀ k ∈ ts, okN L0 k := by
    obtain ⟨_, _, S'⟩ := id S
    exact hL ▸ S'.inT
  refine ⟨fun n σ H => ∃ m ow, μ m ow = n ∧ I m ow ∧ SA K He Fr m ow ts σ xs H, ⟨_, m, ow, rfl, h0, S⟩, ?_⟩
  rintro n σ2 H2 ⟨m2, ow2, rfl, I2, S2⟩
  obtain ⟨b, ow3, hb, h1, h2⟩ := hs m2 ow2 I2
  refine hb He Fr ts σ2 xs H2 _ S2 fun H3 S3 => ?_
  cases b with
  | true =>
    rw [if_pos rfl]
    refine ⟨fun σ' H' => ∃ m ow, μ m ow < μ m2 ow2 ∧ I m ow ∧ SA K He Fr m ow ts σ' xs H', fun σ' H' ⟨m, ow, hl, hI, hS⟩ => ⟨μ m ow, hl, m, ow, rfl, hI, hS⟩, ?_⟩
    exact h1 rfl He Fr ts σ2 xs H3 _ S3 ⟨fun m ow σ H q S => ⟨m, ow, q.2, q.1, S⟩, F.rt, fun m ow σ H q S => F.nx _ _ _ _ q S, fun m ow σ H q S => ⟨m, ow, q.2, q.1, S⟩, hts⟩
  | false =>
    rw [if_neg Bool.false_ne_true]
    exact F.nx _ _ _ _ (h2 rfl) S3
/-- xs[i] = e, xs one's own -/
theorem ss_item {to ti : TE} {jj : Nat} (h : EE K te m ow k ow1) (ho : EE K to m ow1 (.own n) ow2) (hi : EE K ti m ow2 (.v (.int z)) ow3) (hn : ow3[n]? = some (.lst ds)) (hj : ixN ds.length z = some jj) (hk : pd k = some d)
    (q : P.nx m (ow3.set n (.lst (ds.set jj d)))) : SS K (tAsg te (gSub to ti rSetL)) m ow P := fun He Fr ts σ xs H D S F =>
  h He Fr ts σ xs H _ S fun x H1 S1 => ho He Fr _ σ _ H1 _ S1 fun o H2 S2 => hi He Fr _ σ _ H2 _ S2 fun w H3 ⟨Hd, ps, S3⟩ => by
    have hw : w = .int z := S3.pop.1
    subst hw
    obtain ⟨p, vs, e1, rfl, _, e2, e3⟩ := S3.pop.2.own S3.pop.2.pop.1 hn
    refine ⟨p, vs, z, jj, rfl, rfl, e2, by rw [dpa_len e3]; exact hj, F.nx _ _ _ _ q ⟨Hd, ps, S3.pop.2.pop.2.pop.2.write e1 hn (dpa_set (pd_ok S3.pop.2.pop.2.pop.1 hk) _ e3)⟩⟩
/-- a, b, c, .. = e, f, g, .. by a tuple -/
def gNs : List Nat → TGs
  | [] => gNil
  | i :: r => gCons (gName i) (gNs r)
def setAll (m : Env') : List Nat → List Knd → Env'
  | i :: r, k :: ks => setAll (m.set i (some k)) r ks
  | _, _ => m
theorem store_all : ∀ {ks : List Knd} {ys : List V} (is : List Nat) {m : Env'} {σ : L2.St} {Q : L2.St → Hp → Prop}, is.length = ks.length → Paired (KOk K (port He Hd) Hd ps) ys ks → SB K He Fr Hd ps m ow ts σ xs H →
    (∀ σ', SB K He Fr Hd ps (setAll m is ks) ow ts σ' xs H → Q σ' H) → gNs is ys σ H Q
  | [], _, [], _, _, _, _, .nil, S, q => ⟨rfl, q _ S⟩
  | k :: ks, _, i :: is, _, _, _, hl, .cons (a := y) h t, S, q => ⟨y, _, rfl, store_all is (by simpa using hl) t (S.store h i) q⟩
  | [], _, _ :: _, _, _, _, hl, _, _, _ => by simp at hl
  | _ :: _, _, [], _, _, _, hl, _, _, _ => by simp at hl
theorem ss_tup (is : List Nat) (h : EA K ar m ow ks ow1) (hl : is.length = ks.length) (hz : ks.length ≤ 100) (q : P.nx (setAll m is ks) ow1) : SS K (tAsg (tTup ar) (gTup K is.length (gNs is))) m ow P := fun He Fr ts σ xs H D S F =>
  h He Fr ts σ xs H _ S fun ys H1 hyl ⟨Hd, ps, S0⟩ => by
    obtain ⟨hp, S1⟩ := S0.args hyl
    refine ⟨by rw [hyl, sizeLine_eq]; omega, fun p hpn => ⟨p, ys, rfl, .inl (.inl upd_same), by rw [hyl, hl], ?_⟩⟩
    have e : Same H1 (upd H1 p (.tup ys)) := fun a o q => by rw [upd_ne (ne_of_none q hpn)]; exact q
    exact store_all is hl hp (S1.grow e) fun σ' S' => F.nx _ _ _ _ q ⟨Hd, ps, S'⟩
end
end
end LD

/-! Promises of defs as data; their calls and their bodies. -/
namespace LD
open PySem PySem.Spec PyProof.Rows L2

/-- what may be handed out: tuples, and what is new -/
def Frs (H Hf H' : Hp) : Prop := Same Hf H' ∧ ∀ a o, Hf a = some o → tupy o = true ∨ H a = none
/-- a result: a list is a new one -/
def Rs (K : PySem.W.Frag) (H H' Hf : Hp) (x : V) : PyData → Prop
  | .list ds => ∃ p vs, x = .ref p ∧ H p = none ∧ Hf p = none ∧ H' p = some (.lst vs) ∧ DpAll K Hf vs ds
  | d => Dp K Hf x d
/-- a def that changes nothing: from data to data -/
def spP {α : Type} (args : α → List PyData) (pre : α → Prop) (out : α → PyData) (K : PySem.W.Frag) : Sp := fun vs H Q _ => ∃ a, DpAll K H vs (args a) ∧ pre a ∧ ∀ x H' Hf, Same H H' → Frs H Hf H' → Rs K H H' Hf x (out a) → Q x H'
/-- a def that changes the list of ints it is given first -/
def spM {α : Type} (inp : α → List Int) (args : α → List PyData) (pre : α → Prop) (out : α → PyData) (outp : α → List Int) (K : PySem.W.Frag) : Sp := fun vs H Q _ => ∃ a p rest, vs = .ref p :: rest ∧ H p = some (.lst ((inp a).map V.int)) ∧ DpAll K (hid H p) rest (args a) ∧ pre a ∧
  ∀ x H' Hf, Same (hid H p) H' → H' p = some (.lst ((outp a).map V.int)) → Frs H Hf H' → Rs K H H' Hf x (out a) → Q x H'
def resK (b : Bool) (ow : List OC) : PyData → Knd
  | .list ds => newK b ow ds
  | d => kd d
def resO (b : Bool) (ow : List OC) : PyData → List OC
  | .list ds => newO b ow ds
  | _ => ow
/-- what a return must hold -/
def retOk (ow : List OC) (k : Knd) : PyData → Prop
  | .list ds => ∃ n, k = .own n ∧ ow[n]? = some (.lst ds)
  | d => pd k = some d
def mst (N : List Str) (ds : List PyData) : Env' := ds.map (fun d => some (ka d)) ++ List.replicate (N.length - ds.length) none
def Pret (d : PyData) : Post := { nx := fun _ _ => d = .none, rt := fun k ow => retOk ow k d }

section
variable {K : PySem.W.Frag} {He Fr Hd H H' Hf : Hp} {ps : List Addr} {m : Env'} {ow ow1 ow2 : List OC} {ts : List Knd} {σ : L2.St} {xs : List V} {k : Knd} {ks : List Knd} {x : V} {d : PyData} {α : Type} {args : α → List PyData} {pre : α → Prop} {out : α → PyData} {inp outp : α → List Int} {ar : TA} {E : XK}
theorem frs_ext (S : SB K He Fr Hd ps m ow ts σ xs H) (e : Same H H') (f : Frs H Hf H') : ∃ Hd', SB K He Fr Hd' ps m ow ts σ xs H' ∧ Same Hd Hd' ∧ Same Hf (port He Hd') ∧ (∀ p, H p = none → Hf p = none → Hd' p = none) := S.ext e f.1 f.2
/-- a result is taken in -/
theorem SB.res (b : Bool) (S : SB K He Fr Hd ps m ow ts σ xs H) (e : Same H H') (f : Frs H Hf H') (r : Rs K H H' Hf x d) : SA K He Fr m (resO b ow d) (resK b ow d :: ts) σ (x :: xs) H' := by
  obtain ⟨Hd', S', _, e2, e3⟩ := frs_ext S e f
  have other : ∀ d, Dp K Hf x d → resO b ow d = ow → KOk K (port He Hd') Hd' ps x (resK b ow d) → SA K He Fr m (resO b ow d) (resK b ow d :: ts) σ (x :: xs) H' := fun d h e1 h2 => by
    rw [e1]
    exact ⟨Hd', ps, S'.push h2⟩
  cases d with
  | list ds =>
    obtain ⟨p, vs, rfl, h1, h2, h3, h4⟩ := r
    have nD := e3 p h1 h2
    have nP : p ∉ ps ++ kids ow := fun h => by obtain ⟨o, q⟩ := S.inH h; rw [h1] at q; cases q
    have nF : Fr p = none := S.noF h1
    cases b with
    | false => exact ⟨_, _, S'.pushOwn h3 nD nF nP (dpa_mono e2 h4)⟩
    | true =>
      -- without p, then p as data
      have Sh : SB K He Fr Hd' ps m ow ts σ xs (hid H' p) := by
        refine ⟨S'.eh, fun a o h => ?_, fun a o h => ?_, S'.fd, S'.fk, S'.nk, S'.pl, fun n q c hq hc => ?_, S'.sv, S'.tv⟩
        · rw [hid_ne (fun z => by rw [z, nD] at h; cases h)]; exact S'.dh _ _ h
        · rw [hid_ne (fun z => by rw [z, nF] at h; cases h)]; exact S'.fh _ _ h
        · have hn : q ≠ p := fun z => nP (by rw [← z]; exact List.mem_append_left _ (List.mem_of_getElem? hq))
          have q0 := S'.ok n q c hq hc
          cases c with
          | dead => exact q0.imp fun o h => by rw [hid_ne hn]; exact h
          | lst ds => exact ⟨q0.1, q0.2.imp fun vs h => ⟨by rw [hid_ne hn]; exact h.1, h.2⟩⟩
          | dic ds => exact ⟨q0.1, q0.2.imp fun vs h => ⟨by rw [hid_ne hn]; exact h.1, h.2⟩⟩
          | ldic od us ds => exact ⟨q0.1, by rw [hid_ne hn]; exact q0.2.1, q0.2.2⟩
          | gen φ ks => exact ⟨q0.1, q0.2.imp fun vs h => ⟨by rw [hid_ne hn]; exact h.1, h.2⟩⟩
          | tpl ks => exact q0.imp fun vs h => ⟨by rw [hid_ne hn]; exact h.1, h.2⟩
          | jl n => exact ⟨q0.1, q0.2.imp fun vs h => ⟨by rw [hid_ne hn]; exact h.1, h.2⟩⟩
          | tr qs lss => exact ⟨q0.1, by rw [hid_ne hn]; exact q0.2.1, q0.2.2.1, prd_mm q0.2.2.2 fun x hx k h => h.imp fun vs h => ⟨by rw [hid_ne (fun z => nP (by rw [← z]; exact List.mem_append_right _ (kids_mem hc hx)))]; exact h.1, h.2⟩⟩
      have := Sh.made true hid_at (dpa_mono e2 h4)
      rwa [upd_hid h3] at this
  | none => exact other _ r rfl (kd_ok (dp_mono e2 r))
  | bool _ => exact other _ r rfl (kd_ok (dp_mono e2 r))
  | int _ => exact other _ r rfl (kd_ok (dp_mono e2 r))
  | str _ => exact other _ r rfl (kd_ok (dp_mono e2 r))
  | tuple _ => exact other _ r rfl (kd_ok (dp_mono e2 r))
  | dict _ => exact other _ r rfl (kd_ok (dp_mono e2 r))
/-- a call of a def that changes nothing -/
theorem ee_call (b : Bool) (a : α) (h : EA K ar m ow ks ow1) (ha : ads ow1 ks = some (args a)) (hp : pre a) : EE K (tCall (spP args pre out K) [] E ar) m ow (resK b ow1 (out a)) (resO b ow1 (out a)) := fun He Fr ts σ xs H Q S q =>
  h He Fr ts σ xs H _ S fun ys H1 hl ⟨Hd, ps, S1⟩ => by
    obtain ⟨h1, S2⟩ := S1.args hl
    exact ⟨a, by rw [List.append_nil]; exact ads_ok S2 h1 ha, hp, fun x H' Hf e f r => q _ _ (S2.res b e f r)⟩
/-- without the n-th object of one's own -/
def adx (n : Nat) (ow : List OC) (k : Knd) : Option PyData := match k with
  | .own j => if j = n then none else ad ow (.own j)
  | k => ad ow k
def adxs (n : Nat) (ow : List OC) : List Knd → Option (List PyData)
  | [] => some []
  | k :: r => match adx n ow k, adxs n ow r with
    | some d, some ds => some (d :: ds)
    | _, _ => none
theorem adx_ok {n : Nat} {p : Addr} (S : SB K He Fr Hd ps m ow ts σ xs H) (hp : ps[n]? = some p) (nD : Hd p = none) (h : KOk K (port He Hd) Hd ps x k) (e : adx n ow k = some d) : Dp K (hid H p) x d := by
  have hs : Same Hd (hid H p) := fun a o q => by rw [hid_ne (fun z => by rw [z, nD] at q; cases q)]; exact S.dh _ _ q
  cases k with
  | v y => cases (show x = y from h); exact sd_ok e
  | dat d' => simp only [adx, ad, Option.some.injEq] at e; subst e; exact dp_mono ((port_sub _ _).trans hs) h
  | arg d' => simp only [adx, ad, Option.some.injEq] at e; subst e; exact dp_mono hs h
  | own j =>
    simp only [adx] at e
    split at e
    · cases e
    · rename_i hj
      simp only [ad] at e
      split at e
      · rename_i ds q
        simp only [Option.some.injEq] at e
        subst e
        obtain ⟨r, vs, hr, rfl, _, h2, h3⟩ := S.own h q
        have hne : r ≠ p := S.apart hp hr (fun z => hj z.symm)
        exact .lst (.inl (.inl (by rw [hid_ne hne]; exact h2))) (dpa_mono ((port_sub _ _).trans hs) h3)
      · rename_i qs lss q
        simp only [Option.some.injEq] at e
        subst e
        obtain ⟨r, hr, rfl⟩ := h
        have hne : r ≠ p := S.apart hp hr (fun z => hj z.symm)
        obtain ⟨_, h2, _, h4⟩ := S.ok _ r _ hr q
        exact .lst (.inl (.inl (by rw [hid_ne hne]; exact h2))) (tr_dpa (fun q' hq vs hv => by rw [hid_ne (S.kidNe (List.mem_of_getElem? hp) (kids_mem q hq))]; exact hv) ((port_sub _ _).trans hs) h4)
      · cases e
theorem adxs_ok {n : Nat} {p : Addr} (S : SB K He Fr Hd ps m ow ts σ xs H) (hp : ps[n]? = some p) (nD : Hd p = none) : ∀ {ks : List Knd} {ys : List V} {ds : List PyData}, Paired (KOk K (port He Hd) Hd ps) ys ks → adxs n ow ks = some ds → DpAll K (hid H p) ys ds
  | _, _, _, .nil, e => by simp only [adxs, Option.some.injEq] at e; subst e; exact .nil
  | k :: r, _, _, .cons h t, e => by
    simp only [adxs] at e
    split at e
    · rename_i d ds h1 h2
      simp only [Option.some.injEq] at e
      subst e
      exact .cons (adx_ok S hp nD h h1) (adxs_ok S hp nD t h2)
    · cases e
/-- all but p grows, p is changed -/
theorem SB.poke {n : Nat} {p : Addr} {vs : List V} {ds ds0 : List PyData} (S : SB K He Fr Hd ps m ow ts σ xs H) (hp : ps[n]? = some p) (hn : ow[n]? = some (.lst ds0)) (e : Same (hid H p) H') (h : H' p = some (.lst vs)) (hd : DpAll K (port He Hd) vs ds) :
    SB K He Fr Hd ps m (ow.set n (.lst ds)) ts σ xs H' := by
  have q0 := S.ok n p _ hp hn
  have Sh : Same Hd (hid H p) := fun a o q => by rw [hid_ne (fun z => by rw [z, q0.1] at q; cases q)]; exact S.dh _ _ q
  have Fh : Same Fr (hid H p) := fun a o q => by rw [hid_ne (fun z => by rw [z, S.fp p (List.mem_of_getElem? hp)] at q; cases q)]; exact S.fh _ _ q
  have ek : kids (ow.set n (.lst ds)) = kids ow := kids_set hn rfl
  refine ⟨S.eh, Sh.trans e, Fh.trans e, S.fd, by rw [ek]; exact S.fk, by rw [ek]; exact S.nk, by rw [List.length_set]; exact S.pl, fun j r c hr hc => ?_, S.sv, S.tv⟩
  by_cases z : n = j
  · subst z
    rw [hp] at hr
    cases hr
    rw [List.getElem?_set_self (List.getElem?_eq_some_iff.mp hn).1] at hc
    cases hc
    exact ⟨q0.1, vs, h, hd⟩
  · rw [List.getElem?_set_ne z] at hc
    have hne := S.apart hp hr z
    have q1 := S.ok j r c hr hc
    cases c with
    | dead => exact q1.imp fun o h => e _ _ (by rw [hid_ne hne]; exact h)
    | lst ds1 => exact ⟨q1.1, q1.2.imp fun us h => ⟨e _ _ (by rw [hid_ne hne]; exact h.1), h.2⟩⟩
    | dic ds1 => exact ⟨q1.1, q1.2.imp fun us h => ⟨e _ _ (by rw [hid_ne hne]; exact h.1), h.2⟩⟩
    | ldic od us ds1 => exact ⟨q1.1, e _ _ (by rw [hid_ne hne]; exact q1.2.1), q1.2.2⟩
    | gen φ ks => exact ⟨q1.1, q1.2.imp fun us h => ⟨e _ _ (by rw [hid_ne hne]; exact h.1), h.2⟩⟩
    | tpl ks => exact q1.imp fun us h => ⟨e _ _ (by rw [hid_ne hne]; exact h.1), h.2⟩
    | jl n => exact ⟨q1.1, q1.2.imp fun us h => ⟨e _ _ (by rw [hid_ne hne]; exact h.1), h.2⟩⟩
    | tr qs lss => exact ⟨q1.1, e _ _ (by rw [hid_ne hne]; exact q1.2.1), q1.2.2.1, prd_mm q1.2.2.2 fun x hx k h => h.imp fun vs h => ⟨e _ _ (by rw [hid_ne (S.kidNe (List.mem_of_getElem? hp) (kids_mem hc hx))]; exact h.1), h.2⟩⟩
/-- a call of a def that changes its first list -/
theorem ee_callM (b : Bool) (a : α) (n : Nat) (h : EA K ar m ow (.own n :: ks) ow1) (hn : ow1[n]? = some (.lst ((inp a).map PyData.int))) (ha : adxs n ow1 ks = some (args a)) (hp : pre a) :
    EE K (tCall (spM inp args pre out outp K) [] E ar) m ow (resK b (ow1.set n (.lst ((outp a).map PyData.int))) (out a)) (resO b (ow1.set n (.lst ((outp a).map PyData.int))) (out a)) := fun He Fr ts σ xs H Q S q =>
  h He Fr ts σ xs H _ S fun ys H1 hl ⟨Hd, ps, S1⟩ => by
    obtain ⟨h1, S2⟩ := S1.args hl
    rw [List.append_nil]
    cases h1 with
    | cons hy ht =>
    obtain ⟨p, vs, e1, rfl, e2, e3, e4⟩ := S2.own hy hn
    rw [of_dpa_ints e4] at e3
    refine ⟨a, p, _, rfl, e3, adxs_ok S2 e1 e2 ht ha, hp, fun x H' Hf e hq f r => q _ _ ?_⟩
    -- behind the call: p changed first, then the rest grows
    have hpn : Hf p = none := by
      cases z : Hf p with
      | none => rfl
      | some o =>
        rcases f.2 p o z with t | t
        · have := f.1 p o z
          rw [hq] at this
          cases this
          cases t
        · rw [e3] at t; cases t
    have S3 := S2.write (vs := (outp a).map V.int) e1 hn (dpa_ints (outp a))
    have sm : Same (upd H1 p (.lst ((outp a).map V.int))) H' := fun c o hc => by
      by_cases z : c = p
      · subst z; rw [upd_same] at hc; cases hc; exact hq
      · rw [upd_ne z] at hc; exact e _ _ (by rw [hid_ne z]; exact hc)
    have f' : Frs (upd H1 p (.lst ((outp a).map V.int))) Hf H' := ⟨f.1, fun c o hc => (f.2 c o hc).imp id fun t => by
      have z : c ≠ p := fun z => by rw [z, hpn] at hc; cases hc
      rw [upd_ne z]; exact t⟩
    refine S3.res b sm f' ?_
    generalize out a = d at r
    cases d with
    | list ds =>
      obtain ⟨r0, us, a1, a2, a3, a4, a5⟩ := r
      refine ⟨r0, us, a1, ?_, a3, a4, a5⟩
      rw [upd_ne (fun z => by rw [z, e3] at a2; cases a2)]
      exact a2
    | none => exact r
    | bool _ => exact r
    | int _ => exact r
    | str _ => exact r
    | tuple _ => exact r
    | dict _ => exact r

/-! ### bodies -/
theorem start_prd {N : List Str} {Hq : Hp} : ∀ {vs : List V} {ds : List PyData}, DpAll K Hd vs ds → Paired (SlotOk K Hq Hd ps) (vs.map some) (ds.map fun d => some (ka d))
  | _, _, .nil => .nil
  | _, _, .cons h t => .cons ⟨_, rfl, ka_ok h⟩ (start_prd (N := N) t)
theorem repl_prd {Hq : Hp} : ∀ n : Nat, Paired (SlotOk K Hq Hd ps) (List.replicate n none) (List.replicate n none)
  | 0 => .nil
  | n + 1 => .cons trivial (repl_prd n)
theorem start_ok {N : List Str} {Hq : Hp} {vs : List V} {ds : List PyData} (h : DpAll K Hd vs ds) : Paired (SlotOk K Hq Hd ps) (start N vs) (mst N ds) := by
  unfold L2.start mst
  rw [dpa_len h]
  exact prd_app (start_prd (N := N) h) (repl_prd _)
theorem ret_ok (S : SB K He Fr Hd ps m ow (k :: ts) σ (x :: xs) H') (hH : ∀ a o, He a = none → Hd a = some o → tupy o = true ∨ H a = none) (h0 : ∀ p o, H' p = some o → Hd p = none → p ∈ ps → H p = none) (h : retOk ow k d) : Rs K H H' (port He Hd) x d := by
  have hk := S.pop.1
  cases d with
  | list ds =>
    obtain ⟨n, rfl, hn⟩ := h
    obtain ⟨p, vs, e1, rfl, e2, e3, e4⟩ := S.own hk hn
    refine ⟨p, vs, rfl, h0 p _ e3 e2 (List.mem_of_getElem? e1), ?_, e3, e4⟩
    cases q : port He Hd p with
    | none => rfl
    | some o => rw [port_sub _ _ _ _ q] at e2; cases e2
  | none => exact pd_ok hk h
  | bool _ => exact pd_ok hk h
  | int _ => exact pd_ok hk h
  | str _ => exact pd_ok hk h
  | tuple _ => exact pd_ok hk h
  | dict _ => exact pd_ok hk h
theorem rs_non (h : d = .none) : Rs K H H' Hf .non d := by
  subst h
  exact Dp.non
/-- the body of a def that changes nothing -/
theorem fin_P {t : TS} {N : List Str} {vs : List V} {Q : VK} (h : spP args pre out K vs H Q E) (hS : ∀ a, pre a → SS K t (mst N (args a)) [] (Pret (out a))) : t { nx := fun _ H' => Q .non H', rt := Q } (start N vs) H := by
  obtain ⟨a, hd, hp, q⟩ := h
  have S0 : SB K H (fun _ => none) H [] (mst N (args a)) [] [] (start N vs) [] H :=
    ⟨Same.refl H, Same.refl H, fun _ _ z => (by cases z), fun _ _ z => (by cases z), fun _ z => (by cases z), List.nodup_nil, rfl, fun _ _ _ z => (by cases z), start_ok hd, .nil⟩
  refine hS a hp H _ [] _ [] H _ ⟨_, _, S0⟩ ⟨fun m ow σ H' e ⟨Hd, ps, S⟩ => ?_, fun k m ow σ x H' hr ⟨Hd, ps, S⟩ => ?_, fun _ _ _ _ z => z.elim, fun _ _ _ _ z => z.elim, fun _ z => (by cases z)⟩
  · exact q _ _ (fun _ => none) (S.eh.trans S.dh) ⟨fun _ _ z => (by cases z), fun _ _ z => (by cases z)⟩ (rs_non e)
  · refine q _ _ (port H Hd) (S.eh.trans S.dh) ⟨S.sub, fun c o hc => (of_port hc).2⟩ (ret_ok S (fun c o h1 _ => .inr h1) (fun p o _ h2 _ => ?_) hr)
    cases z : H p with
    | none => rfl
    | some u => rw [S.eh _ _ z] at h2; cases h2
/-- the body of a def that changes its first list; there slot 0 holds one's own object 0 -/
def mstM (N : List Str) (ds : List PyData) : Env' := some (.own 0) :: ds.map (fun d => some (ka d)) ++ List.replicate (N.length - (ds.length + 1)) none
def PretM (d : PyData) (ns : List Int) : Post := { nx := fun _ ow => d = .none ∧ ow[0]? = some (.lst (ns.map PyData.int)), rt := fun k ow => retOk ow k d ∧ ow[0]? = some (.lst (ns.map PyData.int)) ∧ k ≠ .own 0, n0 := 1 }
theorem fin_M {t : TS} {N : List Str} {vs : List V} {Q : VK} (h : spM inp args pre out outp K vs H Q E) (hS : ∀ a, pre a → SS K t (mstM N (args a)) [.lst ((inp a).map PyData.int)] (PretM (out a) (outp a))) : t { nx := fun _ H' => Q .non H', rt := Q } (start N vs) H := by
  obtain ⟨a, p, rest, rfl, hH, hd, hp, q⟩ := h
  have S0 : SB K (hid H p) (fun _ => none) (hid H p) [p] (mstM N (args a)) [.lst ((inp a).map PyData.int)] [] (start N (.ref p :: rest)) [] H := by
    refine ⟨Same.refl _, hid_sub H p, fun _ _ z => (by cases z), fun _ _ z => (by cases z), fun _ _ => rfl, by simp [kids, kidC], rfl, fun n r c h1 h2 => ?_, ?_, .nil⟩
    · match n, h1, h2 with
      | 0, h1, h2 =>
        cases h1
        cases h2
        exact ⟨hid_at, _, hH, dpa_ints _⟩
      | _ + 1, h1, _ => cases h1
    · unfold L2.start mstM
      rw [List.length_cons, dpa_len hd]
      exact prd_app (.cons ⟨_, rfl, p, rfl, rfl⟩ (start_prd (N := N) hd)) (repl_prd _)
  -- the object 0 stays at p: said by a temporary
  have S1 : SA K (hid H p) (fun _ => none) (mstM N (args a)) [.lst ((inp a).map PyData.int)] [.own 0] (start N (.ref p :: rest)) [.ref p] H := ⟨_, _, S0.push ⟨p, rfl, rfl⟩⟩
  have at0 : ∀ {m : Env'} {ow : List OC} {ts : List Knd} {σ : L2.St} {xs : List V} {Hd H' : Hp} {ps : List Addr}, SB K (hid H p) (fun _ => none) Hd ps m ow (.own 0 :: ts) σ (.ref p :: xs) H' → ow[0]? = some (.lst ((outp a).map PyData.int)) → ps[0]? = some p ∧ Hd p = none ∧ H' p = some (.lst ((outp a).map V.int)) := by
    intro m ow ts σ xs Hd H' ps S e
    obtain ⟨r, vs, e1, e2, e3, e4, e5⟩ := S.own S.pop.1 e
    cases e2
    rw [of_dpa_ints e5] at e4
    exact ⟨e1, e3, e4⟩
  have fr : ∀ {Hd H' : Hp}, Same Hd H' → Hd p = none → Same (port (hid H p) Hd) H' ∧ ∀ c o, port (hid H p) Hd c = some o → tupy o = true ∨ H c = none := by
    intro Hd H' h1 h2
    refine ⟨(port_sub _ _).trans h1, fun c o hc => ?_⟩
    obtain ⟨a1, a2⟩ := of_port hc
    refine a2.imp id fun z => ?_
    by_cases e : c = p
    · rw [e, h2] at a1; cases a1
    · rwa [hid_ne e] at z
  refine hS a hp _ _ _ _ _ H _ S1 ⟨fun m ow σ H' e ⟨Hd, ps, S⟩ => ?_, fun k m ow σ x H' hr ⟨Hd, ps, S⟩ => ?_, fun _ _ _ _ z => z.elim, fun _ _ _ _ z => z.elim, fun k hk => by rw [List.mem_singleton.mp hk]; exact Nat.zero_lt_one⟩
  · obtain ⟨e1, e2, e3⟩ := at0 S e.2
    exact q _ _ _ (S.eh.trans S.dh) e3 (fr S.dh e2) (rs_non e.1)
  · obtain ⟨hk, S'⟩ := S.pop
    obtain ⟨e1, e2, e3⟩ := at0 S' hr.2.1
    refine q _ _ _ (S.eh.trans S.dh) e3 (fr S.dh e2) ?_
    have hR := hr.1
    generalize out a = d at hR ⊢
    cases d with
    | list ds =>
      obtain ⟨n, rfl, hn⟩ := hR
      obtain ⟨r, vs, g1, rfl, g2, g3, g4⟩ := S'.own hk hn
      have hne : r ≠ p := S'.apart e1 g1 (fun z => hr.2.2 (by rw [z]))
      refine ⟨r, vs, rfl, ?_, ?_, g3, g4⟩
      · cases z : H r with
        | none => rfl
        | some u => rw [S.eh _ _ (by rw [hid_ne hne]; exact z)] at g2; cases g2
      · cases z : port (hid H p) Hd r with
        | none => rfl
        | some u => rw [port_sub _ _ _ _ z] at g2; cases g2
    | none => exact pd_ok hk hR
    | bool _ => exact pd_ok hk hR
    | int _ => exact pd_ok hk hR
    | str _ => exact pd_ok hk hR
    | tuple _ => exact pd_ok hk hR
    | dict _ => exact pd_ok hk hR
end

/-! ### a def of the text -/
section
variable {P : Program} {w : World} {K : PySem.W.Frag} {mg : Str → Option Value} {base : Heap} {x qual : Str} {st : Stmt} {f : Addr} {fd : FuncData} {N ps : List Str} {k : Nat}
theorem ok_P {α : Type} {args : α → List PyData} {pre : α → Prop} {out : α → PyData} (F : Fun K x qual st f fd) (S : FnScope N ps (defScope st)) (hl : ∀ a, (args a).length = ps.length)
    (body : ∀ (cdv : Value) (A : Around) (outer : List Env) (s : Shared) (H : Hp) (E : XK), Rm k (A.deeper (envOfC qual (defScope st) s.heap.objs.size f cdv)) →
      ∃ t, PSs (cxOf CX0 P w K mg base N qual (defScope st) f cdv A outer s H E).nox (defBody st) t ∧ ∀ a, pre a → SS K t (mst N (args a)) [] (Pret (out a))) : FnG P w K mg base CX0 (k + 1) f fd ps (spP args pre out K) := by
  refine fnG_of F S (fun vs H Q E h => ?_) fun cdv A outer s H vs Q E hr h => ?_
  · obtain ⟨a, h1, _⟩ := h
    rw [dpa_len h1, hl]
  · obtain ⟨t, h1, h2⟩ := body cdv A outer s H E hr
    exact ⟨t, h1.nox, fin_P h h2⟩
theorem ok_M {α : Type} {inp outp : α → List Int} {args : α → List PyData} {pre : α → Prop} {out : α → PyData} (F : Fun K x qual st f fd) (S : FnScope N ps (defScope st)) (hl : ∀ a, (args a).length + 1 = ps.length)
    (body : ∀ (cdv : Value) (A : Around) (outer : List Env) (s : Shared) (H : Hp) (E : XK), Rm k (A.deeper (envOfC qual (defScope st) s.heap.objs.size f cdv)) →
      ∃ t, PSs (cxOf CX0 P w K mg base N qual (defScope st) f cdv A outer s H E).nox (defBody st) t ∧ ∀ a, pre a → SS K t (mstM N (args a)) [.lst ((inp a).map PyData.int)] (PretM (out a) (outp a))) : FnG P w K mg base CX0 (k + 1) f fd ps (spM inp args pre out outp K) := by
  refine fnG_of F S (fun vs H Q E h => ?_) fun cdv A outer s H vs Q E hr h => ?_
  · obtain ⟨a, p, rest, rfl, _, h1, _⟩ := h
    rw [List.length_cons, dpa_len h1, hl]
  · obtain ⟨t, h1, h2⟩ := body cdv A outer s H E hr
    exact ⟨t, h1.nox, fin_M h h2⟩
end
end LD

/-! max(xs, default=d) of whole numbers; powers; len(set(xs)). -/
namespace LD
open PySem PySem.Spec PyProof.Rows L2

theorem mx_args (a v : Value) : argsOk "max" ⟨[a], [(Str.ofString "default", v)]⟩ := by unfold argsOk; kernel_rfl
section
variable {prog : Program} {w : World} {A : Around} {R : Result → Shared → Prop} {I S : Addr} {fp wr : List Addr} {n : Nat} {P : Nat → Value → Prop} {St : Nat → Heap → Prop} {kw : List (Str × Value)}
/-- the walk of max, the best so far being b -/
theorem mx_loop (W : Walks prog w A.in1 I fp wr n P St) (val : Nat → Int) (hv : ∀ i v, P i v → ∃ t, v = .int (val i) t) (notIn : S ∉ fp) :
    ∀ (k j : Nat) (s : Shared) (b : Int) (tb tb' : Tok) (c : Nat), n - j = k → j ≤ n → St j s.heap → s.heap.get? S = some { cls := .type "list", dict := none, data := .seq #[.int b tb, .int b tb'] c, slots := #[] } →
    (∀ M t h' tk, (M = b ∨ ∃ i, j ≤ i ∧ i < n ∧ M = val i) → b ≤ M → (∀ i, j ≤ i → i < n → val i ≤ M) → (∀ a o, a ∉ wr → a ≠ S → s.heap.get? a = some o → h'.get? a = some o) → R (.ok (.ret (.int M t))) { s with heap := h', toks := tk }) →
    codeAny (model prog w) A (.builtin "max.loop" ⟨[.ref I, .none, .ref S], kw⟩) R s := by
  have sw : S ∉ wr := fun h => notIn (W.sub _ h)
  have nm : (toString "max" ++ toString ".loop" : String) = "max.loop" := by decide
  intro k
  induction k with
  | zero =>
    intro j s b tb tb' c hk hj st hS hR
    obtain rfl : j = n := by omega
    refine codeAny_builtin PySem.F.entry_max_loop ?_
    rw [Around.under_plainId PySem.F.plain_max_loop _]
    show wpAny _ A.in1 (seqItems? (Value.ref S) >>= _) _ _ s
    refine wpAny_bind (wpAny_seqItems hS rfl ?_)
    show wpAny _ A.in1 (tryCatch (pyNext (Value.ref I)) _ >>= _) _ _ s
    refine wpAny_bind (wpAny_tryCatch (W.done s _ _ st fun h' tk keep => ?_))
    show wpAny _ A.in1 (updateSeq S (fun _ => #[]) >>= _) _ _ _
    refine wpAny_bind (wpAny_updateSeq (keep S _ sw hS) rfl (wpAny_bind (wpAny_letGo (wpAny_pure ?_))))
    exact hR b tb _ tk (.inl rfl) (Int.le_refl _) (fun i h1 h2 => by omega) fun a o h1 h2 e => (Heap.get?_update_other _ _ (Ne.symm h2)).trans (keep a o h1 e)
  | succ k ih =>
    intro j s b tb tb' c hk hj st hS hR
    have lt : j < n := by omega
    refine codeAny_builtin PySem.F.entry_max_loop ?_
    rw [Around.under_plainId PySem.F.plain_max_loop _]
    show wpAny _ A.in1 (seqItems? (Value.ref S) >>= _) _ _ s
    refine wpAny_bind (wpAny_seqItems hS rfl ?_)
    show wpAny _ A.in1 (tryCatch (pyNext (Value.ref I)) _ >>= _) _ _ s
    refine wpAny_bind (wpAny_tryCatch (W.item j s _ _ lt st fun v h' tk hP st' keep => ?_))
    obtain ⟨t, rfl⟩ := hv j v hP
    have hS2 := keep S _ sw hS
    show wpAny _ A.in1 (tryCatch (holding [Value.int (val j) t, Value.int (val j) t] (richCompare .Gt (Value.int (val j) t) (Value.int b tb') >>= _)) _ >>= _) _ _ _
    refine wpAny_bind (wpAny_tryCatch (wpAny_holding (wpAny_bind (CmpOf.ints_gt (P := fun i v => v = if i = 0 then Value.int (val j) t else Value.int b tb') (fun i => if i = 0 then val j else b)
      (fun i v e => by by_cases z : i = 0 <;> simp only [z, if_true, if_false] at e ⊢ <;> exact ⟨_, e⟩) 0 1 _ _ _ _ _ rfl rfl ?_))))
    refine wpAny_bind (wpAny_holding (wpAny_truthy_bool ?_))
    refine wpAny_bind (wpAny_letGo (wpAny_pure ?_))
    have e01 : ((fun i j_1 : Nat => decide ((if i = 0 then val j else b) > (if j_1 = 0 then val j else b))) 0 1) = decide (val j > b) := rfl
    rw [e01]
    by_cases g : val j > b
    · rw [decide_eq_true g]
      simp only [if_true]
      refine wpAny_bind (wpAny_updateSeq hS2 rfl (wpAny_bind (wpAny_letGo ?_)))
      rw [nm]
      refine wpAny_pure ⟨plainId_quiet PySem.F.plain_max_loop _, ih (j + 1) _ (val j) t t _ (by omega) lt (W.frame _ _ _ st' fun a ha o e => ?_) (Heap.get?_update_self _ hS2 rfl) fun M t' h2 tk2 e1 e2 e3 e4 => ?_⟩
      · exact (Heap.get?_update_other _ _ (fun h : S = a => notIn (by rw [h]; exact ha))).trans e
      · refine hR M t' h2 tk2 (.inr ?_) (by omega) (fun i a1 a2 => ?_) fun a o a1 a2 e => e4 a o a1 a2 ((Heap.get?_update_other _ _ (Ne.symm a2)).trans (keep a o a1 e))
        · rcases e1 with e1 | ⟨i, i1, i2, i3⟩
          · exact ⟨j, Nat.le_refl _, lt, e1⟩
          · exact ⟨i, by omega, i2, i3⟩
        · by_cases z : i = j
          · subst z; exact e2
          · exact e3 i (by omega) a2
    · rw [decide_eq_false g]
      simp only [Bool.false_eq_true, if_false]
      refine wpAny_bind (wpAny_letGo ?_)
      rw [nm]
      refine wpAny_pure ⟨plainId_quiet PySem.F.plain_max_loop _, ih (j + 1) _ b tb tb' c (by omega) lt st' hS2 fun M t' h2 tk2 e1 e2 e3 e4 => ?_⟩
      refine hR M t' h2 tk2 ?_ e2 (fun i a1 a2 => ?_) fun a o a1 a2 e => e4 a o a1 a2 (keep a o a1 e)
      · rcases e1 with e1 | ⟨i, i1, i2, i3⟩
        · exact .inl e1
        · exact .inr ⟨i, by omega, i2, i3⟩
      · by_cases z : i = j
        · subst z; omega
        · exact e3 i (by omega) a2
end
/-- the greatest of ns, d if there is none -/
def mxd (ns : List Int) (d : Int) : Int := match ns with
  | [] => d
  | n :: r => r.foldl (fun a b => if b > a then b else a) n
theorem fold_mx : ∀ (r : List Int) (n : Int), (r.foldl (fun a b => if b > a then b else a) n ∈ n :: r) ∧ ∀ x ∈ n :: r, x ≤ r.foldl (fun a b => if b > a then b else a) n
  | [], n => ⟨List.mem_cons_self .., fun x hx => by simp at hx; simp [hx]⟩
  | a :: r, n => by
    obtain ⟨h1, h2⟩ := fold_mx r (if a > n then a else n)
    have h0 := h2 _ (List.mem_cons_self ..)
    refine ⟨?_, fun x hx => ?_⟩
    · show r.foldl _ (if a > n then a else n) ∈ _
      rcases List.mem_cons.mp h1 with e | e
      · rw [e]
        split
        · exact List.mem_cons_of_mem _ (List.mem_cons_self ..)
        · exact List.mem_cons_self ..
      · exact List.mem_cons_of_mem _ (List.mem_cons_of_mem _ e)
    · show x ≤ r.foldl _ (if a > n then a else n)
      rcases List.mem_cons.mp hx with e | hx
      · subst e; split at h0 <;> rename_i hc <;> simp only [hc, if_true, if_false] <;> omega
      · rcases List.mem_cons.mp hx with e | hx
        · subst e; split at h0 <;> rename_i hc <;> simp only [hc, if_true, if_false] <;> omega
        · exact h2 x (List.mem_cons_of_mem _ hx)
theorem mxd_mem {ns : List Int} {d : Int} (h : ns ≠ []) : mxd ns d ∈ ns := by
  cases ns with
  | nil => exact absurd rfl h
  | cons n r => exact (fold_mx r n).1
theorem mxd_le {ns : List Int} {d : Int} {x : Int} (h : x ∈ ns) : x ≤ mxd ns d := by
  cases ns with
  | nil => cases h
  | cons n r => exact (fold_mx r n).2 x h
theorem mxd_eq {ns : List Int} {d M : Int} (h : M ∈ ns) (h2 : ∀ x ∈ ns, x ≤ M) : M = mxd ns d := Int.le_antisymm (mxd_le h) (h2 _ (mxd_mem (List.ne_nil_of_mem h)))
theorem max_dflt {prog : Program} {w : World} {A : Around} {E : Value → Shared → Prop} {s : Shared} {l : Addr} {its : List Value} {ns : List Int} {d : Int} {td : Tok} {Q : Value → Shared → Prop} (hh : A.handled = none) (hl : s.heap.IsList l its.toArray) (hi : IntsAre its ns)
    (h : ∀ h' tk t', (∀ b o, s.heap.get? b = some o → h'.get? b = some o) → Q (.int (mxd ns d) t') { s with heap := h', toks := tk }) : wpAny (model prog w) A (call (.builtin "max") [.ref l] [(Str.ofString "default", .int d td)]) Q E s := by
  have nm : (toString "max" ++ toString ".loop" : String) = "max.loop" := by decide
  obtain ⟨xs, e⟩ := hi.allInts.items
  have en : numsOf (intItems xs).toList = ns := by rw [← e]; exact hi.numsOf
  rw [nums_intItems] at en
  subst en
  rw [e] at hl
  refine kmk_tree PySem.F.kind_max PySem.F.plain_max PySem.F.entry_max (mx_args _ _) ?_
  show wpAny _ A.in1 (Builtin.Builtins.bindParams "max" ["key", "default"] 0 ⟨[], [(Str.ofString "default", .int d td)]⟩ >>= _) _ _ s
  refine wpAny_bind (wpAny_of_eq (show Builtin.Builtins.bindParams "max" ["key", "default"] 0 ⟨[], [(Str.ofString "default", .int d td)]⟩ = pure [none, some (.int d td)] from rfl) ?_)
  refine wpAny_bind (wpAny_pure ?_)
  refine wpAny_bind (iter_intList hl fun s₂ es st hfp hlI => ?_)
  have W := Walks.list (prog := prog) (w := w) (A := A.in1) hh s.heap.objs.size l hlI (intItems xs)
  have kp : ∀ {h' : Heap}, (∀ b o, b ∉ [s.heap.objs.size] → s₂.heap.get? b = some o → h'.get? b = some o) → ∀ b o, s.heap.get? b = some o → h'.get? b = some o := fun k => by subst es; exact old_kept k
  have sz : s.heap.objs.size < s₂.heap.objs.size := hfp _ (List.mem_cons_self ..)
  refine wpAny_bind (wpAny_newObj_type ?_)
  have newS : s₂.heap.objs.size ∉ [s.heap.objs.size, l] := fun hm => Nat.lt_irrefl _ (hfp _ hm)
  have st2 := W.frame 0 _ (s₂.heap.push { cls := .type "list", data := .seq #[] }) st fun b _ o e => Heap.get?_push_of_some _ e
  have hS : (s₂.heap.push { cls := .type "list", data := .seq #[] }).get? s₂.heap.objs.size = some { cls := .type "list", dict := none, data := .seq #[] 0, slots := #[] } := Heap.get?_push_size _ rfl
  have kp2 : ∀ {h' : Heap}, (∀ b o, b ∉ [s.heap.objs.size] → b ≠ s₂.heap.objs.size → (s₂.heap.push { cls := .type "list", data := .seq #[] }).get? b = some o → h'.get? b = some o) → ∀ b o, s.heap.get? b = some o → h'.get? b = some o :=
    fun k => kp fun b o h1 e => k b o h1 (Nat.ne_of_lt (Heap.lt_size e)) (Heap.get?_push_of_some _ e)
  have os2 : ∀ (h' : Heap) (tk : Nat), ({ s₂ with heap := h', toks := tk } : Shared) = { s with heap := h', toks := tk } := fun h' tk => by subst es; rfl
  have wrS : s₂.heap.objs.size ∉ [s.heap.objs.size] := fun hm => Nat.ne_of_gt sz (List.mem_singleton.mp hm)
  rw [nm]
  refine wpAny_pure ⟨plainId_quiet PySem.F.plain_max_loop _, ?_⟩
  have szI : (intItems xs).size = xs.size := by simp [intItems]
  rw [szI] at W
  refine codeAny_builtin PySem.F.entry_max_loop ?_
  rw [Around.under_plainId PySem.F.plain_max_loop _]
  show wpAny _ A.in1 (seqItems? (Value.ref s₂.heap.objs.size) >>= _) _ _ _
  refine wpAny_bind (wpAny_seqItems hS rfl ?_)
  show wpAny _ A.in1 (tryCatch (pyNext (Value.ref s.heap.objs.size)) _ >>= _) _ _ _
  by_cases hz : xs.size = 0
  · refine wpAny_bind (wpAny_tryCatch (W.done _ _ _ (hz ▸ st2) fun h' tk keep => ?_))
    show wpAny _ A.in1 (rule _ >>= _) _ _ _
    refine wpAny_bind (wpAny_rule (wpAny_pure ?_))
    have e0 : xs.toList.map (·.1) = [] := by rw [Array.eq_empty_of_size_eq_zero hz]; rfl
    have := h h' tk td (kp2 fun b o h1 _ e => keep b o h1 e)
    rw [e0] at this
    exact os2 h' tk ▸ this
  · refine wpAny_bind (wpAny_tryCatch (W.item 0 _ _ _ (by omega) st2 fun v h' tk hP st' keep => ?_))
    have vals : ∀ (i : Nat) (v : Value), (intItems xs)[i]? = some v → ∃ t, v = .int (numAt xs i) t := fun i v => intItems_at
    obtain ⟨t, rfl⟩ := vals 0 v hP
    have hS2 := keep _ _ wrS hS
    show wpAny _ A.in1 (updateSeq s₂.heap.objs.size (fun _ => #[Value.int (numAt xs 0) t, Value.int (numAt xs 0) t]) >>= _) _ _ _
    refine wpAny_bind (wpAny_updateSeq hS2 rfl ?_)
    rw [nm]
    refine wpAny_pure ⟨plainId_quiet PySem.F.plain_max_loop _, mx_loop W (numAt xs) vals newS _ 1 _ (numAt xs 0) t t _ rfl (by omega) (W.frame _ _ _ st' fun b hb o e => ?_) (Heap.get?_update_self _ hS2 rfl) fun M t' h2 tk2 e1 e2 e3 e4 => ?_⟩
    · exact (Heap.get?_update_other _ _ (fun hz : s₂.heap.objs.size = b => newS (by rw [hz]; exact hb))).trans e
    · have mem : ∀ i, i < xs.size → numAt xs i ∈ xs.toList.map (·.1) := fun i hi => by rw [numAt_eq]; exact PySem.getD_mem (by rw [List.length_map, Array.length_toList]; omega)
      have eM : M = mxd (xs.toList.map (·.1)) d := by
        refine mxd_eq ?_ fun x hx => ?_
        · rcases e1 with e1 | ⟨i, _, hi, e1⟩
          · rw [e1]; exact mem 0 (by omega)
          · rw [e1]; exact mem i hi
        · obtain ⟨j, hj, rfl⟩ := mem_getD hx
          rw [List.length_map, Array.length_toList] at hj
          rw [← numAt_eq]
          by_cases z : j = 0
          · subst z; exact e2
          · exact e3 j (by omega) hj
      rw [eM]
      exact os2 h2 tk2 ▸ h h2 tk2 t' (kp2 fun b o a1 a2 e => e4 b o a1 a2 ((Heap.get?_update_other _ _ (Ne.symm a2)).trans (keep b o a1 e)))

def rMxD (K : PySem.W.Frag) : List V → List V → Hp → VK → Prop := fun vs zs H Q => ∃ (a : Addr) (ns : List Int) (d : Int), vs = [.ref a] ∧ zs = [.int d] ∧ SqL K H a (ns.map V.int) ∧ Q (.int (mxd ns d)) H
theorem call_mxd {X : Cx} (hc : X.calm = true) : CallRK X (.builtin "max") [Str.ofString "default"] (rMxD X.K) := by
  intro pins s σ H vs zs us ws Q I r rz h
  obtain ⟨a, ns, d, rfl, rfl, hs, q⟩ := h
  obtain ⟨u, rfl, ru⟩ := vals1 r
  obtain rfl : u = Value.ref a := ru
  obtain ⟨z, rfl, t, rfl⟩ := vals1 rz
  obtain ⟨its, rv, hl, _⟩ := I.list hs
  exact max_dflt (I.ok.hd hc) hl.isList rv.ints fun h' tk t' hk => ⟨.int _, H, I.kept hk, ⟨_, rfl⟩, q⟩

/-! ### powers of great numbers -/
def CPw (i j : Int) : Prop := 0 ≤ j ∧ j ≤ 1000 ∧ i.natAbs < 2 ^ 100000
theorem op_pw {X : Cx} : OpR X (binaryOp .Pow) (rI CPw fun i j => .int (i ^ j.toNat)) := opI fun i j _ _ _ _ _ hc q => by
  obtain ⟨h0, h1, h2⟩ := hc
  refine pow_int h0 ?_ q
  have hb : Builtin.Int.intBits i ≤ 100000 := by
    have := PySem.Flt.log2_lt_of (by decide) h2
    unfold Builtin.Int.intBits
    split <;> omega
  clear h2
  have e1 : (Builtin.Int.intBits i : Int) * j ≤ 100000 * 1000 := by
    have h3 : (Builtin.Int.intBits i : Int) ≤ 100000 := Int.ofNat_le.mpr hb
    have h4 : (0 : Int) ≤ (Builtin.Int.intBits i : Int) := Int.natCast_nonneg _
    calc (Builtin.Int.intBits i : Int) * j ≤ (Builtin.Int.intBits i : Int) * 1000 := Int.mul_le_mul_of_nonneg_left h1 h4
      _ ≤ 100000 * 1000 := Int.mul_le_mul_of_nonneg_right h3 (by omega)
  have e2 : (100000 * 1000 : Int) ≤ 2 ^ 27 := by decide
  omega

section
variable {K : PySem.W.Frag} {m : Env'} {ow ow1 ow2 : List OC} {k : Knd} {ks zk : List Knd} {ar tk : TA} {te : TE} {fl : Bool} {d : Int} {ns : List Int}
theorem ee_mxd (h : EA K ar m ow [k] ow1) (hk : EA K tk m ow1 [.v (.int d)] ow2) (hs : seqOf ow2 k = some (fl, ns.map PyData.int)) : EE K (tCKw (rMxD K) ar tk) m ow (.v (.int (mxd ns d))) ow2 := fun He Fr ts σ xs H Q S q =>
  h He Fr ts σ xs H _ S fun ys H1 hl S1 => hk He Fr _ σ _ H1 _ S1 fun zs H2 hl2 ⟨Hd, ps, S2⟩ => by
    obtain ⟨y, rfl⟩ := one hl
    obtain ⟨z, rfl⟩ := one hl2
    have hz : z = .int d := S2.pop.1
    subst hz
    obtain ⟨p, vs, rfl, h1, h2⟩ := seq_ok S2.pop.2 S2.pop.2.pop.1 hs
    rw [of_dpa_ints h2] at h1
    exact ⟨p, ns, d, rfl, rfl, h1, q _ H2 ⟨Hd, ps, S2.pop.2.pop.2.push rfl⟩⟩
theorem ee_lenSet (h : EE K te m ow k ow1) (hs : seqOf ow1 k = some (fl, ns.map PyData.int)) (hd : ns.Nodup) (hl : ns.length < 64) : EE K (RZ.tLenSetI K te) m ow (.v (.int (ns.length : Int))) ow1 := fun He Fr ts σ xs H Q S q =>
  h He Fr ts σ xs H _ S fun x H1 ⟨Hd, ps, S1⟩ => by
    obtain ⟨p, vs, rfl, h1, h2⟩ := seq_ok S1 S1.pop.1 hs
    rw [of_dpa_ints h2] at h1
    exact ⟨p, ns, rfl, h1, hd, by omega, q _ H1 ⟨Hd, ps, S1.pop.2.push rfl⟩⟩
end
end LD

/-! Defs by name; types; parts of lists; small readings. -/
namespace LD
open PySem PySem.Spec PyProof.Rows L2

structure Cal (P : Program) (w : World) (K : PySem.W.Frag) (mg : Str → Option Value) (base : Heap) (k : Nat) (x : Str) (sp : Sp) : Prop where
  ex : ∃ f fd ps, FnG P w K mg base CX0 k f fd ps sp ∧ mg x = some (.ref f) ∧ PySem.W.keepIn K (.ref f) = true ∧ Binds K fd ps []
structure Def (K : PySem.W.Frag) (mg : Str → Option Value) (x : Str) (st : Stmt) (ps : List Str) : Prop where
  ex : ∃ f fd, Fun K x x st f fd ∧ mg x = some (.ref f) ∧ Binds K fd ps []
section
variable {P : Program} {w : World} {K : PySem.W.Frag} {mg : Str → Option Value} {base : Heap} {x : Str} {st : Stmt} {ps : List Str} {k j : Nat} {sp : Sp}
theorem cal_of (D : Def K mg x st ps) (h : ∀ f fd, Fun K x x st f fd → FnG P w K mg base CX0 k f fd ps sp) : Cal P w K mg base k x sp := by
  obtain ⟨f, fd, F, hm, hb⟩ := D.ex
  exact ⟨f, fd, ps, h f fd F, hm, F.kp, hb⟩
theorem def_mk {h : Heap} {f : Addr} {oc : Value} {od an : Option Addr} {osl : Array (Option Value)} {kV doc pm cdv ct : Value} (X : K.In h) (G : h.Ns mainGlobals mg) (a : PySem.W.nsIn K mainGlobals x = some (some (.ref f)))
    (l : K.lookup f = some ⟨oc, od, .func (PySem.W.fnOf x x (defArgs st) (defBody st) (defScope st) .none kV doc pm an cdv ct), osl⟩) (c : PySem.W.codeIn K cdv x = true) (k : PySem.W.keepIn K (.ref f) = true)
    (hb : ∀ (kV doc pm : Value) (an : Option Addr) (cdv ct : Value) (us : List Value), us.length = ps.length → bindArgs (PySem.W.fnOf x x (defArgs st) (defBody st) (defScope st) .none kV doc pm an cdv ct) ⟨us, []⟩ = pure (ps.zip us)) : Def K mg x st ps :=
  ⟨f, _, fun_mk l c k, PySem.W.mg_of X G a, (fun_mk l c k).binds hb⟩
end
section
variable {X : Cx} {x : Str} {p pos : Pos} {e : Expr} {es : List Expr} {t : TA} {k j : Nat} {sp : Sp}
theorem pe_cal (c : Cal X.prog X.w X.K X.mg X.base k x sp) (hr : Rm j X.A) (hk : k ≤ j) (hg : Gl X x) (ha : PA X (e :: es) t) (hdb : (x == ("__debug__" : Str)) = false := by decide)
    (hst : starEach (e :: es) X.env = (false, eval e X.env) :: starEach es X.env := by rfl) (hpl : (backTo pos (starEach es X.env)).any (·.1) = false := by rfl) : PE X (.Call (.Name x p) (e :: es) [] pos) (tCall sp [] E0 t) := by
  obtain ⟨f, fd, ps, F, hm, hkp, hb⟩ := c.ex
  exact pe_callG F (hr.mono hk) hg hm hkp hb pass0 ha hdb hst hpl
theorem pe_glb {v : V} (hg : Gl X x) (h : ∃ u, X.mg x = some u ∧ RelV v u) (hdb : (x == ("__debug__" : Str)) = false := by decide) (hcd : (x == ("__classdict__" : Str)) = false := by decide) : PE X (.Name x pos) (tC v) := by
  obtain ⟨u, hm, r⟩ := h
  exact pe_glob hg hm r hdb
theorem glb_int {i : Int} {u : Option Value} (h : ∃ t, u = some (.int i t)) : ∃ v, u = some v ∧ RelV (.int i) v := h.imp' _ fun t e => ⟨e, t, rfl⟩
end
theorem kit_NoneType_int : kitB "NoneType" "int" = some false := by decide +kernel
theorem kit_NoneType_bool : kitB "NoneType" "bool" = some false := by decide +kernel
theorem kit_NoneType_list : kitB "NoneType" "list" = some false := by decide +kernel
theorem kit_NoneType_tuple : kitB "NoneType" "tuple" = some false := by decide +kernel
theorem kit_NoneType_str : kitB "NoneType" "str" = some false := by decide +kernel
theorem kit_NoneType_dict : kitB "NoneType" "dict" = some false := by decide +kernel
theorem kit_bool_int : kitB "bool" "int" = some true := by decide +kernel
theorem kit_bool_bool : kitB "bool" "bool" = some true := by decide +kernel
theorem kit_bool_list : kitB "bool" "list" = some false := by decide +kernel
theorem kit_bool_tuple : kitB "bool" "tuple" = some false := by decide +kernel
theorem kit_bool_str : kitB "bool" "str" = some false := by decide +kernel
theorem kit_bool_dict : kitB "bool" "dict" = some false := by decide +kernel
theorem kit_int_int : kitB "int" "int" = some true := by decide +kernel
theorem kit_int_bool : kitB "int" "bool" = some false := by decide +kernel
theorem kit_int_list : kitB "int" "list" = some false := by decide +kernel
theorem kit_int_tuple : kitB "int" "tuple" = some false := by decide +kernel
theorem kit_int_str : kitB "int" "str" = some false := by decide +kernel
theorem kit_int_dict : kitB "int" "dict" = some false := by decide +kernel
theorem kit_str_int : kitB "str" "int" = some false := by decide +kernel
theorem kit_str_bool : kitB "str" "bool" = some false := by decide +kernel
theorem kit_str_list : kitB "str" "list" = some false := by decide +kernel
theorem kit_str_tuple : kitB "str" "tuple" = some false := by decide +kernel
theorem kit_str_str : kitB "str" "str" = some true := by decide +kernel
theorem kit_str_dict : kitB "str" "dict" = some false := by decide +kernel
theorem kit_list_int : kitB "list" "int" = some false := by decide +kernel
theorem kit_list_bool : kitB "list" "bool" = some false := by decide +kernel
theorem kit_list_list : kitB "list" "list" = some true := by decide +kernel
theorem kit_list_tuple : kitB "list" "tuple" = some false := by decide +kernel
theorem kit_list_str : kitB "list" "str" = some false := by decide +kernel
theorem kit_list_dict : kitB "list" "dict" = some false := by decide +kernel
theorem kit_tuple_int : kitB "tuple" "int" = some false := by decide +kernel
theorem kit_tuple_bool : kitB "tuple" "bool" = some false := by decide +kernel
theorem kit_tuple_list : kitB "tuple" "list" = some false := by decide +kernel
theorem kit_tuple_tuple : kitB "tuple" "tuple" = some true := by decide +kernel
theorem kit_tuple_str : kitB "tuple" "str" = some false := by decide +kernel
theorem kit_tuple_dict : kitB "tuple" "dict" = some false := by decide +kernel
section
variable {K : PySem.W.Frag} {m : Env'} {ow ow1 ow2 ow3 : List OC} {k k1 k2 : Knd} {te : TE} {tl th : TO} {fl b : Bool} {ds es : List PyData} {ns : List Int} {n : Nat} {i : Int}
theorem eb_eq {tt : TT} {b c : Bool} (h : EB K tt m ow b ow1) (e : b = c) : EB K tt m ow c ow1 := e ▸ h
theorem ee_eq (h : EE K te m ow k ow1) (e : k = k1) : EE K te m ow k1 ow1 := e ▸ h
theorem ee_eqB {b c : Bool} (h : EE K te m ow (.v (.bl b)) ow1) (e : b = c) : EE K te m ow (.v (.bl c)) ow1 := e ▸ h
theorem ee_eqI {i j : Int} (h : EE K te m ow (.v (.int i)) ow1) (e : i = j) : EE K te m ow (.v (.int j)) ow1 := e ▸ h
theorem ee_andF {ta tb : TE} (h : EE K ta m ow (.v (.bl false)) ow1) : EE K (tAndV ta tb) m ow (.v (.bl false)) ow1 := fun He Fr ts σ xs H Q S q =>
  h He Fr ts σ xs H _ S fun y H1 S1 => ⟨false, S1.top, by rw [if_neg Bool.false_ne_true]; exact q _ H1 (S1.drop.pushV _)⟩
theorem ee_orT {ta tb : TE} (h : EE K ta m ow (.v (.bl true)) ow1) : EE K (tOrV ta tb) m ow (.v (.bl true)) ow1 := fun He Fr ts σ xs H Q S q =>
  h He Fr ts σ xs H _ S fun y H1 S1 => ⟨true, S1.top, by rw [if_pos rfl]; exact q _ H1 (S1.drop.pushV _)⟩
theorem cut_to (ds : List PyData) (n : Nat) : cutD ds none (some (n : Int)) = ds.take n := by
  unfold cutD
  rw [HT.sIx_none, HT.sIx_nat, List.drop_zero, Nat.sub_zero]
  by_cases h : n ≤ ds.length
  · rw [Nat.min_eq_left h]
  · rw [Nat.min_eq_right (by omega), List.take_of_length_le (Nat.le_refl _), List.take_of_length_le (by omega)]
theorem cut_from (ds : List PyData) (n : Nat) : cutD ds (some (n : Int)) none = ds.drop n := by
  unfold cutD
  rw [HT.sIx_none, HT.sIx_nat]
  by_cases h : n ≤ ds.length
  · rw [Nat.min_eq_left h, List.take_of_length_le (by rw [List.length_drop]; omega)]
  · rw [Nat.min_eq_right (by omega), Nat.sub_self, List.take_zero, List.drop_eq_nil_of_le (by omega)]
/-- the same list said otherwise -/
theorem ee_as {es : List PyData} (h : EE K te m ow (newK b ow1 ds) (newO b ow1 ds)) (e : ds = es) : EE K te m ow (newK b ow1 es) (newO b ow1 es) := e ▸ h
theorem ee_to (b : Bool) (ns : List Int) (n : Nat) (h : EE K te m ow k ow1) (h2 : EO K th m ow1 (some i) ow2) (hs : seqOf ow2 k = some (fl, ns.map PyData.int)) (hi : i = (n : Int)) :
    EE K (tSl (rSlL K) te tNoPart th) m ow (newK b ow2 ((ns.take n).map PyData.int)) (newO b ow2 ((ns.take n).map PyData.int)) := by
  subst hi
  have e : cutD (ns.map PyData.int) none (some (n : Int)) = (ns.take n).map PyData.int := by rw [cut_to, List.map_take]
  exact ee_as (ee_slice b h eo_no h2 hs (by rw [e, imms_int, Bool.or_true])) e
theorem ee_from (b : Bool) (ns : List Int) (n : Nat) (h : EE K te m ow k ow1) (h2 : EO K tl m ow1 (some i) ow2) (hs : seqOf ow2 k = some (fl, ns.map PyData.int)) (hi : i = (n : Int)) :
    EE K (tSl (rSlL K) te tl tNoPart) m ow (newK b ow2 ((ns.drop n).map PyData.int)) (newO b ow2 ((ns.drop n).map PyData.int)) := by
  subst hi
  have e : cutD (ns.map PyData.int) (some (n : Int)) none = (ns.drop n).map PyData.int := by rw [cut_from, List.map_drop]
  exact ee_as (ee_slice b h h2 eo_no hs (by rw [e, imms_int, Bool.or_true])) e
/-- xs[i] of a list of ints -/
theorem at_int {x : Int} (h : ns[n]? = some x) (hi : i = (n : Int)) : atI (ns.map PyData.int) i = some (.int x) := by
  subst hi
  exact atI_nat (by rw [List.getElem?_map, h]; rfl)
theorem ek_int (b : Bool) (i : Int) : ek b (.int i) = .v (.int i) := by cases b <;> rfl
/-- xs[i], a list of ints -/
theorem rr_ixI {x : Int} (h : seqOf ow k1 = some (fl, ns.map PyData.int)) (n : Nat) (hx : ns[n]? = some x) (hi : i = (n : Int)) : RR K (rIxL K) m ow k1 (.v (.int i)) (.v (.int x)) ow := by
  have := rr_ixL (K := K) (m := m) h (at_int hx hi)
  rwa [ek_int] at this
end
end LD

/-! Promises by a relation; numbers; a law's frame. -/
namespace LD
open PySem PySem.Spec PyProof.Rows L2

/-- a def that changes the list of ints it is given first; its result by a relation -/
def spR {α : Type} (inp : α → List Int) (args : α → List PyData) (pre : α → Prop) (R : α → PyData → List Int → Prop) (K : PySem.W.Frag) : Sp := fun vs H Q _ => ∃ a p rest, vs = .ref p :: rest ∧ H p = some (.lst ((inp a).map V.int)) ∧ DpAll K (hid H p) rest (args a) ∧ pre a ∧
  ∀ d ns x H' Hf, R a d ns → Same (hid H p) H' → H' p = some (.lst (ns.map V.int)) → Frs H Hf H' → Rs K H H' Hf x d → Q x H'
def PretR (R : PyData → List Int → Prop) : Post := { nx := fun _ _ => False, rt := fun k ow => ∃ d ns, R d ns ∧ retOk ow k d ∧ ow[0]? = some (.lst (ns.map PyData.int)) ∧ k ≠ .own 0, n0 := 1 }
/-- an expression with several possible results -/
def EX (K : PySem.W.Frag) (te : TE) (m : Env') (ow : List OC) (R : Knd → List OC → Prop) : Prop := ∀ (He Fr : Hp) (ts : List Knd) (σ : L2.St) (xs : List V) (H : Hp) (Q : VK), SA K He Fr m ow ts σ xs H →
  (∀ k ow' x H', R k ow' → SA K He Fr m ow' (k :: ts) σ (x :: xs) H' → Q x H') → te σ H Q
section
variable {K : PySem.W.Frag} {m : Env'} {ow ow1 : List OC} {ks : List Knd} {α : Type} {inp : α → List Int} {args : α → List PyData} {pre : α → Prop} {R : α → PyData → List Int → Prop} {ar : TA} {E : XK} {te : TE} {P : Post} {i : Nat} {X : Knd → List OC → Prop}
theorem ss_setX (h : EX K te m ow X) (q : ∀ k ow', X k ow' → P.nx (m.set i (some k)) ow') : SS K (tAsg te (gName i)) m ow P := fun He Fr ts σ xs H D S F =>
  h He Fr ts σ xs H _ S fun k ow' x H1 hX ⟨Hd, ps, S1⟩ => F.nx _ _ _ _ (q k ow' hX) ⟨Hd, ps, S1.pop.2.store S1.pop.1 i⟩
theorem ex_callR (b : Bool) (a : α) (n : Nat) (h : EA K ar m ow (.own n :: ks) ow1) (hn : ow1[n]? = some (.lst ((inp a).map PyData.int))) (ha : adxs n ow1 ks = some (args a)) (hp : pre a) :
    EX K (tCall (spR inp args pre R K) [] E ar) m ow (fun k ow' => ∃ d ns, R a d ns ∧ k = resK b (ow1.set n (.lst (ns.map PyData.int))) d ∧ ow' = resO b (ow1.set n (.lst (ns.map PyData.int))) d) := fun He Fr ts σ xs H Q S q =>
  h He Fr ts σ xs H _ S fun ys H1 hl ⟨Hd, ps, S1⟩ => by
    obtain ⟨h1, S2⟩ := S1.args hl
    rw [List.append_nil]
    cases h1 with
    | cons hy ht =>
    obtain ⟨p, vs, e1, rfl, e2, e3, e4⟩ := S2.own hy hn
    rw [of_dpa_ints e4] at e3
    refine ⟨a, p, _, rfl, e3, adxs_ok S2 e1 e2 ht ha, hp, fun d ns x H' Hf hR e hq f r => q _ _ _ _ ⟨d, ns, hR, rfl, rfl⟩ ?_⟩
    have hpn : Hf p = none := by
      cases z : Hf p with
      | none => rfl
      | some o =>
        rcases f.2 p o z with t | t
        · have := f.1 p o z
          rw [hq] at this
          cases this
          cases t
        · rw [e3] at t; cases t
    have S3 := S2.write (vs := ns.map V.int) e1 hn (dpa_ints ns)
    have sm : Same (upd H1 p (.lst (ns.map V.int))) H' := fun c o hc => by
      by_cases z : c = p
      · subst z; rw [upd_same] at hc; cases hc; exact hq
      · rw [upd_ne z] at hc; exact e _ _ (by rw [hid_ne z]; exact hc)
    have f' : Frs (upd H1 p (.lst (ns.map V.int))) Hf H' := ⟨f.1, fun c o hc => (f.2 c o hc).imp id fun t => by
      have z : c ≠ p := fun z => by rw [z, hpn] at hc; cases hc
      rw [upd_ne z]; exact t⟩
    refine S3.res b sm f' ?_
    cases d with
    | list ds =>
      obtain ⟨r0, us, a1, a2, a3, a4, a5⟩ := r
      refine ⟨r0, us, a1, ?_, a3, a4, a5⟩
      rw [upd_ne (fun z => by rw [z, e3] at a2; cases a2)]
      exact a2
    | none => exact r
    | bool _ => exact r
    | int _ => exact r
    | str _ => exact r
    | tuple _ => exact r
    | dict _ => exact r
theorem fin_R {t : TS} {N : List Str} {vs : List V} {Q : VK} {H : Hp} (h : spR inp args pre R K vs H Q E) (hS : ∀ a, pre a → SS K t (mstM N (args a)) [.lst ((inp a).map PyData.int)] (PretR (R a))) : t { nx := fun _ H' => Q .non H', rt := Q } (start N vs) H := by
  obtain ⟨a, p, rest, rfl, hH, hd, hp, q⟩ := h
  have S0 : SB K (hid H p) (fun _ => none) (hid H p) [p] (mstM N (args a)) [.lst ((inp a).map PyData.int)] [] (start N (.ref p :: rest)) [] H := by
    refine ⟨Same.refl _, hid_sub H p, fun _ _ z => (by cases z), fun _ _ z => (by cases z), fun _ _ => rfl, by simp [kids, kidC], rfl, fun n r c h1 h2 => ?_, ?_, .nil⟩
    · match n, h1, h2 with
      | 0, h1, h2 =>
        cases h1
        cases h2
        exact ⟨hid_at, _, hH, dpa_ints _⟩
      | _ + 1, h1, _ => cases h1
    · unfold L2.start mstM
      rw [List.length_cons, dpa_len hd]
      exact prd_app (.cons ⟨_, rfl, p, rfl, rfl⟩ (start_prd (N := N) hd)) (repl_prd _)
  have S1 : SA K (hid H p) (fun _ => none) (mstM N (args a)) [.lst ((inp a).map PyData.int)] [.own 0] (start N (.ref p :: rest)) [.ref p] H := ⟨_, _, S0.push ⟨p, rfl, rfl⟩⟩
  refine hS a hp _ _ _ _ _ H _ S1 ⟨fun m ow σ H' e _ => e.elim, fun k m ow σ x H' hr ⟨Hd, ps, S⟩ => ?_, fun _ _ _ _ z => z.elim, fun _ _ _ _ z => z.elim, fun k hk => by rw [List.mem_singleton.mp hk]; exact Nat.zero_lt_one⟩
  obtain ⟨d, ns, hR, hret, h0, hk0⟩ := hr
  obtain ⟨hk, S'⟩ := S.pop
  obtain ⟨r, vs, e1, e2, e3, e4, e5⟩ := S'.own S'.pop.1 h0
  cases e2
  rw [of_dpa_ints e5] at e4
  refine q d ns _ _ (port (hid H p) Hd) hR (S.eh.trans S.dh) e4 ⟨(port_sub _ _).trans S.dh, fun c o hc => ?_⟩ ?_
  · obtain ⟨a1, a2⟩ := of_port hc
    refine a2.imp id fun z => ?_
    by_cases e : c = p
    · rw [e, e3] at a1; cases a1
    · rwa [hid_ne e] at z
  · cases d with
    | list ds =>
      obtain ⟨n, rfl, hn⟩ := hret
      obtain ⟨r, vs, g1, rfl, g2, g3, g4⟩ := S'.own hk hn
      have hne : r ≠ p := S'.apart e1 g1 (fun z => hk0 (by rw [z]))
      refine ⟨r, vs, rfl, ?_, ?_, g3, g4⟩
      · cases z : H r with
        | none => rfl
        | some u => rw [S.eh _ _ (by rw [hid_ne hne]; exact z)] at g2; cases g2
      · cases z : port (hid H p) Hd r with
        | none => rfl
        | some u => rw [port_sub _ _ _ _ z] at g2; cases g2
    | none => exact pd_ok hk hret
    | bool _ => exact pd_ok hk hret
    | int _ => exact pd_ok hk hret
    | str _ => exact pd_ok hk hret
    | tuple _ => exact pd_ok hk hret
    | dict _ => exact pd_ok hk hret
end
section
variable {P : Program} {w : World} {K : PySem.W.Frag} {mg : Str → Option Value} {base : Heap} {x qual : Str} {st : Stmt} {f : Addr} {fd : FuncData} {N ps : List Str} {k : Nat}
theorem ok_R {α : Type} {inp : α → List Int} {args : α → List PyData} {pre : α → Prop} {R : α → PyData → List Int → Prop} (F : Fun K x qual st f fd) (S : FnScope N ps (defScope st)) (hl : ∀ a, (args a).length + 1 = ps.length)
    (body : ∀ (cdv : Value) (A : Around) (outer : List Env) (s : Shared) (H : Hp) (E : XK), Rm k (A.deeper (envOfC qual (defScope st) s.heap.objs.size f cdv)) →
      ∃ t, PSs (cxOf CX0 P w K mg base N qual (defScope st) f cdv A outer s H E).nox (defBody st) t ∧ ∀ a, pre a → SS K t (mstM N (args a)) [.lst ((inp a).map PyData.int)] (PretR (R a))) : FnG P w K mg base CX0 (k + 1) f fd ps (spR inp args pre R K) := by
  refine fnG_of F S (fun vs H Q E h => ?_) fun cdv A outer s H vs Q E hr h => ?_
  · obtain ⟨a, p, rest, rfl, _, h1, _⟩ := h
    rw [List.length_cons, dpa_len h1, hl]
  · obtain ⟨t, h1, h2⟩ := body cdv A outer s H E hr
    exact ⟨t, h1.nox, fin_R h h2⟩
end
/-! ### numbers -/
theorem cpw {i j : Int} (h0 : 0 ≤ j) (h1 : j ≤ 1000) (h : i.natAbs < 2 ^ 200) : CPw i j := ⟨h0, h1, Nat.lt_of_lt_of_le h (Nat.pow_le_pow_right (by decide) (by decide))⟩
theorem cmul {i j : Int} (h : i.natAbs < 2 ^ 200) (h1 : j.natAbs < 2 ^ 200) : CMulW i j := wide_mul h h1 (by decide) (by decide) (by decide)
theorem cdiv {i j : Int} (h0 : 0 < j) (h : j.natAbs < 2 ^ 200) : CDivW i j := wide_div h0 h (by decide) (by decide)
theorem lay_ints : ∀ ns : List Int, PyData.canLayAll0 (ns.map PyData.int) = true
  | [] => by simp [PyData.canLayAll0]
  | n :: r => by simp [PyData.canLayAll0, lay_ints r, PyData.canLay0]
theorem shaped_ints (ns : List Int) : SeqAt.shaped (.list (ns.map PyData.int)) = true := by
  unfold SeqAt.shaped
  have h1 : PyData.canLay0 (.list (ns.map PyData.int)) = true := by simp [PyData.canLay0, lay_ints]
  have h2 : PyData.depth (.list (ns.map PyData.int)) ≤ 64 := by
    rw [PyData.depth]
    have := ints_depth ns
    omega
  rw [h1, decide_eq_true h2]; rfl
theorem eqv_nil (ns : List Int) : PyData.eqv (.list (ns.map PyData.int)) (.list []) = decide (ns = []) := by
  cases ns with
  | nil => simp [PyData.eqv, PyData.eqvAll]
  | cons n r => simp [PyData.eqv, PyData.eqvAll]
theorem ss_seqI {K : PySem.W.Frag} {m : Env'} {ow : List OC} {P : Post} {t u : TS} (I : Env' → List OC → Prop) (h : SS K t m ow { P with nx := I }) (h2 : ∀ m ow, I m ow → SS K u m ow P) : SS K (tSeq t u) m ow P :=
  ss_seq (ss_imp h (fun m ow q => h2 m ow q) (fun _ _ q => q) (fun _ _ q => q) (fun _ _ q => q))
theorem setLast {l : List Int} (h : l ≠ []) (v : Int) : (l.map PyData.int).set (l.length - 1) (.int v) = (l.dropLast ++ [v]).map PyData.int := by
  have e := List.dropLast_concat_getLast h
  have hl : (l.map PyData.int) = l.dropLast.map PyData.int ++ [.int (l.getLast h)] := by
    rw [← List.map_singleton (f := PyData.int), ← List.map_append, e]
  rw [hl, show l.length - 1 = (l.dropLast.map PyData.int).length by rw [List.length_map, List.length_dropLast]]
  rw [List.set_append_right _ _ (Nat.le_refl _), Nat.sub_self, List.map_append]
  rfl
theorem ixLast {n : Nat} (h : 0 < n) : ixN n (-1) = some (n - 1) := by
  unfold ixN
  rw [if_neg (by omega), if_pos (by omega)]
  congr 1
  omega
end LD

/-! Own lists by their numbers; the law's frame. -/
namespace LD
open PySem PySem.Spec PyProof.Rows L2
section
variable {ow : List OC} {n j : Nat} {c c1 : OC} {ds : List PyData}
theorem own_new : (ow ++ [c])[ow.length]? = some c := by simp
theorem own_old (h : ow[n]? = some c) : (ow ++ [c1])[n]? = some c := by
  obtain ⟨h1, h2⟩ := List.getElem?_eq_some_iff.mp h
  rw [List.getElem?_append_left h1]; exact h
theorem own_set (h : ow[n]? = some c) : (ow.set n c1)[n]? = some c1 := by
  obtain ⟨h1, h2⟩ := List.getElem?_eq_some_iff.mp h
  simp [h1]
theorem own_ne (e : j ≠ n) (h : ow[n]? = some c) : (ow.set j c1)[n]? = some c := by
  rw [List.getElem?_set_ne e]; exact h
theorem own_lt (h : ow[n]? = some c) : n < ow.length := (List.getElem?_eq_some_iff.mp h).1
theorem seq_own (h : ow[n]? = some (.lst ds)) : seqOf ow (.own n) = some (true, ds) := by
  simp only [seqOf, h]
theorem ad_own (h : ow[n]? = some (.lst ds)) : ad ow (.own n) = some (.list ds) := by
  simp only [ad, h]
theorem ads_own (h : ow[n]? = some (.lst ds)) {ks : List Knd} {es : List PyData} (h2 : ads ow ks = some es) : ads ow (.own n :: ks) = some (.list ds :: es) := by
  simp only [ads, ad_own h, h2]
end
/-- the law's promise -/
def spLaw (K : PySem.W.Frag) : Sp := spP (fun ns : List Int => [.list (ns.map PyData.int)]) (fun ns => ns.length ≤ 63) (fun _ => .bool true) K
theorem law_in {K : PySem.W.Frag} {H : Hp} {a : Addr} {ns : List Int} (hl : ns.length ≤ 63) (h : SqL K H a (ns.map V.int)) : spLaw K [.ref a] H (fun v _ => v = .bl true) fun _ _ _ => False :=
  ⟨ns, .cons (.lst h (dpa_ints ns)) .nil, hl, fun x H' Hf _ _ r => by cases r; rfl⟩
end LD

/-! Lists of ranges, lists joined, enumerate, insert, index, in. -/
namespace LD
open PySem PySem.Spec PyProof.Rows L2
section
variable {X : Cx}
def tLr3 (ta : TA) : TE := fun σ H Q => ta σ H fun vs H1 => ∃ (i j c : Int) (n : Nat), vs = [.int i, .int j, .int c] ∧ RgC i j c n ∧ n ≤ 2 ^ 24 ∧ ∀ q, H1 q = none → Q (.ref q) (upd H1 q (.lst ((List.range n).map fun m : Nat => V.int (i + (m : Int) * c))))
/-- list(range(a, b, c)) -/
theorem pe_lr3 {a b c : Expr} {ta : TA} {p p2 pos pos2 : Pos} (hc : X.calm = true) (hg : Gl X "list") (hm : X.mg "list" = none) (hg2 : Gl X "range") (hm2 : X.mg "range" = none) (ha : PA X [a, b, c] ta)
    (hs : starEach [a, b, c] X.env = (false, eval a X.env) :: starEach [b, c] X.env := by rfl) (hpl : (backTo pos2 (starEach [b, c] X.env)).any (·.1) = false := by rfl)
    (na : starEach [.Call (.Name "range" p2) [a, b, c] [] pos2] X.env = (false, eval (.Call (.Name "range" p2) [a, b, c] [] pos2) X.env) :: starEach [] X.env := by rfl) :
    PE X (.Call (.Name "list" p) [.Call (.Name "range" p2) [a, b, c] [] pos2] [] pos) (tLr3 ta) := by
  refine ⟨fun pins s σ H Q I h => ?_⟩
  refine Call_ (ld_blt I hg hm boot_list (PyProof.Rows.callWith_type1 (args_cons (thn
    (Q := fun x s1 => ∃ (r : Addr) (i j c : Int) (n : Nat) (t u v : Tok) (H1 : Hp), x = .ref r ∧ IsRange s1.heap r i j c t u v ∧ Inv X pins σ H1 s1 ∧ RgC i j c n ∧ n ≤ 2 ^ 24 ∧ ∀ q, H1 q = none → Q (.ref q) (upd H1 q (.lst ((List.range n).map fun m : Nat => V.int (i + (m : Int) * c)))))
    ?_ fun x s1 ⟨r, i, j, c, n, t, u, v, H1, ex, hr, I1, ⟨c0, c1, c2, c3⟩, hn, q⟩ => args_nil ?_) na) na))
  · refine Call_ (ld_blt I hg2 hm2 boot_range (PyProof.Rows.callWith_type1 (thn (ha.run pos2 pins s σ H _ I h) fun us s1 ⟨vs, H1, I1, r1, q1⟩ => ?_) hs hpl))
    obtain ⟨i, j, k, n, rfl, ok, hn, q⟩ := q1
    cases r1 with
    | cons r rr =>
      cases rr with
      | cons r' rr =>
        cases rr with
        | cons r'' rr =>
          cases rr
          obtain ⟨t, rfl⟩ := r
          obtain ⟨t', rfl⟩ := r'
          obtain ⟨t'', rfl⟩ := r''
          exact call_range_3 ok.1 ⟨_, i, j, k, n, _, _, _, H1, rfl, IsRange.new .., I1.kept (t' := s1.toks) fun b o e => Heap.get?_push_of_some _ e, ok, hn, q⟩ (.inl (PyProof.noPylong_small ok.2.1))
  · subst ex
    refine call_list_range (n := n) (I1.ok.hd hc) hr c2 c3 hn fun h' tk acc c' hk e' hi => ?_
    have ev : Vals ((List.range n).map fun m : Nat => V.int (i + (m : Int) * c)) acc.toList := by
      have e : acc.toList.length = n := by rw [Array.length_toList]; exact hi.1
      have := vals_of_get acc.toList (fun m => V.int (i + (m : Int) * c)) fun j u hj => hi.2 j u (by rw [← hj, Array.getElem?_toList])
      rwa [e] at this
    refine ⟨.ref s1.heap.objs.size, upd H1 s1.heap.objs.size (.lst _), I1.laid hk (Nat.le_refl _) (show ObjOk X.prog X.w _ _ _ (.lst ((List.range n).map fun m : Nat => V.int (i + (m : Int) * c))) from ⟨?_, acc.toList, c', ev, ?_⟩), rfl, q _ (I1.hok.fresh (Nat.le_refl _))⟩
    · rw [List.length_map, List.length_range, sizeLine_eq]; omega
    · rw [Array.toArray_toList]; exact e'
end
/-- whole numbers from a on, by steps -/
def rgI (a : Int) (n : Nat) : List Int := (List.range n).map fun k : Nat => a + (k : Int)
def rgC (a c : Int) (n : Nat) : List Int := (List.range n).map fun k : Nat => a + (k : Int) * c
theorem rgV_eq (a b : Int) : rgV a b = (rgI a (b - a).toNat).map V.int := by
  unfold rgV rgI; rw [List.map_map]; rfl
section
variable {K : PySem.W.Frag} {m : Env'} {ow ow1 ow2 ow3 : List OC} {k k1 k2 : Knd} {ks : List Knd} {ds es : List PyData} {d : PyData} {fl : Bool} {ta tb te to : TE} {ar : TA} {i j z : Int} {n n2 : Nat} {P : Post}
theorem ee_lr1 (b : Bool) (h : EE K ta m ow (.v (.int i)) ow1) (hn : i.toNat = n) (h0 : -10000000 < i) (h1 : i < 10000000) : EE K (tLstRg (tRg1 ta)) m ow (newK b ow1 ((rgI 0 n).map PyData.int)) (newO b ow1 ((rgI 0 n).map PyData.int)) := fun He Fr ts σ xs H Q S q =>
  h He Fr ts σ xs H _ S fun x H1 ⟨Hd, ps, S1⟩ => by
    refine ⟨i, S1.pop.1, ⟨by omega, by omega, by omega, by omega, by omega⟩, fun p hp => ?_⟩
    rw [rgV_eq, show (i - 0).toNat = n by omega]
    exact q _ _ (S1.pop.2.made b hp (dpa_ints _))
theorem ee_lr2 (b : Bool) (h : EE K ta m ow (.v (.int i)) ow1) (h2 : EE K tb m ow1 (.v (.int j)) ow2) (hn : (j - i).toNat = n) (h0 : -10000000 < i) (h1 : i < 10000000) (h3 : -10000000 < j) (h4 : j < 10000000) (h5 : n < 10000000) : EE K (tLstRg (tRg2 ta tb)) m ow (newK b ow2 ((rgI i n).map PyData.int)) (newO b ow2 ((rgI i n).map PyData.int)) := fun He Fr ts σ xs H Q S q =>
  h He Fr ts σ xs H _ S fun x H1 S1 => h2 He Fr _ σ _ H1 _ S1 fun y H2 ⟨Hd, ps, S2⟩ => by
    refine ⟨i, j, S2.pop.2.pop.1, S2.pop.1, ⟨by omega, by omega, by omega, by omega, by omega⟩, fun p hp => ?_⟩
    rw [rgV_eq, hn]
    exact q _ _ (S2.pop.2.pop.2.made b hp (dpa_ints _))
theorem ee_lr3 (b : Bool) (h : EA K ar m ow [.v (.int i), .v (.int j), .v (.int z)] ow1) (hr : RgC i j z n) (hn : n ≤ 1000000) : EE K (tLr3 ar) m ow (newK b ow1 ((rgC i z n).map PyData.int)) (newO b ow1 ((rgC i z n).map PyData.int)) := fun He Fr ts σ xs H Q S q =>
  h He Fr ts σ xs H _ S fun ys H1 hl ⟨Hd, ps, S0⟩ => by
    obtain ⟨hp, S1⟩ := S0.args hl
    cases hp with
    | cons h1 hp => cases hp with
      | cons h2 hp => cases hp with
        | cons h3 hp =>
          cases hp
          cases (show _ = V.int i from h1)
          cases (show _ = V.int j from h2)
          cases (show _ = V.int z from h3)
          refine ⟨i, j, z, n, rfl, hr, by omega, fun p hp => ?_⟩
          have e : ((List.range n).map fun m : Nat => V.int (i + (m : Int) * z)) = (rgC i z n).map V.int := by unfold rgC; rw [List.map_map]; rfl
          rw [e]
          exact q _ _ (S1.made b hp (dpa_ints _))
/-- two lists of one's own, one behind the other -/
theorem rr_cat (b : Bool) (h1 : ow[n]? = some (.lst ds)) (h2 : ow[n2]? = some (.lst es)) (hz : ds.length + es.length ≤ 1000000) : RR K rCat m ow (.own n) (.own n2) (newK b ow (ds ++ es)) (newO b ow (ds ++ es)) := by
  rintro He Fr ts σ x y xs H Q ⟨Hd, ps, S⟩ q
  obtain ⟨p, vs, _, rfl, _, e2, e3⟩ := S.own S.pop.1 h2
  obtain ⟨p', vs', _, rfl, _, g2, g3⟩ := S.own S.pop.2.pop.1 h1
  refine ⟨p', p, vs', vs, rfl, rfl, g2, e2, by rw [dpa_len e3, dpa_len g3, sizeLine_eq]; omega, fun r hr => q _ _ (S.pop.2.pop.2.made b hr (dpa_app g3 e3))⟩
theorem dpa_rep {Hq : Hp} {vs : List V} (h : DpAll K Hq vs ds) : ∀ n : Nat, DpAll K Hq (List.replicate n vs).flatten (List.replicate n ds).flatten
  | 0 => .nil
  | n + 1 => by rw [List.replicate_succ, List.replicate_succ, List.flatten_cons, List.flatten_cons]; exact dpa_app h (dpa_rep h n)
theorem rr_rep (b : Bool) (h1 : ow[n]? = some (.lst ds)) (h2 : i.toNat = n2) (h3 : -1000 ≤ i) (h4 : i ≤ 1000) (hz : ds.length ≤ 1000) : RR K rRep m ow (.own n) (.v (.int i)) (newK b ow (List.replicate n2 ds).flatten) (newO b ow (List.replicate n2 ds).flatten) := by
  rintro He Fr ts σ x y xs H Q ⟨Hd, ps, S⟩ q
  have e : y = .int i := S.pop.1
  obtain ⟨p', vs', _, rfl, _, g2, g3⟩ := S.own S.pop.2.pop.1 h1
  refine ⟨p', i, vs', rfl, e, g2, by omega, by omega, ?_, fun r hr => ?_⟩
  · rw [dpa_len g3, sizeLine_eq]
    have : ds.length * i.toNat ≤ 1000 * 1000 := Nat.mul_le_mul hz (by omega)
    omega
  · rw [h2]
    exact q _ _ (S.pop.2.pop.2.made b hr (dpa_rep g3 n2))
/-- xs.insert(i, d) -/
theorem ee_insert {r : V → List V → Hp → VK → Prop} (hr0 : r = fun x vs H Q => ∃ (l : Addr) (xs : List V) (i : Int) (y : V), x = .ref l ∧ vs = [.int i, y] ∧ H l = some (.lst xs) ∧ xs.length < sizeLine ∧ 0 ≤ i ∧ i < 2 ^ 63 ∧ Q .non (upd H l (.lst (xs.take i.toNat ++ [y] ++ xs.drop i.toNat))))
    {ds0 : List PyData} (h : EE K to m ow (.own n) ow1) (h0 : ow1[n]? = some (.lst ds0)) (ha : EA K ar m ow1 [.v (.int i), k] ow2) (hn : ow2[n]? = some (.lst ds)) (hk : pd k = some d) (hi : i = (n2 : Int)) (hi2 : n2 < 1000000) (hz : ds.length < 1000000) :
    EE K (tBM K "list" r to ar) m ow (.v .non) (ow2.set n (.lst (ds.take n2 ++ [d] ++ ds.drop n2))) := fun He Fr ts σ xs H Q S q =>
  h He Fr ts σ xs H _ S fun x H1 ⟨Hd, ps, S1⟩ => ⟨S1.isL h0, ha He Fr _ σ _ H1 _ ⟨Hd, ps, S1⟩ fun ys H2 hl ⟨Hd2, ps2, S2⟩ => by
    subst hr0
    obtain ⟨hp, S3⟩ := S2.args hl
    cases hp with
    | cons h1 hp => cases hp with
      | cons h2 hp =>
        cases hp
        cases (show _ = V.int i from h1)
        obtain ⟨p, vs, e1, rfl, _, e2, e3⟩ := S3.own S3.pop.1 hn
        refine ⟨p, vs, i, _, rfl, rfl, e2, by rw [dpa_len e3, sizeLine_eq]; omega, by omega, by omega, ?_⟩
        rw [show i.toNat = n2 by omega]
        exact q _ _ ⟨Hd2, ps2, (S3.pop.2.write e1 hn (dpa_app (dpa_app (dpa_take n2 e3) (.cons (pd_ok h2 hk) .nil)) (dpa_drop n2 e3))).push rfl⟩⟩
/-- max(xs) -/
theorem cc_max {ns : List Int} (h : seqOf ow k = some (fl, ns.map PyData.int)) (hne : ns ≠ []) : CC K (rMax K) m ow [k] (.v (.int (mxd ns 0))) ow := by
  rintro He Fr ts σ ys xs H Q hl ⟨Hd, ps, S⟩ q
  obtain ⟨y, rfl⟩ := one hl
  obtain ⟨p, vs, rfl, h1, h2⟩ := seq_ok S S.pop.1 h
  rw [of_dpa_ints h2] at h1
  refine ⟨p, ns, rfl, h1, List.length_pos_iff.mpr hne, fun M h3 h4 => ?_⟩
  rw [mxd_eq (d := 0) h3 h4]
  exact q _ H ⟨Hd, ps, S.pop.2.push rfl⟩
theorem flat_ints : ∀ ns : List Int, (ns.map V.int).all flatV = true
  | [] => rfl
  | _ :: r => by rw [List.map_cons, List.all_cons, flat_ints r]; rfl
theorem in_ints (i : Int) : ∀ ns : List Int, inV (.int i) (ns.map V.int) = decide (i ∈ ns)
  | [] => rfl
  | n :: r => by
    have := in_ints i r
    unfold inV at this ⊢
    rw [List.map_cons, List.any_cons, this]
    show ((n == i) || decide (i ∈ r)) = decide (i ∈ n :: r)
    by_cases e : i = n
    · subst e; simp
    · have e' : ¬ n = i := fun z => e z.symm
      simp [e, e']
/-- i in xs; i not in xs -/
theorem rr_in {neg : Bool} {ns : List Int} (h : seqOf ow k = some (fl, ns.map PyData.int)) : RR K (rIn K neg) m ow (.v (.int i)) k (.v (.bl (if neg then !decide (i ∈ ns) else decide (i ∈ ns)))) ow := by
  rintro He Fr ts σ x y xs H Q ⟨Hd, ps, S⟩ q
  obtain ⟨p, vs, rfl, h1, h2⟩ := seq_ok S S.pop.1 h
  rw [of_dpa_ints h2] at h1
  cases (show x = .int i from S.pop.2.pop.1)
  refine ⟨p, _, rfl, .inl h1, rfl, flat_ints _, ?_⟩
  rw [in_ints]
  exact q _ H ⟨Hd, ps, S.pop.2.pop.2.push rfl⟩
/-- xs.index(i) -/
theorem ee_index {ns : List Int} (h : EE K to m ow k ow1) (hs : seqOf ow1 k = some (fl, ns.map PyData.int)) (ha : EA K ar m ow1 [.v (.int i)] ow1) (hj : ns[n]? = some i) (hn : ∀ j < n, ns[j]? ≠ some i) :
    EE K (tBM K "list" (rIndex K) to ar) m ow (.v (.int (n : Int))) ow1 := fun He Fr ts σ xs H Q S q =>
  h He Fr ts σ xs H _ S fun x H1 ⟨Hd, ps, S1⟩ => by
    obtain ⟨p, vs, rfl, h1, h2⟩ := seq_ok S1 S1.pop.1 hs
    refine ⟨.inl ⟨rfl, vs, h1⟩, ha He Fr _ σ _ H1 _ ⟨Hd, ps, S1⟩ fun ys H2 hl ⟨Hd2, ps2, S2⟩ => ?_⟩
    obtain ⟨hp, S3⟩ := S2.args hl
    cases hp with
    | cons g1 hp =>
      cases hp
      cases (show _ = V.int i from g1)
      obtain ⟨p', vs', e, h3, h4⟩ := seq_ok S3 S3.pop.1 hs
      cases e
      rw [of_dpa_ints h4] at h3
      refine ⟨p, _, .int i, n, .int i, rfl, rfl, h3, rfl, flat_ints _, by rw [List.getElem?_map, hj]; rfl, by simp [eqV], fun mm z' hm hz => ?_, q _ _ ⟨Hd2, ps2, S3.pop.2.push rfl⟩⟩
      rw [List.getElem?_map] at hz
      cases e : ns[mm]? with
      | none => rw [e] at hz; cases hz
      | some y =>
        rw [e] at hz
        cases hz
        have := hn mm hm
        rw [e] at this
        show (y == i) = false
        have : y ≠ i := fun z => this (by rw [z])
        simpa using this
/-- for i, x in enumerate(xs) -/
theorem ss_enum {j1 j2 : Nat} {tbd : TS} (I : Nat → Env' → List OC → Prop) (fl : Bool) (ds : List PyData) (h : EA K ar m ow [k] ow1) (h0 : I 0 m ow1) (hs : ∀ i m ow, i ≤ ds.length → I i m ow → seqOf ow k = some (fl, ds))
    (ht : ∀ i d m ow, ds[i]? = some d → I i m ow → SS K tbd ((m.set j1 (some (.v (.int (i : Int))))).set j2 (some (ek fl d))) ow { nx := I (i + 1), rt := P.rt, bk := P.nx, ct := I (i + 1), n0 := ow1.length }) (he : ∀ m ow, I ds.length m ow → P.nx m ow) :
    SS K (tFor (iEnum K ar) (gTup K 2 (gNs [j1, j2])) tbd) m ow P := fun He Fr ts σ xs H D S F =>
  h He Fr ts σ xs H _ S fun ys H1 hyl ⟨Hd, ps, S1⟩ => by
    obtain ⟨y, rfl⟩ := one hyl
    obtain ⟨p, us, rfl, hsq, _⟩ := seq_ok S1 S1.pop.1 (hs 0 _ _ (Nat.zero_le _) h0)
    refine ⟨p, us, rfl, hsq, fun i n σ H => n = ds.length - i ∧ i ≤ ds.length ∧ ∃ m ow, I i m ow ∧ SA K He Fr m ow (k :: ts) σ (.ref p :: xs) H, ⟨_, rfl, Nat.zero_le _, _, _, h0, _, _, S1⟩, ?_⟩
    rintro i n σ2 H2 ⟨rfl, hi, m2, ow2, I2, Hd2, ps2, S2⟩
    obtain ⟨p2, us2, e, hsq2, hd2⟩ := seq_ok S2 S2.pop.1 (hs i _ _ hi I2)
    cases e
    have hlen := dpa_len hd2
    by_cases hlt : i < ds.length
    · have ha : ds[i]? = some ds[i] := List.getElem?_eq_getElem hlt
      refine .inr ⟨⟨us2, us2[i]'(by omega), hsq2, List.getElem?_eq_getElem (by omega)⟩, _, fun σ' H' h => ⟨ds.length - (i + 1), by omega, rfl, hlt, h⟩, fun x H' hy => ?_⟩
      obtain ⟨T, x, rfl, hT, rfl, hy⟩ := hy
      have hx := hy us2 hsq2
      obtain ⟨d, h1, h2⟩ := dpa_at hd2 hx
      have e : Same H2 (upd H2 T (.tup [.int (i : Int), x])) := fun a o q => by rw [upd_ne (ne_of_none q hT)]; exact q
      have S3 := S2.grow e
      refine ⟨T, [.int (i : Int), x], rfl, .inl (.inl upd_same), rfl, _, _, rfl, ?_⟩
      refine ⟨_, _, rfl, rfl, ?_⟩
      exact ht i d m2 ow2 h1 I2 He Fr (k :: ts) _ (.ref p :: xs) _ _ ⟨Hd2, ps2, (S3.store (x := .int (i : Int)) (k := .v (.int (i : Int))) rfl j1).store (ek_ok h2) j2⟩ ⟨fun m ow σ H q S => ⟨m, ow, q, S⟩, fun k' m ow σ x H q S => F.rt _ _ _ _ _ _ q (S.drop2 rfl), fun m ow σ H q S => F.nx _ _ _ _ q S.drop, fun m ow σ H q S => ⟨m, ow, q, S⟩, S1.inT⟩
    · have e : i = ds.length := by omega
      subst e
      exact .inl ⟨⟨us2, hsq2, by omega⟩, F.nx _ _ _ _ (he _ _ I2) ⟨Hd2, ps2, S2.pop.2⟩⟩
end
end LD
namespace LD
open PySem PySem.Spec PyProof.Rows L2
section
variable {X : Cx} {K : PySem.W.Frag}
theorem op_eqK (hK : X.K = K) (hu : X.A.units + 64 < cLine) : OpR X (compareOp .Eq) (rEqD K) := hK ▸ op_eqD hu
theorem ee_andT2 {m : Env'} {ow ow1 ow2 : List OC} {k : Knd} {ta tb : TE} (ha : EE K ta m ow (.v (.bl true)) ow1) (hb : EE K tb m ow1 k ow2) : EE K (tAndV ta tb) m ow k ow2 := fun He Fr ts σ xs H Q S q =>
  ha He Fr ts σ xs H _ S fun x H1 S1 => by
    refine ⟨true, S1.top, ?_⟩
    rw [if_pos rfl]
    exact hb He Fr ts σ xs H1 Q S1.drop q
theorem pi_listK {tg l : Expr} {tl : TE} (hK : X.K = K) (hl : PE X l tl) : PI X tg l (iList K tl) := hK ▸ pi_list hl
theorem sl_listK (hK : X.K = K) : SlR X (rSlL K) := hK ▸ sl_list
theorem ix_listK (hK : X.K = K) : IxR X (rIxL K) := hK ▸ ix_list
theorem ix_tupK (hK : X.K = K) : IxR X (rIxT K) := hK ▸ ix_tup
theorem op_neK (hK : X.K = K) (hu : X.A.units + 64 < cLine) : OpR X (compareOp .NotEq) (rNeD K) := hK ▸ op_neD hu
end
end LD

/-! Dicts; forgetting one's own objects; more tests. -/
namespace LD
open PySem PySem.Spec PyProof.Rows L2
def valD (kvs : List (Key × PyData)) (k : Key) : Option PyData := (kvs.find? fun kv => decide (kv.1 = k)).map (·.2)
def putD (kvs : List (Key × PyData)) (k : Key) (d : PyData) : List (Key × PyData) :=
  if (kvs.any fun kv => decide (kv.1 = k)) = true then kvs.map (fun kv => if kv.1 = k then (kv.1, d) else kv) else kvs ++ [(k, d)]
def mergeD (kvs more : List (Key × PyData)) : List (Key × PyData) := more.foldl (fun acc kv => putD acc kv.1 kv.2) kvs
section
variable {K : PySem.W.Frag} {Hq : Hp} {vs us : List (Key × V)} {kvs ls : List (Key × PyData)} {k : Key} {d : PyData} {v : V}
theorem kp_val (h : KP K Hq vs kvs) (k : Key) : (valD kvs k = none ∧ valV vs k = none) ∨ ∃ d v, valD kvs k = some d ∧ valV vs k = some v ∧ Dp K Hq v d := by
  induction h with
  | nil => exact .inl ⟨rfl, rfl⟩
  | @cons a b as bs h t ih =>
    obtain ⟨e, h⟩ := h
    by_cases z : b.1 = k
    · refine .inr ⟨b.2, a.2, ?_, valV_pos (e.trans z), h⟩
      unfold valD
      rw [List.find?_cons, decide_eq_true z]; rfl
    · have e1 : valD (b :: bs) k = valD bs k := by unfold valD; rw [List.find?_cons, decide_eq_false z]
      rw [e1, valV_neg (fun q => z (e ▸ q))]
      exact ih
theorem kp_get (h : KP K Hq vs kvs) (e : valD kvs k = some d) : ∃ v, valV vs k = some v ∧ Dp K Hq v d := by
  rcases kp_val h k with ⟨h1, _⟩ | ⟨d1, v, h1, h2, h3⟩
  · rw [h1] at e; cases e
  · rw [h1] at e; cases e; exact ⟨v, h2, h3⟩
theorem kp_some (h : KP K Hq vs kvs) (k : Key) : (valV vs k).isSome = (valD kvs k).isSome := by
  rcases kp_val h k with ⟨h1, h2⟩ | ⟨d1, v, h1, h2, h3⟩
  · rw [h1, h2]; rfl
  · rw [h1, h2]; rfl
theorem kp_any (h : KP K Hq vs kvs) (k : Key) : (vs.any fun kv => decide (kv.1 = k)) = (kvs.any fun kv => decide (kv.1 = k)) := by
  induction h with
  | nil => rfl
  | @cons a b as bs h t ih => rw [List.any_cons, List.any_cons, ih, h.1]
theorem kp_app (h : KP K Hq vs kvs) (h2 : KP K Hq us ls) : KP K Hq (vs ++ us) (kvs ++ ls) := by
  induction h with
  | nil => exact h2
  | cons h t ih => exact .cons h ih
theorem kp_map (h : KP K Hq vs kvs) (hv : Dp K Hq v d) (k : Key) : KP K Hq (vs.map fun kv => if kv.1 = k then (kv.1, v) else kv) (kvs.map fun kv => if kv.1 = k then (kv.1, d) else kv) := by
  induction h with
  | nil => exact .nil
  | @cons a b as bs h t ih =>
    refine .cons ?_ ih
    by_cases z : b.1 = k
    · simp only [if_pos z, if_pos (h.1.trans z)]; exact ⟨h.1, hv⟩
    · simp only [if_neg z, if_neg (fun q : a.1 = k => z (h.1 ▸ q))]; exact h
theorem kp_put (h : KP K Hq vs kvs) (hv : Dp K Hq v d) (k : Key) : KP K Hq (putK vs k v) (putD kvs k d) := by
  unfold putK putD
  rw [kp_any h k]
  split
  · exact kp_map h hv k
  · exact kp_app h (.cons ⟨rfl, hv⟩ .nil)
theorem kp_merge (h2 : KP K Hq us ls) : ∀ {vs : List (Key × V)} {kvs : List (Key × PyData)}, KP K Hq vs kvs → KP K Hq (mergeK vs us) (mergeD kvs ls) := by
  induction h2 with
  | nil => exact fun h => h
  | @cons a b as bs h t ih =>
    intro vs kvs h1
    show KP K Hq (mergeK (putK vs a.1 a.2) as) (mergeD (putD kvs b.1 b.2) bs)
    rw [h.1]
    exact ih (kp_put h1 h.2 _)
theorem kp_len (h : KP K Hq vs kvs) : vs.length = kvs.length := PySem.Paired.length h
end
/-- pairs of different keys -/
theorem merge_new : ∀ (more kvs : List (Key × PyData)), (kvs ++ more).map (·.1) |>.Nodup → mergeD kvs more = kvs ++ more
  | [], kvs, _ => (List.append_nil _).symm
  | p :: r, kvs, h => by
    have e : putD kvs p.1 p.2 = kvs ++ [p] := by
      unfold putD
      rw [if_neg]
      intro z
      rw [List.any_eq_true] at z
      obtain ⟨q, h1, h2⟩ := z
      rw [List.map_append, List.nodup_append] at h
      exact h.2.2 _ (List.mem_map.mpr ⟨q, h1, rfl⟩) _ (List.mem_map.mpr ⟨p, List.mem_cons_self .., rfl⟩) (of_decide_eq_true h2)
    show mergeD (putD kvs p.1 p.2) r = _
    rw [e, merge_new r (kvs ++ [p]) (by rw [List.append_assoc]; exact h), List.append_assoc]; rfl
section
variable {K : PySem.W.Frag} {He Fr Hd H : Hp} {ps : List Addr} {m : Env'} {ow ow1 ow2 cs : List OC} {ts : List Knd} {σ : L2.St} {xs : List V} {k k1 k2 : Knd} {x : V} {n : Nat}
/-- what is None -/
def isNon : Knd → Bool
  | .v .non => true
  | _ => false
theorem non_ok {Hq : Hp} (h : KOk K Hq Hd ps x k) (hk : ∀ d, k ≠ .arg d) (hk2 : k ≠ .dat .none) : decide (x = .non) = isNon k := by
  cases k with
  | own j => obtain ⟨p, _, rfl⟩ := h; rfl
  | v y => cases (show x = y from h); cases x <;> rfl
  | arg d => exact absurd rfl (hk d)
  | dat d =>
    have h : Dp K Hq x d := h
    cases h with
    | non => exact absurd rfl hk2
    | _ => rfl
theorem ee_isNK {ta : TE} (ha : EE K ta m ow k ow1) (hk : ∀ d, k ≠ .arg d) (hk2 : k ≠ .dat .none) : EE K (tIsN ta) m ow (.v (.bl (isNon k))) ow1 := fun He Fr ts σ xs H Q S q =>
  ha He Fr ts σ xs H _ S fun x H1 ⟨Hd, ps, S1⟩ => by
    rw [non_ok S1.pop.1 hk hk2]
    exact q _ H1 ⟨Hd, ps, S1.pop.2.push rfl⟩
/-! ### dicts -/
def rDP (K : PySem.W.Frag) : List V → Hp → VK → Prop := fun xs H Q => ∃ (a : Addr) (ps : List Addr) (kvs : List (Key × V)), xs = [.ref a] ∧ SqL K H a (ps.map V.ref) ∧ Paired (fun p kv => SqT K H p [kV kv.1, kv.2]) ps kvs ∧
    ∀ p, H p = none → Q (.ref p) (upd H p (.dK (mergeK [] kvs)))
theorem call_dp {X : Cx} (hc : X.calm = true) : CallR X (.type "dict") (rDP X.K) := call_dictP hc
def kD : Key → PyData
  | .inl i => .int i
  | .inr s => .str s
def prD (kv : Key × PyData) : PyData := .tuple [kD kv.1, kv.2]
theorem dp_key {Hq : Hp} {k : Key} (h : Dp K Hq x (kD k)) : x = kV k := by
  cases k with
  | inl i => cases h; rfl
  | inr s => cases h; rfl
theorem dp_pairs {Hq : Hp} : ∀ {vs : List V} {kvs : List (Key × PyData)}, DpAll K Hq vs (kvs.map prD) → ∃ (ps : List Addr) (us : List (Key × V)), vs = ps.map V.ref ∧ Paired (fun p kv => SqT K Hq p [kV kv.1, kv.2]) ps us ∧ KP K Hq us kvs
  | _, [], .nil => ⟨[], [], rfl, .nil, .nil⟩
  | _, p :: r, .cons h t => by
    obtain ⟨ps, us, rfl, h2, h3⟩ := dp_pairs t
    cases h with
    | tup hs ha =>
      rename_i a ys
      cases ha with
      | cons h4 ha => cases ha with
        | cons h5 ha =>
          cases ha
          cases dp_key h4
          exact ⟨a :: ps, (p.1, _) :: us, rfl, .cons hs h2, .cons ⟨rfl, h5⟩ h3⟩
theorem cc_dictP {fl : Bool} (kvs : List (Key × PyData)) (h : seqOf ow k = some (fl, kvs.map prD)) (hp : (fl || imms (kvs.map prD)) = true) : CC K (rDP K) m ow [k] (.own ow.length) (ow ++ [.dic (mergeD [] kvs)]) := by
  rintro He Fr ts σ ys xs H Q hl ⟨Hd, ps, S⟩ q
  obtain ⟨y, rfl⟩ := one hl
  obtain ⟨p, vs, rfl, h1, h2⟩ := seq_ok S S.pop.1 h
  have h2 := prt h2 hp
  obtain ⟨as, us, rfl, h3, h4⟩ := dp_pairs h2
  refine ⟨p, as, us, rfl, h1, L2.Paired.mapP h3 fun _ _ z => sqt_mono ((port_sub _ _).trans S.dh) z, fun r hr => ?_⟩
  have e : Same H (upd H r (.dK (mergeK [] us))) := fun a o z => by rw [upd_ne (ne_of_none z hr)]; exact z
  have nD : Hd r = none := by
    cases z : Hd r with
    | none => rfl
    | some o => rw [S.dh _ _ z] at hr; cases hr
  exact q _ _ ⟨Hd, _, (S.pop.2.grow e).pushC (c0 := .dic (mergeD [] kvs)) (S.noF hr) (fun z => by obtain ⟨o, w⟩ := S.inH z; rw [hr] at w; cases w) ⟨nD, _, upd_same, kp_merge h4 .nil⟩⟩
theorem SB.ownD (S : SB K He Fr Hd ps m ow ts σ xs H) {n : Nat} {kvs : List (Key × PyData)} (h : KOk K (port He Hd) Hd ps x (.own n)) (e : ow[n]? = some (.dic kvs)) :
    ∃ p vs, ps[n]? = some p ∧ x = .ref p ∧ Hd p = none ∧ H p = some (.dK vs) ∧ KP K (port He Hd) vs kvs := by
  obtain ⟨p, h1, h2⟩ := h
  obtain ⟨h3, vs, h4, h5⟩ := S.ok n p _ h1 e
  exact ⟨p, vs, h1, h2, h3, h4, h5⟩
/-- d[k] -/
theorem ee_dget {td ty : TE} {kvs : List (Key × PyData)} {key : Key} {d : PyData} (h : EE K td m ow (.own n) ow1) (h2 : EE K ty m ow1 (.v (kV key)) ow2) (hn : ow2[n]? = some (.dic kvs)) (hv : valD kvs key = some d) : EE K (tDGet td ty) m ow (kd d) ow2 := fun He Fr ts σ xs H Q S q =>
  h He Fr ts σ xs H _ S fun x H1 S1 => h2 He Fr _ σ _ H1 _ S1 fun y H2 ⟨Hd, ps, S2⟩ => by
    cases (show y = kV key from S2.pop.1)
    obtain ⟨p, vs, _, rfl, _, e2, e3⟩ := S2.ownD S2.pop.2.pop.1 hn
    obtain ⟨v, g1, g2⟩ := kp_get e3 hv
    exact ⟨p, v, rfl, g1 ▸ DGet.k e2, q _ _ ⟨Hd, ps, S2.pop.2.pop.2.push (kd_ok g2)⟩⟩
theorem ee_callE {α : Type} {args : α → List PyData} {pre : α → Prop} {out : α → PyData} {ar : TA} {E : XK} {ks : List Knd} (b : Bool) (a : α) (h : EA K ar m ow ks ow1) (ha : ads ow1 ks = some (args a)) (hp : pre a) (e1 : resK b ow1 (out a) = k) (e2 : resO b ow1 (out a) = ow2) : EE K (tCall (spP args pre out K) [] E ar) m ow k ow2 := e1 ▸ e2 ▸ ee_call b a h ha hp
theorem pds2 {d1 d2 : PyData} (h1 : pd k1 = some d1) (h2 : pd k2 = some d2) : pds [k1, k2] = some [d1, d2] := by simp only [pds, h1, h2]
theorem call_rpK {X : Cx} (hK : X.K = K) (hg : X.A.guards = some []) (hu : X.A.units + 64 < cLine) : CallR X (.builtin "repr") (rRp K) := hK ▸ call_rp hg hu
end
end LD

/-! Tuples of flat data, ranges from a on, lists handed on, lists taken apart. -/
namespace LD
open PySem PySem.Spec PyProof.Rows L2
/-- flat data as values -/
def vD : PyData → V
  | .none => .non
  | .bool b => .bl b
  | .int i => .int i
  | .str s => .str s
  | _ => .non
def flD : PyData → Bool
  | .none => true
  | .bool _ => true
  | .int _ => true
  | .str _ => true
  | _ => false
section
variable {K : PySem.W.Frag} {He Fr Hd H : Hp} {ps : List Addr} {m : Env'} {ow ow1 ow2 cs : List OC} {ts ks : List Knd} {σ : L2.St} {xs : List V} {k k1 k2 k3 : Knd} {x y : V} {n i' : Nat} {P : Post} {ar : TA} {te tl to : TE} {th : TO} {ds es : List PyData} {d : PyData} {fl b : Bool} {i j l : Int}
theorem flat_vD : ∀ {xs : List V} {ds : List PyData}, DpAll K H xs ds → ds.all flD = true → xs = ds.map vD ∧ xs.all flatV = true
  | _, _, .nil, _ => ⟨rfl, rfl⟩
  | _, _, .cons h t, e => by
    rw [List.all_cons, Bool.and_eq_true] at e
    obtain ⟨h1, h2⟩ := flat_vD t e.2
    have e := e.1
    cases h with
    | non => exact ⟨by rw [h1]; rfl, by rw [List.all_cons, h2]; rfl⟩
    | bl b => exact ⟨by rw [h1]; rfl, by rw [List.all_cons, h2]; rfl⟩
    | int b => exact ⟨by rw [h1]; rfl, by rw [List.all_cons, h2]; rfl⟩
    | str b => exact ⟨by rw [h1]; rfl, by rw [List.all_cons, h2]; rfl⟩
    | lst _ _ => cases e
    | tup _ _ => cases e
    | dic _ => cases e
/-- x in a tuple of flat data -/
theorem rr_inT {neg : Bool} (h : tupOf k = some (fl, ds)) (hf : ds.all flD = true) (hx : flatV x = true) : RR K (rIn K neg) m ow (.v x) k (.v (.bl (if neg then !inV x (ds.map vD) else inV x (ds.map vD)))) ow := by
  rintro He Fr ts σ x' y xs H Q ⟨Hd, ps, S⟩ q
  obtain ⟨p, vs, rfl, h1, h2⟩ := tup_ok S S.pop.1 h
  obtain ⟨rfl, h3⟩ := flat_vD h2 hf
  cases (show x' = x from S.pop.2.pop.1)
  exact ⟨p, _, rfl, .inr h1, hx, h3, q _ H ⟨Hd, ps, S.pop.2.pop.2.push rfl⟩⟩
theorem ss_par3 {a b c : Nat} (h : EA K ar m ow [k1, k2, k3] ow1) (q : P.nx (((m.set a (some k1)).set b (some k2)).set c (some k3)) ow1) : SS K (tPar3 a b c ar) m ow P := fun He Fr ts σ xs H D S F =>
  h He Fr ts σ xs H _ S fun ys H1 hl ⟨Hd, ps, S1⟩ => by
    obtain ⟨hp, S2⟩ := S1.args hl
    cases hp with
    | cons h1 hp => cases hp with
      | cons h2 hp => cases hp with
        | cons h3 hp =>
          cases hp
          exact ⟨_, _, _, rfl, F.nx _ _ _ _ q ⟨Hd, ps, ((S2.store h1 a).store h2 b).store h3 c⟩⟩
theorem ee_toD (b : Bool) (ds : List PyData) (n : Nat) (h : EE K te m ow k ow1) (h2 : EO K th m ow1 (some i) ow2) (hs : seqOf ow2 k = some (fl, ds)) (hi : i = (n : Int)) (hp : (fl || imms (ds.take n)) = true) :
    EE K (tSl (rSlL K) te tNoPart th) m ow (newK b ow2 (ds.take n)) (newO b ow2 (ds.take n)) := by
  subst hi
  exact ee_as (ee_slice b h eo_no h2 hs (by rw [cut_to]; exact hp)) (cut_to ds n)
/-- a list of one's own becomes data -/
theorem ee_give (h : EE K te m ow (.own n) ow1) (hn : ow1[n]? = some (.lst ds)) : EE K te m ow (.dat (.list ds)) (ow1.set n .dead) := fun He Fr ts σ xs H Q S q =>
  h He Fr ts σ xs H _ S fun x H1 ⟨Hd, ps, S1⟩ => by
    obtain ⟨p, vs, e1, rfl, e2, e3, e4⟩ := S1.own S1.pop.1 hn
    have S2 := S1.pop.2
    have fp := S2.fp p (List.mem_of_getElem? e1)
    have eD : Same Hd (upd Hd p (.lst vs)) := fun a o z => by rw [upd_ne (fun w => by rw [w, e2] at z; cases z)]; exact z
    have hN : He p = none := by
      cases z : He p with
      | none => rfl
      | some o => rw [S2.eh _ _ z] at e2; cases e2
    have eP : Same (port He Hd) (port He (upd Hd p (.lst vs))) := port_mono eD
    refine q _ _ ⟨upd Hd p (.lst vs), ps, ⟨S2.eh.trans eD, fun a o z => ?_, S2.fh, fun a o z => ?_, by rw [kids_set (c1 := OC.dead) hn rfl]; exact S2.fk, by rw [kids_set (c1 := OC.dead) hn rfl]; exact S2.nk, by rw [List.length_set]; exact S2.pl, fun j r c hj hc => ?_, L2.Paired.mapP S2.sv fun x k h => h.mono0 eP eD, .cons ?_ (L2.Paired.mapP S2.tv fun x k h => h.mono0 eP eD)⟩⟩
    · by_cases w : a = p
      · subst w; rw [upd_same] at z; cases z; exact e3
      · rw [upd_ne w] at z; exact S2.dh _ _ z
    · have w : a ≠ p := fun w => by rw [w, fp] at z; cases z
      rw [upd_ne w]
      exact S2.fd _ _ z
    · by_cases w : n = j
      · subst w
        rw [e1] at hj
        cases hj
        rw [List.getElem?_set_self (List.getElem?_eq_some_iff.mp hn).1] at hc
        cases hc
        exact ⟨_, e3⟩
      · rw [List.getElem?_set_ne w] at hc
        have hne := S2.apart e1 hj w
        have q1 := S2.ok j r c hj hc
        cases c with
        | dead => exact q1
        | lst ds1 => exact ⟨by rw [upd_ne hne]; exact q1.1, q1.2.imp fun us h => ⟨h.1, dpa_mono eP h.2⟩⟩
        | dic ds1 => exact ⟨by rw [upd_ne hne]; exact q1.1, q1.2.imp fun us h => ⟨h.1, kp_mono eP h.2⟩⟩
        | ldic od us ds1 => exact ⟨by rw [upd_ne hne]; exact q1.1, q1.2.1, kp_mono eP q1.2.2⟩
        | gen φ ks => exact ⟨by rw [upd_ne hne]; exact q1.1, q1.2.imp fun us h => ⟨h.1, h.2.1, L2.Paired.mapP h.2.2 fun x k h => h.mono0 eP eD⟩⟩
        | tpl ks => exact q1.imp fun us h => ⟨h.1, L2.Paired.mapP h.2 fun x k h => h.mono0 eP eD⟩
        | jl n => exact ⟨by rw [upd_ne hne]; exact q1.1, q1.2⟩
        | tr qs lss => exact ⟨by rw [upd_ne hne]; exact q1.1, q1.2.1, fun x hx => by rw [upd_ne (S2.kidNe (List.mem_of_getElem? e1) (kids_mem hc hx))]; exact q1.2.2.1 x hx, L2.Paired.mapP q1.2.2.2 fun x k h => h.imp fun vs h => ⟨h.1, dpa_mono eP h.2⟩⟩
    · exact .lst (.inl (.inl (port_of upd_same (.inr hN)))) (dpa_mono eP e4)
theorem prd_kd {Hq : Hp} : ∀ {vs : List V} {ds : List PyData}, DpAll K Hq vs ds → Paired (KOk K Hq Hd ps) vs (ds.map kd)
  | _, _, .nil => .nil
  | _, _, .cons h t => .cons (kd_ok h) (prd_kd t)
/-- a, b, c = a list -/
theorem ss_unl (is : List Nat) (h : EE K te m ow k ow1) (hs : seqOf ow1 k = some (true, ds)) (hl : is.length = ds.length) (q : P.nx (setAll m is (ds.map kd)) ow1) : SS K (tAsg te (gUnl K is.length (gNs is))) m ow P := fun He Fr ts σ xs H D S F =>
  h He Fr ts σ xs H _ S fun x H1 ⟨Hd, ps, S1⟩ => by
    obtain ⟨p, vs, rfl, h1, h2⟩ := seq_ok S1 S1.pop.1 hs
    refine ⟨p, vs, rfl, h1, by rw [dpa_len h2, hl], ?_⟩
    exact store_all is (by rw [List.length_map]; exact hl) (prd_kd h2) S1.pop.2 fun σ' S' => F.nx _ _ _ _ q ⟨Hd, ps, S'⟩
/-- for x in range(a, b) -/
theorem ss_forR2 {tb : TS} {j : Nat} (I : Nat → Env' → List OC → Prop) (n : Nat) (h : EA K ar m ow [.v (.int i), .v (.int l)] ow1) (hn : (l - i).toNat = n) (b1 : -10000000 < i) (b2 : i < 10000000) (b3 : -10000000 < l) (b4 : l < 10000000) (h0 : I 0 m ow1)
    (ht : ∀ a m ow, a < n → I a m ow → SS K tb (m.set j (some (.v (.int (i + (a : Int)))))) ow { nx := I (a + 1), rt := P.rt, bk := P.nx, ct := I (a + 1), n0 := ow1.length }) (he : ∀ m ow, I n m ow → P.nx m ow) :
    SS K (tFor (iRng2 ar) (gName j) tb) m ow P := fun He Fr ts σ xs H D S F =>
  h He Fr ts σ xs H _ S fun ys H1 hyl ⟨Hd, ps, S0⟩ => by
    obtain ⟨hp, S1⟩ := S0.args hyl
    obtain ⟨y, z, rfl⟩ := two hyl
    cases hp with
    | cons hy hp => cases hp with
      | cons hz _ =>
        cases (show y = .int i from hy)
        cases (show z = .int l from hz)
        refine ⟨i, l, rfl, ⟨by omega, by omega, by omega, by omega⟩, fun a k σ H => k = n - a ∧ a ≤ n ∧ ∃ m ow, I a m ow ∧ SA K He Fr m ow ts σ xs H, ⟨_, rfl, Nat.zero_le _, _, _, h0, _, _, S1⟩, ?_⟩
        rintro a k σ2 H2 ⟨rfl, hi, m2, ow2, I2, Hd2, ps2, S2⟩
        by_cases hlt : a < n
        · refine .inr ⟨by show a < (l - i).toNat; omega, _, fun σ' H' h => ⟨n - (a + 1), by omega, rfl, hlt, h⟩, fun x H' hy => ?_⟩
          obtain ⟨rfl, rfl⟩ := hy
          exact ht a m2 ow2 hlt I2 He Fr ts _ xs _ _ ⟨Hd2, ps2, S2.store (x := .int (i + (a : Int))) (k := .v (.int (i + (a : Int)))) rfl j⟩ ⟨fun m ow σ H q S => ⟨m, ow, q, S⟩, F.rt, fun m ow σ H q S => F.nx _ _ _ _ q S, fun m ow σ H q S => ⟨m, ow, q, S⟩, S1.inT⟩
        · have e : a = n := by omega
          subst e
          exact .inl ⟨by show (l - i).toNat ≤ a; omega, F.nx _ _ _ _ (he _ _ I2) ⟨Hd2, ps2, S2⟩⟩
/-- [.. for x in range(a, b)] -/
theorem ee_lcR2 (b : Bool) {tt : TT} {vs : List Nat} {j n : Nat} (c : Nat → Bool) (f : Nat → PyData) (hl : EA K ar m ow [.v (.int i), .v (.int l)] ow1) (hn : (l - i).toNat = n) (b1 : -10000000 < i) (b2 : i < 10000000) (b3 : -10000000 < l) (b4 : l < 10000000) (hT : Turn1 K m ow1 vs j tt te (fun a : Nat => .v (.int (i + (a : Int)))) c f (List.range n)) (hj : j ∈ vs) (hz : n < 10000000) :
    EE K (tLc (iRng2 ar) (gName j) tt te vs) m ow (newK b ow1 (((List.range n).filter c).map f)) (newO b ow1 (((List.range n).filter c).map f)) := fun He Fr ts σ xs H Q S q =>
  hl He Fr ts σ xs H _ S fun ys H1 hyl ⟨Hd, ps, S0⟩ => by
    obtain ⟨hp, S1⟩ := S0.args hyl
    obtain ⟨y, z, rfl⟩ := two hyl
    cases hp with
    | cons hy hp => cases hp with
      | cons hz2 _ =>
      cases (show y = .int i from hy)
      cases (show z = .int l from hz2)
      refine ⟨i, l, rfl, ⟨by omega, by omega, by omega, by omega⟩, fun D hD => ?_⟩
      have hF := S1.noF hD
      refine ⟨fun a k H => k = n - a ∧ a ≤ n ∧ SoFar K He Fr m ow1 ts σ xs D ((((List.range n).take a).filter c).map f) H, ⟨_, rfl, Nat.zero_le _, lc_begin S1 hD⟩, ?_⟩
      rintro a k H2 ⟨rfl, hi, S2⟩
      by_cases hlt : a < n
      · have ha : (List.range n)[a]? = some a := by rw [List.getElem?_range hlt]
        refine .inr ⟨by show a < (l - i).toNat; omega, _, fun H' h => ⟨n - (a + 1), by omega, rfl, hlt, h⟩, fun x H' hy => ?_⟩
        obtain ⟨rfl, rfl⟩ := hy
        refine lc_turn (a := a) hj hF hT (List.mem_of_getElem? ha) ?_ (fun Hd4 ps4 S4 => rfl) S2 fun H' h => ?_
        · rw [List.length_map]
          refine Nat.lt_of_le_of_lt (List.length_filter_le ..) ?_
          rw [List.length_take, List.length_range]
          omega
        · rw [filt_step ha]; exact h
      · have e : a = n := by omega
        subst e
        refine .inl ⟨by show (l - i).toNat ≤ a; omega, q _ _ ?_⟩
        rw [List.take_of_length_le (by rw [List.length_range]; omega)] at S2
        exact lc_end b S2
/-- xs.remove(i) -/
theorem ee_remove {ns ns0 : List Int} (h : EE K to m ow (.own n) ow1) (h0 : ow1[n]? = some (.lst (ns0.map PyData.int))) (ha : EA K ar m ow1 [.v (.int i)] ow2) (hn : ow2[n]? = some (.lst (ns.map PyData.int))) (hj : ns[i']? = some i) (hno : ∀ j < i', ns[j]? ≠ some i) :
    EE K (tBM K "list" rRemI to ar) m ow (.v .non) (ow2.set n (.lst ((ns.eraseIdx i').map PyData.int))) := fun He Fr ts σ xs H Q S q =>
  h He Fr ts σ xs H _ S fun x H1 ⟨Hd, ps, S1⟩ => ⟨S1.isL h0, ha He Fr _ σ _ H1 _ ⟨Hd, ps, S1⟩ fun ys H2 hl ⟨Hd2, ps2, S2⟩ => by
    obtain ⟨hp, S3⟩ := S2.args hl
    cases hp with
    | cons h1 hp =>
      cases hp
      cases (show _ = V.int i from h1)
      obtain ⟨p, vs, e1, rfl, _, e2, e3⟩ := S3.own S3.pop.1 hn
      rw [of_dpa_ints e3] at e2
      exact ⟨p, ns, i, i', rfl, rfl, e2, hj, hno, q _ _ ⟨Hd2, ps2, (S3.pop.2.write e1 hn (dpa_ints _)).push rfl⟩⟩⟩
/-- whether a list holds something -/
theorem eb_tru (h : EE K te m ow k ow1) (hs : seqOf ow1 k = some (fl, ds)) : EB K (fun σ H Q => te σ H fun x H' => ∃ k, TruV K x H' k ∧ Q k H') m ow (!ds.isEmpty) ow1 := fun He Fr ts σ xs H Q S q =>
  h He Fr ts σ xs H _ S fun x H1 ⟨Hd, ps, S1⟩ => by
    obtain ⟨p, vs, rfl, h1, h2⟩ := seq_ok S1 S1.pop.1 hs
    refine ⟨!ds.isEmpty, .inl ⟨vs, h1, ?_⟩, q H1 ⟨Hd, ps, S1.pop.2⟩⟩
    have := dpa_len h2
    cases vs <;> cases ds <;> first | rfl | simp at this
theorem ad_ka1 (ow : List OC) (d : PyData) : ad ow (ka d) = some d := by cases d <;> rfl
theorem ad_kd1 (ow : List OC) (d : PyData) : ad ow (kd d) = some d := by cases d <;> rfl
theorem ads_c {d1 : PyData} {es : List PyData} (h1 : ad ow k1 = some d1) (h2 : ads ow ks = some es) : ads ow (k1 :: ks) = some (d1 :: es) := by simp only [ads, h1, h2]
/-- what never changes may be handed on -/
theorem ee_imm (h : EE K te m ow (ka d) ow1) (hi : imm d = true) : EE K te m ow (kd d) ow1 := fun He Fr ts σ xs H Q S q =>
  h He Fr ts σ xs H _ S fun x H1 ⟨Hd, ps, S1⟩ => by
    have h1 := S1.pop.1
    refine q x H1 ⟨Hd, ps, S1.pop.2.push ?_⟩
    cases d with
    | none => exact h1
    | bool _ => exact h1
    | int _ => exact h1
    | str _ => exact h1
    | list _ => exact kd_ok (imm_ok h1 hi)
    | tuple _ => exact kd_ok (imm_ok h1 hi)
    | dict _ => exact kd_ok (imm_ok h1 hi)
end
end LD
namespace LD
open PySem PySem.Spec PyProof.Rows L2
theorem at_nat {ds : List PyData} {n : Nat} {d : PyData} (h : ds[n]? = some d) : atI ds (n : Int) = some d := by
  have hl := (List.getElem?_eq_some_iff.mp h).1
  unfold atI ixN
  rw [if_pos (by omega), if_pos (by omega)]
  exact h
end LD
namespace LD
open PySem PySem.Spec PyProof.Rows L2
theorem ss_ifX {K : PySem.W.Frag} {m : Env'} {ow : List OC} {P : Post} {tc : TT} {t u : TS} (Pq : Bool → List OC → Prop) (h : ∃ b ow1, EB K tc m ow b ow1 ∧ Pq b ow1) (h1 : ∀ ow1, Pq true ow1 → SS K t m ow1 P) (h2 : ∀ ow1, Pq false ow1 → SS K u m ow1 P) : SS K (tIfS tc t u) m ow P := by
  obtain ⟨b, ow1, h, hp⟩ := h
  refine ss_if h (fun e => h1 ow1 (e ▸ hp)) fun e => h2 ow1 (e ▸ hp)
end LD
namespace LD
open PySem PySem.Spec PyProof.Rows L2
section
variable {K : PySem.W.Frag} {He Fr H : Hp} {m : Env'} {ow ow1 ow2 : List OC} {ts : List Knd} {σ : L2.St} {xs : List V} {P : Post} {ar : TA} {te : TE} {i : Int} {n : Nat}
theorem lc_turnX {D : Addr} {ds : List PyData} {d : PyData} {x : V} {kx k' : Knd} {vs : List Nat} {j : Nat} {Nx : Hp → Prop} (hj : j ∈ vs) (hF : Fr D = none) (he : EE K te ((wipeM m vs).set j (some kx)) ow k' ow2) (hk' : pd k' = some d) (hz : ds.length < 10000000)
    (hx : ∀ Hd ps, SB K He Fr Hd ps m ow ts σ xs (hid H D) → KOk K (port He Hd) Hd ps x kx)
    (S : SoFar K He Fr m ow ts σ xs D ds H) (q : ∀ H', SoFar K He Fr m ow2 ts σ xs D (ds ++ [d]) H' → Nx H') :
    gName j x (wipe σ vs) H fun σ2 H2 => wipe σ2 vs = wipe σ vs ∧ tYes σ2 H2 fun b H3 => if b = true then te σ2 H3 fun y H4 => ∃ acc, H4 D = some (.lst acc) ∧ acc.length < sizeLine ∧ Nx (upd H4 D (.lst (acc ++ [y]))) else Nx H3 := by
  obtain ⟨Hd, ps, acc, hD, S, hacc⟩ := S
  obtain ⟨zs, hz1, hz2⟩ := hold S.sv
  have hx := hx Hd ps S
  have S1 := (S.lock hD rfl).tvs (prd_app (dpa_prd (ps := ps) hacc) (prd_app hz1 S.tv))
  have lz := PySem.Paired.length hz1
  have la := dpa_len hacc
  have S2 := (S1.wipe vs).store hx j
  refine ⟨wipe_again σ vs j _ hj, eb_yes He _ _ _ _ _ _ ⟨_, _, S2⟩ fun H3 ⟨Hd3, ps3, S3⟩ => ?_⟩
  have back : ∀ {Hd4 : Hp} {ps4 : List Addr} {m4 : Env'} {σ4 : L2.St} {H4 : Hp}, SB K He (upd Fr D (.lst acc)) Hd4 ps4 m4 ow2 (ds.map Knd.dat ++ (known m ++ ts)) σ4 (acc ++ (zs ++ xs)) H4 →
      H4 D = some (.lst acc) ∧ SB K He Fr Hd4 ps4 m ow2 ts σ xs (hid H4 D) ∧ DpAll K (port He Hd4) acc ds := by
    intro Hd4 ps4 m4 σ4 H4 S4
    obtain ⟨e, S5⟩ := S4.unlock hF
    obtain ⟨t1, t2⟩ := prd_split (by rw [List.length_map]; exact la) S5.tv
    obtain ⟨t3, t4⟩ := prd_split lz t2
    exact ⟨e, (S5.svs (hz2 _ _ _ t3)).tvs t4, of_dpa_prd t1⟩
  rw [if_pos rfl]
  refine he He _ _ _ _ _ _ ⟨_, _, S3⟩ fun y H4 ⟨Hd4, ps4, S4⟩ => ?_
  obtain ⟨hy, S4⟩ := S4.pop
  obtain ⟨e, S5, h5⟩ := back S4
  exact ⟨acc, e, by rw [la, sizeLine_eq]; omega, q _ ⟨Hd4, ps4, acc ++ [y], upd_same, by rw [hid_upd]; exact S5, dpa_app h5 (.cons (pd_ok hy hk') .nil)⟩⟩
/-- [e for x in range(n)], e changes one's own objects -/
theorem ee_lcRX (b : Bool) {vs : List Nat} {j : Nat} (oW : Nat → List OC) (dS : Nat → List PyData) (hl : EA K ar m ow [.v (.int i)] (oW 0)) (hn : i = (n : Int)) (h0 : dS 0 = [])
    (hT : ∀ a, a < n → ∃ k' d, pd k' = some d ∧ EE K te ((wipeM m vs).set j (some (.v (.int (a : Int))))) (oW a) k' (oW (a + 1)) ∧ dS (a + 1) = dS a ++ [d]) (hj : j ∈ vs) (hz : ∀ a, a ≤ n → (dS a).length < 10000000) (hz2 : n < 10000000) :
    EE K (tLc (iRng1 ar) (gName j) tYes te vs) m ow (newK b (oW n) (dS n)) (newO b (oW n) (dS n)) := fun He Fr ts σ xs H Q S q =>
  hl He Fr ts σ xs H _ S fun ys H1 hyl ⟨Hd, ps, S0⟩ => by
    obtain ⟨hp, S1⟩ := S0.args hyl
    obtain ⟨y, rfl⟩ := one hyl
    subst hn
    cases hp with
    | cons hy _ =>
    have hy : y = .int n := hy
    subst hy
    refine ⟨n, rfl, by omega, by omega, fun D hD => ?_⟩
    have hF := S1.noF hD
    refine ⟨fun a k H => k = n - a ∧ a ≤ n ∧ SoFar K He Fr m (oW a) ts σ xs D (dS a) H, ⟨_, rfl, Nat.zero_le _, by rw [h0]; exact lc_begin S1 hD⟩, ?_⟩
    rintro a k H2 ⟨rfl, hi, S2⟩
    by_cases hlt : a < n
    · obtain ⟨k', d, g1, g2, g3⟩ := hT a hlt
      refine .inr ⟨by show a < (n : Int).toNat; omega, _, fun H' h => ⟨n - (a + 1), by omega, rfl, hlt, h⟩, fun x H' hy => ?_⟩
      obtain ⟨rfl, rfl⟩ := hy
      refine lc_turnX hj hF g2 g1 (hz a hi) (fun Hd4 ps4 S4 => ?_) S2 fun H' h => ?_
      · show V.int (0 + (a : Int)) = V.int (a : Int)
        rw [Int.zero_add]
      · rw [g3]; exact h
    · have e : a = n := by omega
      subst e
      exact .inl ⟨by show (a : Int).toNat ≤ a; omega, q _ _ (lc_end b S2)⟩
end
end LD
namespace LD
open PySem PySem.Spec PyProof.Rows L2
section
variable {X : Cx} {K : PySem.W.Frag} {m : Env'} {ow ow1 : List OC} {k : Knd}
theorem op_inK (hK : X.K = K) : OpR X (compareOp .In) (rIn K false) := hK ▸ op_in_seq
theorem op_notInK (hK : X.K = K) : OpR X (compareOp .NotIn) (rIn K true) := hK ▸ op_notIn_seq
theorem ee_notNK {ta : TE} (ha : EE K ta m ow k ow1) (hk : ∀ d, k ≠ .arg d) (hk2 : k ≠ .dat .none) : EE K (tNotN ta) m ow (.v (.bl (!isNon k))) ow1 := fun He Fr ts σ xs H Q S q =>
  ha He Fr ts σ xs H _ S fun x H1 ⟨Hd, ps, S1⟩ => by
    rw [non_ok S1.pop.1 hk hk2]
    exact q _ H1 ⟨Hd, ps, S1.pop.2.push rfl⟩
end
end LD
namespace LD
open PySem PySem.Spec PyProof.Rows L2
theorem wipe_set {σ : L2.St} {vs : List Nat} {j : Nat} (x : Option V) (hj : j ∈ vs) : wipe (σ.set j x) vs = wipe σ vs := by
  apply List.ext_getElem?
  intro i
  rw [wipe_get, wipe_get, List.getElem?_set]
  by_cases h : i ∈ vs
  · rw [if_pos h, if_pos h]
    by_cases e : j = i
    · rw [if_pos e]
      by_cases h2 : j < σ.length
      · rw [if_pos h2, ← e, List.getElem?_eq_getElem h2]; rfl
      · rw [if_neg h2, ← e, List.getElem?_eq_none (by omega)]
    · rw [if_neg e]
  · rw [if_neg h, if_neg h, if_neg (fun e : j = i => h (by rw [← e]; exact hj))]
theorem wipe_wipe (σ : L2.St) (vs : List Nat) : wipe (wipe σ vs) vs = wipe σ vs := by
  apply List.ext_getElem?
  intro i
  rw [wipe_get, wipe_get]
  by_cases h : i ∈ vs
  · rw [if_pos h, if_pos h]; cases σ[i]? <;> rfl
  · rw [if_neg h]
section
variable {K : PySem.W.Frag} {He Fr H : Hp} {m : Env'} {ow ow1 : List OC} {ts : List Knd} {σ : L2.St} {xs : List V} {ar : TA} {te : TE} {tt : TT} {k : Knd} {fl : Bool}
theorem hid_grow {H : Hp} {D T : Addr} {o : HO} (hT : H T = none) : Same (hid H D) (hid (upd H T o) D) := fun a u h => by
  by_cases e : a = D
  · rw [e, hid_at] at h; cases h
  · rw [hid_ne e] at h ⊢
    rw [upd_ne (fun z => by rw [z, hT] at h; cases h)]; exact h
/-- [.. for i, x in enumerate(xs) if t] -/
theorem ee_lcE {α : Type} (b : Bool) {vs : List Nat} {j1 j2 : Nat} (as : List α) (emb : α → PyData) (c : Nat × α → Bool) (f : Nat × α → PyData) (hl : EA K ar m ow [k] ow1) (hs : seqOf ow1 k = some (fl, as.map emb))
    (hT : ∀ (i : Nat) (a : α), as[i]? = some a → EB K tt ((((wipeM m vs).set j1 (some (.v (.int (i : Int)))))).set j2 (some (ek fl (emb a)))) ow1 (c (i, a)) ow1 ∧ (c (i, a) = true → ∃ k', pd k' = some (f (i, a)) ∧ EE K te ((((wipeM m vs).set j1 (some (.v (.int (i : Int)))))).set j2 (some (ek fl (emb a)))) ow1 k' ow1))
    (h1 : j1 ∈ vs) (h2 : j2 ∈ vs) (hz : as.length < 10000000) :
    EE K (tLc (iEnum K ar) (gTup K 2 (gNs [j1, j2])) tt te vs) m ow (newK b ow1 ((((List.range as.length).zip as).filter c).map f)) (newO b ow1 ((((List.range as.length).zip as).filter c).map f)) := fun He Fr ts σ xs H Q S q =>
  hl He Fr ts σ xs H _ S fun ys H1 hyl ⟨Hd, ps, S1⟩ => by
    obtain ⟨y, rfl⟩ := one hyl
    obtain ⟨p, us, rfl, hsq, _⟩ := seq_ok S1 S1.pop.1 hs
    refine ⟨p, us, rfl, hsq, fun D hD => ?_⟩
    have hF := S1.noF hD
    have zl : ((List.range as.length).zip as).length = as.length := by rw [List.length_zip, List.length_range, Nat.min_self]
    refine ⟨fun i n H => n = as.length - i ∧ i ≤ as.length ∧ SoFar K He Fr m ow1 (k :: ts) σ (.ref p :: xs) D (((((List.range as.length).zip as).take i).filter c).map f) H, ⟨_, rfl, Nat.zero_le _, lc_begin S1 hD⟩, ?_⟩
    rintro i n H2 ⟨rfl, hi, S2⟩
    obtain ⟨Hd2, ps2, acc, hD2, S3, hacc⟩ := id S2
    obtain ⟨p2, us2, e, hsq2, hd2⟩ := seq_ok S3 S3.pop.1 hs
    cases e
    have hsq2 := (hid_sub H2 D).seq hsq2
    have hlen : us2.length = as.length := by rw [dpa_len hd2, List.length_map]
    by_cases hlt : i < as.length
    · have ha : as[i]? = some as[i] := List.getElem?_eq_getElem hlt
      have hzi : ((List.range as.length).zip as)[i]? = some (i, as[i]) := by rw [List.getElem?_zip_eq_some]; exact ⟨by rw [List.getElem?_range hlt], ha⟩
      refine .inr ⟨⟨us2, us2[i]'(by omega), hsq2, List.getElem?_eq_getElem (by omega)⟩, _, fun H' h => ⟨as.length - (i + 1), by omega, rfl, hlt, h⟩, fun x H' hy => ?_⟩
      obtain ⟨T, x, rfl, hTn, rfl, hy⟩ := hy
      have hx := hy us2 hsq2
      obtain ⟨d, g1, g2⟩ := dpa_at hd2 hx
      rw [List.getElem?_map, ha] at g1
      cases g1
      refine ⟨T, [.int (i : Int), x], rfl, .inl (.inl upd_same), rfl, _, _, rfl, ?_⟩
      refine ⟨_, _, rfl, rfl, ?_⟩
      -- the turn
      have S4 := S3.grow (hid_grow (D := D) (o := .tup [.int (i : Int), x]) hTn)
      have hDT : D ≠ T := fun z => by rw [← z, hD2] at hTn; cases hTn
      have hD3 : upd H2 T (.tup [.int (i : Int), x]) D = some (.lst acc) := by rw [upd_ne hDT]; exact hD2
      obtain ⟨zs, hz1, hz2⟩ := hold S4.sv
      have S5 := (S4.lock hD3 rfl).tvs (prd_app (dpa_prd (ps := ps2) hacc) (prd_app hz1 S4.tv))
      have lz := PySem.Paired.length hz1
      have la := dpa_len hacc
      have S6 := ((S5.wipe vs).store (x := .int (i : Int)) (k := .v (.int (i : Int))) rfl j1).store (ek_ok g2) j2
      obtain ⟨ht, he⟩ := hT i as[i] ha
      refine ⟨by rw [wipe_set _ h2, wipe_set _ h1, wipe_wipe], ht He _ _ _ _ _ _ ⟨_, _, S6⟩ fun H3 ⟨Hd3, ps3, S7⟩ => ?_⟩
      have back : ∀ {Hd4 : Hp} {ps4 : List Addr} {m4 : Env'} {σ4 : L2.St} {H4 : Hp}, SB K He (upd Fr D (.lst acc)) Hd4 ps4 m4 ow1 (((((((List.range as.length).zip as).take i).filter c).map f)).map Knd.dat ++ (known m ++ (k :: ts))) σ4 (acc ++ (zs ++ (.ref p :: xs))) H4 →
          H4 D = some (.lst acc) ∧ SB K He Fr Hd4 ps4 m ow1 (k :: ts) σ (.ref p :: xs) (hid H4 D) ∧ DpAll K (port He Hd4) acc ((((((List.range as.length).zip as).take i).filter c).map f)) := by
        intro Hd4 ps4 m4 σ4 H4 S4
        obtain ⟨e, S5⟩ := S4.unlock hF
        obtain ⟨t1, t2⟩ := prd_split (by rw [List.length_map]; exact la) S5.tv
        obtain ⟨t3, t4⟩ := prd_split lz t2
        exact ⟨e, (S5.svs (hz2 _ _ _ t3)).tvs t4, of_dpa_prd t1⟩
      cases hc : c (i, as[i]) with
      | false =>
        rw [if_neg Bool.false_ne_true]
        rw [filt_step hzi, hc, if_neg Bool.false_ne_true]
        obtain ⟨e, S8, h5⟩ := back S7
        exact ⟨_, _, acc, e, S8, h5⟩
      | true =>
        rw [if_pos rfl]
        obtain ⟨k', hk', he⟩ := he hc
        refine he He _ _ _ _ _ _ ⟨_, _, S7⟩ fun y H4 ⟨Hd4, ps4, S9⟩ => ?_
        obtain ⟨hy, S9⟩ := S9.pop
        obtain ⟨e, S8, h5⟩ := back S9
        have hlz : ((((((List.range as.length).zip as).take i).filter c).map f)).length < 10000000 := by
          rw [List.length_map]
          refine Nat.lt_of_le_of_lt (List.length_filter_le ..) ?_
          rw [List.length_take, zl]; omega
        refine ⟨acc, e, by rw [la, sizeLine_eq]; omega, ?_⟩
        rw [filt_step hzi, hc, if_pos rfl]
        exact ⟨Hd4, ps4, acc ++ [y], upd_same, by rw [hid_upd]; exact S8, dpa_app h5 (.cons (pd_ok hy hk') .nil)⟩
    · have e : i = as.length := by omega
      subst e
      refine .inl ⟨⟨us2, hsq2, by omega⟩, q _ _ ?_⟩
      rw [List.take_of_length_le (by rw [zl]; exact Nat.le_refl _)] at S2
      obtain ⟨Hd5, ps5, S5⟩ := lc_end b S2
      obtain ⟨g1, g2⟩ := S5.pop
      exact ⟨Hd5, ps5, g2.pop.2.push g1⟩
end
section
variable {X : Cx} {K : PySem.W.Frag}
theorem pg_tupK {es : List Expr} {k : Nat} {t : TGs} {n : Nat} {pos : Pos} (hK : X.K = K) (hc : X.calm = true) (h : PGs X es t)
    (hn : (assignEach es X.env).length = n := by rfl) (hst : (assignEach es X.env).findIdx? (·.1) = none := by rfl) : PG X (.Tuple es k pos) (gTup K n t) := hK ▸ pg_tup hc h hn hst
theorem pi_enumK {e : Expr} {ta : TA} {p pos tpos : Pos} {elts : List Expr} {kk : Nat} (hK : X.K = K) (hg : Gl X "enumerate") (hm : X.mg "enumerate" = none) (ha : PA X [e] ta) (hs : starEach [e] X.env = [(false, eval e X.env)] := by rfl) :
    PI X (.Tuple elts kk tpos) (.Call (.Name "enumerate" p) [e] [] pos) (iEnum K ta) := hK ▸ pi_enum hg hm ha hs
end
end LD
namespace LD
open PySem PySem.Spec PyProof.Rows L2
theorem ee_catE {K : PySem.W.Frag} {m : Env'} {ow : List OC} {n n2 : Nat} {ds es : List PyData} {k : Knd} (h1 : ow[n]? = some (.lst ds)) (h2 : ow[n2]? = some (.lst es)) (hz : ds.length + es.length ≤ 1000000) (e : k = .dat (.list (ds ++ es))) : RR K rCat m ow (.own n) (.own n2) k ow := by
  subst e
  exact rr_cat true h1 h2 hz
end LD

/-! Dicts of one's own: {}, d[k] = v, k in d, d.clear(). -/
namespace LD
open PySem PySem.Spec PyProof.Rows L2
section
variable {K : PySem.W.Frag} {He Fr Hd H : Hp} {ps : List Addr} {m : Env'} {ow ow1 ow2 ow3 : List OC} {ts : List Knd} {σ : L2.St} {xs : List V} {k : Knd} {n : Nat} {kvs : List (Key × PyData)} {key : Key} {d : PyData} {te to ti td ty : TE} {P : Post}
theorem SB.newD (S : SB K He Fr Hd ps m ow ts σ xs H) {r : Addr} {vs : List (Key × V)} (hr : H r = none) (h : KP K (port He Hd) vs kvs) : SA K He Fr m (ow ++ [.dic kvs]) (.own ow.length :: ts) σ (.ref r :: xs) (upd H r (.dK vs)) := by
  have e : Same H (upd H r (.dK vs)) := fun a o z => by rw [upd_ne (ne_of_none z hr)]; exact z
  have nD : Hd r = none := by
    cases z : Hd r with
    | none => rfl
    | some o => rw [S.dh _ _ z] at hr; cases hr
  exact ⟨Hd, _, (S.grow e).pushC (c0 := .dic kvs) (S.noF hr) (fun z => by obtain ⟨o, w⟩ := S.inH z; rw [hr] at w; cases w) ⟨nD, _, upd_same, h⟩⟩
/-- {} -/
theorem ee_dnew : EE K tDNewK m ow (.own ow.length) (ow ++ [.dic []]) := fun He Fr ts σ xs H Q ⟨Hd, ps, S⟩ q => fun p hp => q _ _ (S.newD hp .nil)
/-- d[k] = e -/
theorem ss_ditem (h : EE K te m ow k ow1) (ho : EE K to m ow1 (.own n) ow2) (hi : EE K ti m ow2 (.v (kV key)) ow3) (hn : ow3[n]? = some (.dic kvs)) (hk : pd k = some d) (hz : kvs.length < 1000000) (q : P.nx m (ow3.set n (.dic (putD kvs key d)))) : SS K (tAsg te (gSub to ti rSetD)) m ow P := fun He Fr ts σ xs H D S F =>
  h He Fr ts σ xs H _ S fun x H1 S1 => ho He Fr _ σ _ H1 _ S1 fun o H2 S2 => hi He Fr _ σ _ H2 _ S2 fun w H3 ⟨Hd, ps, S3⟩ => by
    cases (show w = kV key from S3.pop.1)
    obtain ⟨p, vs, e1, rfl, e0, e2, e3⟩ := S3.pop.2.ownD S3.pop.2.pop.1 hn
    have hx := pd_ok S3.pop.2.pop.2.pop.1 hk
    exact ⟨p, _, rfl, DPut.k e2 (by rw [kp_len e3, sizeLine_eq]; omega), F.nx _ _ _ _ q ⟨Hd, ps, S3.pop.2.pop.2.pop.2.writeC (c1 := .dic (putD kvs key d)) e1 hn e0 ⟨e0, _, upd_same, kp_put e3 hx key⟩⟩⟩
/-- k in d -/
theorem ee_din (h2 : EE K ty m ow (.v (kV key)) ow1) (h : EE K td m ow1 (.own n) ow2) (hn : ow2[n]? = some (.dic kvs)) : EE K (tDIn ty td) m ow (.v (.bl (valD kvs key).isSome)) ow2 := fun He Fr ts σ xs H Q S q =>
  h2 He Fr ts σ xs H _ S fun y H1 S1 => h He Fr _ σ _ H1 _ S1 fun x H2 ⟨Hd, ps, S2⟩ => by
    cases (show y = kV key from S2.pop.2.pop.1)
    obtain ⟨p, vs, _, rfl, _, e2, e3⟩ := S2.ownD S2.pop.1 hn
    refine ⟨p, _, rfl, DGet.k e2, ?_⟩
    rw [kp_some e3]
    exact q _ _ ⟨Hd, ps, S2.pop.2.pop.2.push rfl⟩
/-- d.clear() -/
theorem ee_dclear (h : EE K to m ow (.own n) ow1) (h0 : ow1[n]? = some (.dic kvs)) : EE K (tBM0 K "dict" rDClear to) m ow (.v .non) (ow1.set n (.dic [])) := fun He Fr ts σ xs H Q S q =>
  h He Fr ts σ xs H _ S fun x H1 ⟨Hd, ps, S1⟩ => by
    obtain ⟨p, vs, e1, rfl, e0, e2, e3⟩ := S1.ownD S1.pop.1 h0
    exact ⟨.inr (.inr (.inl ⟨rfl, .inl ⟨vs, e2⟩⟩)), p, vs, rfl, rfl, e2, q _ _ ⟨Hd, ps, (S1.pop.2.writeC (c1 := .dic []) e1 h0 e0 ⟨e0, _, upd_same, .nil⟩).push rfl⟩⟩
/-- sorted(d), whole numbers as keys -/
def rSortedDI : List V → Hp → VK → Prop := fun xs H Q => ∃ (a : Addr) (kvs : List (Key × V)) (ks : List Int), xs = [.ref a] ∧ Rd H a (.dK kvs) ∧ kvs.map (·.1) = ks.map Sum.inl ∧ ks.length < 64 ∧ ∀ (ys : List Int) (p : Addr), ys.Perm ks → ys.Pairwise (· ≤ ·) → H p = none → Q (.ref p) (upd H p (.lst (ys.map V.int)))
theorem call_sdi {X : Cx} (hc : X.calm = true) : CallR X (.builtin "sorted") rSortedDI := call_sortedDI hc
theorem kp_keys {Hq : Hp} {vs : List (Key × V)} (h : KP K Hq vs kvs) : vs.map (·.1) = kvs.map (·.1) := by
  induction h with
  | nil => rfl
  | cons h t ih => rw [List.map_cons, List.map_cons, h.1, ih]
theorem cc_sortedD (b : Bool) {ns : List Int} (h : ow[n]? = some (.dic kvs)) (hk : kvs.map (·.1) = ns.map Sum.inl) (hl : ns.length < 64) : CC K rSortedDI m ow [.own n] (newK b ow ((srt ns).map PyData.int)) (newO b ow ((srt ns).map PyData.int)) := by
  rintro He Fr ts σ ys xs H Q hyl ⟨Hd, ps, S⟩ q
  obtain ⟨y, rfl⟩ := one hyl
  obtain ⟨p, vs, _, rfl, _, e2, e3⟩ := S.ownD S.pop.1 h
  refine ⟨p, vs, ns, rfl, .inl e2, by rw [kp_keys e3, hk], hl, fun ms r g1 g2 hr => ?_⟩
  rw [srt_eq g1 g2]
  exact q _ _ (S.pop.2.made b hr (dpa_ints _))
/-- a def that returns a new dict -/
def spD {α : Type} (args : α → List PyData) (pre : α → Prop) (out : α → List (Key × PyData)) (K : PySem.W.Frag) : Sp := fun vs H Q _ => ∃ a, DpAll K H vs (args a) ∧ pre a ∧
  ∀ p us H' Hf, Same H H' → Frs H Hf H' → H p = none → Hf p = none → H' p = some (.dK us) → KP K Hf us (out a) → Q (.ref p) H'
def PretD (kvs : List (Key × PyData)) : Post := { nx := fun _ _ => False, rt := fun k ow => ∃ n, k = .own n ∧ ow[n]? = some (.dic kvs) }
theorem ee_callD {α : Type} {args : α → List PyData} {pre : α → Prop} {out : α → List (Key × PyData)} {ar : TA} {E : XK} {ks : List Knd} (a : α) (h : EA K ar m ow ks ow1) (ha : ads ow1 ks = some (args a)) (hp : pre a) : EE K (tCall (spD args pre out K) [] E ar) m ow (.own ow1.length) (ow1 ++ [.dic (out a)]) := fun He Fr ts σ xs H Q S q =>
  h He Fr ts σ xs H _ S fun ys H1 hl ⟨Hd, ps, S1⟩ => by
    obtain ⟨h1, S2⟩ := S1.args hl
    refine ⟨a, by rw [List.append_nil]; exact ads_ok S2 h1 ha, hp, fun p us H' Hf e f g1 g2 g3 g4 => ?_⟩
    obtain ⟨Hd', S', _, e2, e3⟩ := frs_ext S2 e f
    have nD : Hd' p = none := e3 p g1 g2
    have nP : p ∉ ps ++ kids ow1 := fun h => by obtain ⟨o, w⟩ := S2.inH h; rw [g1] at w; cases w
    exact q _ _ ⟨Hd', _, S'.pushC (c0 := .dic (out a)) (S2.noF g1) nP ⟨nD, us, g3, kp_mono e2 g4⟩⟩
theorem fin_D {α : Type} {args : α → List PyData} {pre : α → Prop} {out : α → List (Key × PyData)} {t : TS} {N : List Str} {vs : List V} {Q : VK} {E : XK} (h : spD args pre out K vs H Q E) (hS : ∀ a, pre a → SS K t (mst N (args a)) [] (PretD (out a))) : t { nx := fun _ H' => Q .non H', rt := Q } (start N vs) H := by
  obtain ⟨a, hd, hp, q⟩ := h
  have S0 : SB K H (fun _ => none) H [] (mst N (args a)) [] [] (start N vs) [] H :=
    ⟨Same.refl H, Same.refl H, fun _ _ z => (by cases z), fun _ _ z => (by cases z), fun _ z => (by cases z), List.nodup_nil, rfl, fun _ _ _ z => (by cases z), start_ok hd, .nil⟩
  refine hS a hp H _ [] _ [] H _ ⟨_, _, S0⟩ ⟨fun m ow σ H' e _ => e.elim, fun k m ow σ x H' hr ⟨Hd, ps, S⟩ => ?_, fun _ _ _ _ z => z.elim, fun _ _ _ _ z => z.elim, fun _ z => (by cases z)⟩
  obtain ⟨n, rfl, hn⟩ := hr
  obtain ⟨p, us, e1, rfl, e2, e3, e4⟩ := S.ownD S.pop.1 hn
  refine q p us _ (port H Hd) (S.eh.trans S.dh) ⟨S.sub, fun c o hc => (of_port hc).2⟩ ?_ ?_ e3 e4
  · cases z : H p with
    | none => rfl
    | some u => rw [S.eh _ _ z] at e2; cases e2
  · cases z : port H Hd p with
    | none => rfl
    | some o => rw [port_sub _ _ _ _ z] at e2; cases e2
end
section
variable {P : Program} {w : World} {K : PySem.W.Frag} {mg : Str → Option Value} {base : Heap} {x qual : Str} {st : Stmt} {f : Addr} {fd : FuncData} {N ps : List Str} {k : Nat}
theorem ok_D {α : Type} {args : α → List PyData} {pre : α → Prop} {out : α → List (Key × PyData)} (F : Fun K x qual st f fd) (S : FnScope N ps (defScope st)) (hl : ∀ a, (args a).length = ps.length)
    (body : ∀ (cdv : Value) (A : Around) (outer : List Env) (s : Shared) (H : Hp) (E : XK), Rm k (A.deeper (envOfC qual (defScope st) s.heap.objs.size f cdv)) →
      ∃ t, PSs (cxOf CX0 P w K mg base N qual (defScope st) f cdv A outer s H E).nox (defBody st) t ∧ ∀ a, pre a → SS K t (mst N (args a)) [] (PretD (out a))) : FnG P w K mg base CX0 (k + 1) f fd ps (spD args pre out K) := by
  refine fnG_of F S (fun vs H Q E h => ?_) fun cdv A outer s H vs Q E hr h => ?_
  · obtain ⟨a, h1, _⟩ := h
    rw [dpa_len h1, hl]
  · obtain ⟨t, h1, h2⟩ := body cdv A outer s H E hr
    exact ⟨t, h1.nox, fin_D h h2⟩
end
end LD
namespace LD
open PySem PySem.Spec PyProof.Rows L2
theorem kp_split {K : PySem.W.Frag} {Hq : Hp} {us : List (Key × V)} {kvs : List (Key × PyData)} (h : KP K Hq us kvs) : DpAll K Hq (us.map (·.2)) (kvs.map (·.2)) := by
  induction h with
  | nil => exact .nil
  | cons h t ih => exact .cons h.2 ih
theorem kp_join {K : PySem.W.Frag} {Hq : Hp} : ∀ {us : List (Key × V)} {kvs : List (Key × PyData)}, us.map (·.1) = kvs.map (·.1) → DpAll K Hq (us.map (·.2)) (kvs.map (·.2)) → KP K Hq us kvs
  | [], [], _, _ => .nil
  | [], _ :: _, h, _ => by cases h
  | _ :: _, [], h, _ => by cases h
  | u :: us, v :: kvs, h, a => by
    rw [List.map_cons, List.map_cons] at h
    injection h with h1 h2
    cases a with
    | cons a t => exact .cons ⟨h1, a⟩ (kp_join h2 t)
theorem mergeD_snoc (kvs l : List (Key × PyData)) (p : Key × PyData) : mergeD kvs (l ++ [p]) = putD (mergeD kvs l) p.1 p.2 := by
  unfold mergeD
  rw [List.foldl_append]; rfl
theorem putD_len (kvs : List (Key × PyData)) (k : Key) (d : PyData) : (putD kvs k d).length ≤ kvs.length + 1 := by
  unfold putD
  split
  · rw [List.length_map]; omega
  · rw [List.length_append]; exact Nat.le_refl _
section
variable {K : PySem.W.Frag} {He Fr H : Hp} {m : Env'} {ow ow1 : List OC} {ts : List Knd} {σ : L2.St} {xs : List V} {tl tk tv : TE} {k : Knd} {fl : Bool}
/-- {e: f for x in xs} -/
theorem ee_dc {α : Type} {vs : List Nat} {j : Nat} (as : List α) (emb : α → PyData) (ke : α → Key) (f : α → PyData) (hl : EE K tl m ow k ow1) (hs : seqOf ow1 k = some (fl, as.map emb))
    (hT : ∀ a ∈ as, EE K tk ((wipeM m vs).set j (some (ek fl (emb a)))) ow1 (.v (kV (ke a))) ow1 ∧ ∃ k', pd k' = some (f a) ∧ EE K tv ((wipeM m vs).set j (some (ek fl (emb a)))) ow1 k' ow1)
    (hj : j ∈ vs) (hz : as.length < 1000000) :
    EE K (tDc (iList K tl) (gName j) tYes tk tv vs) m ow (.own ow1.length) (ow1 ++ [.dic (mergeD [] (as.map fun a => (ke a, f a)))]) := fun He Fr ts σ xs H Q S q =>
  hl He Fr ts σ xs H _ S fun x H1 ⟨Hd, ps, S1⟩ => by
    obtain ⟨p, us, rfl, hsq, _⟩ := seq_ok S1 S1.pop.1 hs
    refine ⟨p, rfl, ⟨us, hsq⟩, fun D hD => ?_⟩
    have hF := S1.noF hD
    have hid0 : ∀ o, hid (upd H1 D o) D = H1 := fun o => by
      funext a
      unfold hid upd
      split
      · subst_vars; exact hD.symm
      · rfl
    refine ⟨fun i n H => n = as.length - i ∧ i ≤ as.length ∧ ∃ Hd ps acc, H D = some (.dK acc) ∧ SB K He Fr Hd ps m ow1 (k :: ts) σ (.ref p :: xs) (hid H D) ∧ KP K (port He Hd) acc (mergeD [] ((as.take i).map fun a => (ke a, f a))) ∧ acc.length ≤ i, ⟨_, rfl, Nat.zero_le _, Hd, ps, [], upd_same, by rw [hid0]; exact S1, .nil, Nat.le_refl _⟩, ?_⟩
    rintro i n H2 ⟨rfl, hi, Hd2, ps2, acc, hD2, S3, hacc, hal⟩
    obtain ⟨p2, us2, e, hsq2, hd2⟩ := seq_ok S3 S3.pop.1 hs
    cases e
    have hsq2 := (hid_sub H2 D).seq hsq2
    have hlen : us2.length = as.length := by rw [dpa_len hd2, List.length_map]
    by_cases hlt : i < as.length
    · have ha : as[i]? = some as[i] := List.getElem?_eq_getElem hlt
      refine .inr ⟨⟨us2, us2[i]'(by omega), hsq2, List.getElem?_eq_getElem (by omega)⟩, _, fun H' h => ⟨as.length - (i + 1), by omega, rfl, hlt, h⟩, fun x H' hy => ?_⟩
      obtain ⟨rfl, hy⟩ := hy
      have hx := hy us2 hsq2
      obtain ⟨d, g1, g2⟩ := dpa_at hd2 hx
      rw [List.getElem?_map, ha] at g1
      cases g1
      obtain ⟨zs, hz1, hz2⟩ := hold S3.sv
      have S5 := (S3.lock hD2 rfl).tvs (prd_app (dpa_prd (ps := ps2) (kp_split hacc)) (prd_app hz1 S3.tv))
      have lz := PySem.Paired.length hz1
      have la : (acc.map (·.2)).length = ((mergeD [] ((as.take i).map fun a => (ke a, f a))).map (·.2)).length := by rw [List.length_map, List.length_map, kp_len hacc]
      have S6 := (S5.wipe vs).store (ek_ok g2) j
      obtain ⟨hk, k', hk', he⟩ := hT as[i] (List.getElem_mem hlt)
      refine ⟨wipe_again σ vs j _ hj, eb_yes He _ _ _ _ _ _ ⟨_, _, S6⟩ fun H3 ⟨Hd3, ps3, S7⟩ => ?_⟩
      rw [if_pos rfl]
      refine hk He _ _ _ _ _ _ ⟨_, _, S7⟩ fun y H4 S8 => he He _ _ _ _ _ _ S8 fun z H5 ⟨Hd5, ps5, S9⟩ => ?_
      obtain ⟨hzv, S9⟩ := S9.pop
      obtain ⟨hyv, S9b⟩ := S9.pop
      cases (show y = kV (ke as[i]) from hyv)
      obtain ⟨e5, S10⟩ := S9b.unlock hF
      have la2 : (acc.map (·.2)).length = (((mergeD [] ((as.take i).map fun a => (ke a, f a))).map (·.2)).map Knd.dat).length := by rw [la]; simp
      obtain ⟨t1, t2⟩ := prd_split la2 S10.tv
      obtain ⟨t3, t4⟩ := prd_split lz t2
      have S11 := (S10.svs (hz2 _ _ _ t3)).tvs t4
      have h5 := kp_join (kp_keys hacc) (of_dpa_prd t1)
      refine ⟨acc, ke as[i], rfl, e5, by rw [sizeLine_eq]; omega, Hd5, ps5, _, upd_same, by rw [hid_upd]; exact S11, ?_, ?_⟩
      · rw [List.take_add_one, ha]
        show KP K _ _ (mergeD [] ((as.take i ++ [as[i]]).map fun a => (ke a, f a)))
        rw [List.map_append]
        show KP K _ _ (mergeD [] ((as.take i).map (fun a => (ke a, f a)) ++ [(ke as[i], f as[i])]))
        rw [mergeD_snoc]
        exact kp_put h5 (pd_ok hzv hk') _
      · have e6 := kp_len (kp_put h5 (pd_ok hzv hk') (ke as[i]))
        have e7 := putD_len (mergeD [] ((as.take i).map fun a => (ke a, f a))) (ke as[i]) (f as[i])
        have e8 := kp_len hacc
        omega
    · have e : i = as.length := by omega
      subst e
      refine .inl ⟨⟨us2, hsq2, by omega⟩, q _ _ ?_⟩
      rw [List.take_length] at hacc
      have nD : Hd2 D = none := by
        cases z : Hd2 D with
        | none => rfl
        | some o => have := S3.dh _ _ z; rw [hid_at] at this; cases this
      have nP : D ∉ ps2 ++ kids ow1 := fun h => by obtain ⟨o, w⟩ := S3.inH h; rw [hid_at] at w; cases w
      have S4 := S3.grow (hid_sub H2 D)
      exact ⟨Hd2, _, (S4.pop.2).pushC (c0 := .dic (mergeD [] (as.map fun a => (ke a, f a)))) hF nP ⟨nD, acc, hD2, hacc⟩⟩
end
end LD
namespace LD
open PySem PySem.Spec PyProof.Rows L2
/-! ### sorted of pairs of whole numbers that are data -/
def rSrtQ (K : PySem.W.Frag) : List V → Hp → VK → Prop := fun vs H Q => ∃ (l : Addr) (zs : List V) (g : V → Int × Int), vs = [V.ref l] ∧ SqL K H l zs ∧
  (∀ z ∈ zs, ∃ b, z = V.ref b ∧ SqT K H b [.int (g z).1, .int (g z).2]) ∧
  ∀ ws r, SrtO.Srtd (ltP g) ws → SrtO.Stb (ltP g) ws zs → H r = none → Q (.ref r) (upd H r (.lst ws))
theorem call_srtQ {X : Cx} : CallR X (.builtin "sorted") (rSrtQ X.K) := by
  intro pins s σ H vs us Q J rel hyp
  obtain ⟨l, zs, g, rfl, hseq, each, q⟩ := hyp
  obtain ⟨items, rItems, isL, small⟩ := J.list hseq
  obtain ⟨u, rfl, ru⟩ := vals1 rel
  cases (show u = Value.ref l from ru)
  obtain ⟨back1, back2⟩ := refs_back rItems fun z hz => let ⟨b, e, _⟩ := each z hz; ⟨b, e⟩
  refine SrtO.sorted_pairsO (k := fun v => g (backV v)) isL.isList (rItems.length ▸ small) (fun v hv => ?_) fun h' d out sorted stable kept hd hnew => ?_
  · obtain ⟨b, rfl⟩ := back2 v hv
    have hm : V.ref b ∈ zs := back1 ▸ List.mem_map.mpr ⟨_, hv, rfl⟩
    obtain ⟨b', e, hb⟩ := each _ hm
    cases e
    obtain ⟨cells, rc, ⟨o, at_b, cls, n, dat⟩, _⟩ := J.tuple hb
    obtain ⟨c1, c2, rfl, r1, r2⟩ := vals2 rc
    obtain ⟨k1, rfl⟩ := r1
    obtain ⟨k2, rfl⟩ := r2
    exact ⟨b, o, k1, k2, n, rfl, at_b, cls, dat⟩
  · have refs : ∀ v ∈ out, ∃ b, v = Value.ref b := fun v hv => back2 v (stable.perm.mem_iff.mp hv)
    obtain ⟨n, hnew⟩ := hnew
    have stb : SrtO.Stb (ltP g) (out.map backV) zs := back1 ▸ SrtO.Stb.map (ltP_swo g) backV stable
    have hlen : (out.map backV).length ≤ sizeLine := stb.len ▸ small
    exact ⟨.ref d, upd H d (.lst (out.map backV)), J.laid (t' := s.toks) kept hd ⟨hlen, out, n, vals_back refs, hnew⟩, rfl, q _ d (SrtO.srtd_map sorted) stb (J.hok.fresh hd)⟩
end LD

/-! Dicts of one's own that are walked. -/
namespace LD
open PySem PySem.Spec PyProof.Rows L2
def dicOf (ow : List OC) : Knd → Option (List (Key × PyData))
  | .own n => match ow[n]? with
    | some (.dic kvs) => some kvs
    | some (.ldic _ _ kvs) => some kvs
    | _ => none
  | _ => none
def keysD (kvs : List (Key × PyData)) : List Key := kvs.map (·.1)
section
variable {K : PySem.W.Frag} {He Fr Hd H : Hp} {ps : List Addr} {m : Env'} {ow ow1 ow2 ow3 : List OC} {ts : List Knd} {σ : L2.St} {xs : List V} {x : V} {k : Knd} {kvs : List (Key × PyData)} {n : Nat}
theorem dic_ok (S : SB K He Fr Hd ps m ow ts σ xs H) (h : KOk K (port He Hd) Hd ps x k) (e : dicOf ow k = some kvs) : ∃ p vs, x = .ref p ∧ Rd H p (.dK vs) ∧ KP K (port He Hd) vs kvs := by
  cases k with
  | v y => simp [dicOf] at e
  | dat d => simp [dicOf] at e
  | arg d => simp [dicOf] at e
  | own n =>
    obtain ⟨p, hp, rfl⟩ := h
    simp only [dicOf] at e
    split at e
    · rename_i kvs' q
      cases e
      obtain ⟨_, vs, h2, h3⟩ := S.ok n p _ hp q
      exact ⟨p, vs, rfl, .inl h2, h3⟩
    · rename_i od us kvs' q
      cases e
      obtain ⟨_, h2, h3⟩ := S.ok n p _ hp q
      exact ⟨p, us, rfl, .inr ⟨od, h2⟩, h3⟩
    · cases e
theorem dic_own (h : ow[n]? = some (.dic kvs)) : dicOf ow (.own n) = some kvs := by simp [dicOf, h]
theorem dic_ownL {od : Obj} {us : List (Key × V)} (h : ow[n]? = some (.ldic od us kvs)) : dicOf ow (.own n) = some kvs := by simp [dicOf, h]
/-- d[k] -/
theorem ee_dgetK {td ty : TE} {key : Key} {d : PyData} (h : EE K td m ow k ow1) (h2 : EE K ty m ow1 (.v (kV key)) ow2) (hn : dicOf ow2 k = some kvs) (hv : valD kvs key = some d) : EE K (tDGet td ty) m ow (kd d) ow2 := fun He Fr ts σ xs H Q S q =>
  h He Fr ts σ xs H _ S fun x H1 S1 => h2 He Fr _ σ _ H1 _ S1 fun y H2 ⟨Hd, ps, S2⟩ => by
    cases (show y = kV key from S2.pop.1)
    obtain ⟨p, vs, rfl, e2, e3⟩ := dic_ok S2 S2.pop.2.pop.1 hn
    obtain ⟨v, g1, g2⟩ := kp_get e3 hv
    exact ⟨p, v, rfl, .inl ⟨vs, key, e2, rfl, g1.symm⟩, q _ _ ⟨Hd, ps, S2.pop.2.pop.2.push (kd_ok g2)⟩⟩
/-- k in d -/
theorem ee_dinK {td ty : TE} {key : Key} (h2 : EE K ty m ow (.v (kV key)) ow1) (h : EE K td m ow1 k ow2) (hn : dicOf ow2 k = some kvs) : EE K (tDIn ty td) m ow (.v (.bl (valD kvs key).isSome)) ow2 := fun He Fr ts σ xs H Q S q =>
  h2 He Fr ts σ xs H _ S fun y H1 S1 => h He Fr _ σ _ H1 _ S1 fun x H2 ⟨Hd, ps, S2⟩ => by
    obtain ⟨p, vs, rfl, e2, e3⟩ := dic_ok S2 S2.pop.1 hn
    cases (show y = kV key from S2.pop.2.pop.1)
    refine ⟨p, valV vs key, rfl, .inl ⟨vs, key, e2, rfl, rfl⟩, ?_⟩
    rw [kp_some e3]
    exact q _ _ ⟨Hd, ps, S2.pop.2.pop.2.push rfl⟩
theorem ee_dnotinK {td ty : TE} {key : Key} (h2 : EE K ty m ow (.v (kV key)) ow1) (h : EE K td m ow1 k ow2) (hn : dicOf ow2 k = some kvs) : EE K (tDNotIn ty td) m ow (.v (.bl (!(valD kvs key).isSome))) ow2 := fun He Fr ts σ xs H Q S q =>
  h2 He Fr ts σ xs H _ S fun y H1 S1 => h He Fr _ σ _ H1 _ S1 fun x H2 ⟨Hd, ps, S2⟩ => by
    obtain ⟨p, vs, rfl, e2, e3⟩ := dic_ok S2 S2.pop.1 hn
    cases (show y = kV key from S2.pop.2.pop.1)
    refine ⟨p, valV vs key, rfl, .inl ⟨vs, key, e2, rfl, rfl⟩, ?_⟩
    rw [kp_some e3]
    exact q _ _ ⟨Hd, ps, S2.pop.2.pop.2.push rfl⟩
/-- a dict of one's own is locked meanwhile -/
theorem ee_lock {te : TE} {ow' : List OC} (n : Nat) (hn : ow[n]? = some (.dic kvs)) (h : ∀ od us, EE K te m (ow.set n (.ldic od us kvs)) k (ow'.set n (.ldic od us kvs))) (hl : n < ow'.length) (hk : ∀ j, k = .own j → j ≠ n) :
    EE K (tLockE te) m ow k (ow'.set n (.dic kvs)) := fun He Fr ts σ xs H Q ⟨Hd, ps, S⟩ q => by
  have hl0 : n < ps.length := by rw [S.pl]; exact (List.getElem?_eq_some_iff.mp hn).1
  have hp : ps[n]? = some ps[n] := List.getElem?_eq_getElem hl0
  obtain ⟨e0, us, e1, e2⟩ := S.ok n _ _ hp hn
  refine ⟨ps[n], .dK us, e1, trivial, fun od => ?_⟩
  have S1 := (S.writeC (o := .frz od (.dK us)) (c1 := .ldic od us kvs) hp hn e0 ⟨e0, upd_same, e2⟩).push (x := .ref ps[n]) (k := .own n) ⟨_, hp, rfl⟩
  refine h od us He Fr _ σ _ _ _ ⟨Hd, ps, S1⟩ fun x H2 ⟨Hd2, ps2, S2⟩ => ?_
  obtain ⟨hx, S3⟩ := S2.pop
  obtain ⟨hy, S4⟩ := S3.pop
  obtain ⟨p', hp', ex⟩ := hy
  cases ex
  have hc : (ow'.set n (OC.ldic od us kvs))[n]? = some (.ldic od us kvs) := List.getElem?_set_self hl
  obtain ⟨g0, g1, g2⟩ := S4.ok n _ _ hp' hc
  refine ⟨g1, q _ _ ⟨Hd2, ps2, ?_⟩⟩
  have S5 := S4.writeC (o := .dK us) (c1 := .dic kvs) hp' hc g0 ⟨g0, us, upd_same, g2⟩
  rw [List.set_set] at S5
  exact S5.push hx
theorem ee_eqO {te : TE} {k1 : Knd} {ow' : List OC} (h : EE K te m ow k ow1) (e : k = k1) (e2 : ow1 = ow') : EE K te m ow k1 ow' := e ▸ e2 ▸ h
def keyI : Key → Int
  | .inl i => i
  | .inr _ => 0
variable {tl te : TE} {tt : TT} {j : Nat} {vs : List Nat} {b : Bool} {c : Key → Bool} {f : Key → PyData}
/-- [e for k in d if t] -/
theorem ee_lcD (b : Bool) {od : Obj} {us : List (Key × V)} (c : Key → Bool) (f : Key → PyData) (hl : EE K tl m ow (.own n) ow1) (hn : ow1[n]? = some (.ldic od us kvs)) (hT : Turn1 K m ow1 vs j tt te (fun a => .v (kV a)) c f (keysD kvs)) (hj : j ∈ vs) (hz : kvs.length < 10000000) :
    EE K (tLc (iKeys tl) (gName j) tt te vs) m ow (newK b ow1 (((keysD kvs).filter c).map f)) (newO b ow1 (((keysD kvs).filter c).map f)) := fun He Fr ts σ xs H Q S q =>
  hl He Fr ts σ xs H _ S fun x H1 ⟨Hd, ps, S1⟩ => by
    obtain ⟨p, hp, rfl⟩ := S1.pop.1
    obtain ⟨_, g1, g2⟩ := S1.ok n p _ hp hn
    have hkl : us.length = (keysD kvs).length := by rw [keysD, List.length_map, kp_len g2]
    have hke := kp_keys g2
    refine ⟨p, od, rfl, .inl ⟨us, g1, fun D hD => ?_⟩⟩
    have hF := S1.noF hD
    refine ⟨fun i l H => l = us.length - i ∧ i ≤ us.length ∧ SoFar K He Fr m ow1 (.own n :: ts) σ (.ref p :: xs) D ((((keysD kvs).take i).filter c).map f) H, ⟨_, rfl, Nat.zero_le _, lc_begin S1 hD⟩, ?_⟩
    rintro i l H2 ⟨rfl, hi, S2⟩
    obtain ⟨Hd2, ps2, acc, e1, S3, e2⟩ := id S2
    obtain ⟨p2, hp2, ex⟩ := S3.pop.1
    cases ex
    obtain ⟨_, g3, _⟩ := S3.ok n p _ hp2 hn
    have g3 := hid_sub H2 D _ _ g3
    by_cases hlt : i < us.length
    · have ha : (keysD kvs)[i]? = some ((keysD kvs)[i]'(by omega)) := List.getElem?_eq_getElem (by omega)
      refine .inr ⟨⟨g3, hlt⟩, _, fun H' h => ⟨us.length - (i + 1), by omega, rfl, hlt, h⟩, fun x H' hy => ?_⟩
      obtain ⟨rfl, k', v', hkv, rfl⟩ := hy
      have ek : k' = (keysD kvs)[i]'(by omega) := by
        have z : (us.map (·.1))[i]? = some k' := by rw [List.getElem?_map, hkv]; rfl
        rw [hke] at z
        have z : (keysD kvs)[i]? = some k' := z
        rw [ha] at z
        exact (Option.some.inj z).symm
      subst ek
      refine lc_turn (kx := fun a => .v (kV a)) (a := (keysD kvs)[i]'(by omega)) hj hF hT (List.getElem_mem _) ?_ (fun Hd4 ps4 S4 => rfl) S2 fun H' h => ?_
      · rw [List.length_map]
        refine Nat.lt_of_le_of_lt (List.length_filter_le ..) ?_
        rw [List.length_take, keysD, List.length_map]
        omega
      · rw [filt_step ha]; exact h
    · have e : i = us.length := by omega
      subst e
      refine .inl ⟨⟨g3, Nat.le_refl _⟩, q _ _ ?_⟩
      rw [hkl, List.take_length] at S2
      obtain ⟨Hd5, ps5, S5⟩ := lc_end b S2
      obtain ⟨h1, h2⟩ := S5.pop
      exact ⟨Hd5, ps5, h2.pop.2.push h1⟩
end
/-! dict comprehensions with a test, over lists and over dicts -/
section
variable {K : PySem.W.Frag} {He Fr Hd H1 : Hp} {ps : List Addr} {m : Env'} {ow ow1 : List OC} {ts : List Knd} {σ : L2.St} {xs : List V} {x0 : V} {k : Knd} {Q : VK} {tl tk tv : TE} {tt : TT} {fl : Bool}
theorem dc_all {α : Type} {vs : List Nat} {j : Nat} (as : List α) (kx : α → Knd) (c : α → Bool) (ke : α → Key) (f : α → PyData) (J : It) (S1 : SB K He Fr Hd ps m ow1 (k :: ts) σ (x0 :: xs) H1)
    (hJ : ∀ (D : Addr) (i : Nat) (Hd : Hp) (ps : List Addr) (H : Hp), SB K He Fr Hd ps m ow1 (k :: ts) σ (x0 :: xs) (hid H D) → (∀ h : i < as.length, J.go i H ∧ ∀ x H', J.yld i H x H' → H' = H ∧ KOk K (port He Hd) Hd ps x (kx as[i])) ∧ (as.length ≤ i → J.stop i H))
    (hT : ∀ a ∈ as, EB K tt ((wipeM m vs).set j (some (kx a))) ow1 (c a) ow1 ∧ (c a = true → EE K tk ((wipeM m vs).set j (some (kx a))) ow1 (.v (kV (ke a))) ow1 ∧ ∃ k', pd k' = some (f a) ∧ EE K tv ((wipeM m vs).set j (some (kx a))) ow1 k' ow1))
    (hj : j ∈ vs) (hz : as.length < 1000000)
    (q : ∀ x H', SA K He Fr m (ow1 ++ [.dic (mergeD [] ((as.filter c).map fun a => (ke a, f a)))]) (.own ow1.length :: ts) σ (x :: xs) H' → Q x H') :
    ∀ D, H1 D = none → ∃ W : Nat → Nat → Hp → Prop, (∃ m, W 0 m (upd H1 D (.dK []))) ∧ ∀ i m H, W i m H →
      (J.stop i H ∧ Q (.ref D) H) ∨ (J.go i H ∧ ∃ Nx : Hp → Prop, (∀ H', Nx H' → ∃ m', m' < m ∧ W (i + 1) m' H') ∧ ∀ x H', J.yld i H x H' → gName j x (wipe σ vs) H' fun σ2 H2 => wipe σ2 vs = wipe σ vs ∧ tt σ2 H2 fun b H3 =>
        if b = true then tk σ2 H3 fun y H4 => tv σ2 H4 fun z H5 => ∃ kvs k, y = kV k ∧ H5 D = some (.dK kvs) ∧ kvs.length < sizeLine ∧ Nx (upd H5 D (.dK (putK kvs k z))) else Nx H3) := by
  intro D hD
  have hF := S1.noF hD
  have hid0 : ∀ o, hid (upd H1 D o) D = H1 := fun o => by
    funext a
    unfold hid upd
    split
    · subst_vars; exact hD.symm
    · rfl
  refine ⟨fun i n H => n = as.length - i ∧ i ≤ as.length ∧ ∃ Hd ps acc, H D = some (.dK acc) ∧ SB K He Fr Hd ps m ow1 (k :: ts) σ (x0 :: xs) (hid H D) ∧ KP K (port He Hd) acc (mergeD [] (((as.take i).filter c).map fun a => (ke a, f a))) ∧ acc.length ≤ i, ⟨_, rfl, Nat.zero_le _, Hd, ps, [], upd_same, by rw [hid0]; exact S1, .nil, Nat.le_refl _⟩, ?_⟩
  rintro i n H2 ⟨rfl, hi, Hd2, ps2, acc, hD2, S3, hacc, hal⟩
  obtain ⟨hgo, hstop⟩ := hJ D i Hd2 ps2 H2 S3
  by_cases hlt : i < as.length
  · have ha : as[i]? = some as[i] := List.getElem?_eq_getElem hlt
    obtain ⟨hgo, hyld⟩ := hgo hlt
    refine .inr ⟨hgo, _, fun H' h => ⟨as.length - (i + 1), by omega, rfl, hlt, h⟩, fun x H' hy => ?_⟩
    obtain ⟨rfl, hx⟩ := hyld x H' hy
    have tkst : (as.take (i + 1)).filter c = if c as[i] = true then (as.take i).filter c ++ [as[i]] else (as.take i).filter c := by
      rw [List.take_add_one, ha]
      show (as.take i ++ [as[i]]).filter c = _
      rw [List.filter_append]
      cases hc : c as[i] <;> simp [hc]
    generalize hL : ((as.take i).filter c).map (fun a => (ke a, f a)) = L at hacc
    obtain ⟨zs, hz1, hz2⟩ := hold S3.sv
    have S5 := (S3.lock hD2 rfl).tvs (prd_app (dpa_prd (ps := ps2) (kp_split hacc)) (prd_app hz1 S3.tv))
    have lz := PySem.Paired.length hz1
    have la : (acc.map (·.2)).length = ((mergeD [] L).map (·.2)).length := by rw [List.length_map, List.length_map, kp_len hacc]
    have S6 := (S5.wipe vs).store hx j
    obtain ⟨ht, hkv⟩ := hT as[i] (List.getElem_mem hlt)
    have back : ∀ {Hd5 : Hp} {ps5 : List Addr} {m4 : Env'} {σ4 : L2.St} {H5 : Hp}, SB K He (upd Fr D (.dK acc)) Hd5 ps5 m4 ow1 (((mergeD [] L).map (·.2)).map Knd.dat ++ (known m ++ (k :: ts))) σ4 (acc.map (·.2) ++ (zs ++ (x0 :: xs))) H5 →
        H5 D = some (.dK acc) ∧ SB K He Fr Hd5 ps5 m ow1 (k :: ts) σ (x0 :: xs) (hid H5 D) ∧ KP K (port He Hd5) acc (mergeD [] L) := by
      intro Hd5 ps5 m4 σ4 H5 S9b
      obtain ⟨e5, S10⟩ := S9b.unlock hF
      have la2 : (acc.map (·.2)).length = (((mergeD [] L).map (·.2)).map Knd.dat).length := by rw [la]; simp
      obtain ⟨t1, t2⟩ := prd_split la2 S10.tv
      obtain ⟨t3, t4⟩ := prd_split lz t2
      exact ⟨e5, (S10.svs (hz2 _ _ _ t3)).tvs t4, kp_join (kp_keys hacc) (of_dpa_prd t1)⟩
    refine ⟨wipe_again σ vs j _ hj, ht He _ _ _ _ _ _ ⟨_, _, S6⟩ fun H3 ⟨Hd3, ps3, S7⟩ => ?_⟩
    cases hc : c as[i] with
    | false =>
      rw [if_neg Bool.false_ne_true]
      obtain ⟨e5, S11, h5⟩ := back S7
      refine ⟨Hd3, ps3, acc, e5, S11, ?_, by omega⟩
      rw [tkst, hc, if_neg Bool.false_ne_true, hL]
      exact h5
    | true =>
      rw [if_pos rfl]
      obtain ⟨hk, k', hk', he⟩ := hkv hc
      refine hk He _ _ _ _ _ _ ⟨_, _, S7⟩ fun y H4 S8 => he He _ _ _ _ _ _ S8 fun z H5 ⟨Hd5, ps5, S9⟩ => ?_
      obtain ⟨hzv, S9⟩ := S9.pop
      obtain ⟨hyv, S9b⟩ := S9.pop
      cases (show y = kV (ke as[i]) from hyv)
      obtain ⟨e5, S11, h5⟩ := back S9b
      refine ⟨acc, ke as[i], rfl, e5, by rw [sizeLine_eq]; omega, Hd5, ps5, _, upd_same, by rw [hid_upd]; exact S11, ?_, ?_⟩
      · rw [tkst, hc, if_pos rfl, List.map_append, hL]
        show KP K _ _ (mergeD [] (L ++ [(ke as[i], f as[i])]))
        rw [mergeD_snoc]
        exact kp_put h5 (pd_ok hzv hk') _
      · have e6 := kp_len (kp_put h5 (pd_ok hzv hk') (ke as[i]))
        have e7 := putD_len (mergeD [] L) (ke as[i]) (f as[i])
        have e8 := kp_len hacc
        omega
  · have e : i = as.length := by omega
    subst e
    refine .inl ⟨hstop (Nat.le_refl _), q _ _ ?_⟩
    rw [List.take_length] at hacc
    have nD : Hd2 D = none := by
      cases z : Hd2 D with
      | none => rfl
      | some o => have := S3.dh _ _ z; rw [hid_at] at this; cases this
    have nP : D ∉ ps2 ++ kids ow1 := fun h => by obtain ⟨o, w⟩ := S3.inH h; rw [hid_at] at w; cases w
    have S4 := S3.grow (hid_sub H2 D)
    exact ⟨Hd2, _, (S4.pop.2).pushC (c0 := .dic (mergeD [] ((as.filter c).map fun a => (ke a, f a)))) hF nP ⟨nD, acc, hD2, hacc⟩⟩
/-- {e: f for x in xs if t} -/
theorem ee_dcF {α : Type} {vs : List Nat} {j : Nat} (as : List α) (emb : α → PyData) (c : α → Bool) (ke : α → Key) (f : α → PyData) (hl : EE K tl m ow k ow1) (hs : seqOf ow1 k = some (fl, as.map emb))
    (hT : ∀ a ∈ as, EB K tt ((wipeM m vs).set j (some (ek fl (emb a)))) ow1 (c a) ow1 ∧ (c a = true → EE K tk ((wipeM m vs).set j (some (ek fl (emb a)))) ow1 (.v (kV (ke a))) ow1 ∧ ∃ k', pd k' = some (f a) ∧ EE K tv ((wipeM m vs).set j (some (ek fl (emb a)))) ow1 k' ow1))
    (hj : j ∈ vs) (hz : as.length < 1000000) :
    EE K (tDc (iList K tl) (gName j) tt tk tv vs) m ow (.own ow1.length) (ow1 ++ [.dic (mergeD [] ((as.filter c).map fun a => (ke a, f a)))]) := fun He Fr ts σ xs H Q S q =>
  hl He Fr ts σ xs H _ S fun x H1 ⟨Hd, ps, S1⟩ => by
    obtain ⟨p, us, rfl, hsq, _⟩ := seq_ok S1 S1.pop.1 hs
    refine ⟨p, rfl, ⟨us, hsq⟩, dc_all as (fun a => ek fl (emb a)) c ke f _ S1 (fun D i Hd2 ps2 H2 S3 => ?_) hT hj hz q⟩
    obtain ⟨p2, us2, e, hsq2, hd2⟩ := seq_ok S3 S3.pop.1 hs
    cases e
    have hsq2 := (hid_sub H2 D).seq hsq2
    have hlen : us2.length = as.length := by rw [dpa_len hd2, List.length_map]
    refine ⟨fun h => ⟨⟨us2, us2[i]'(by omega), hsq2, List.getElem?_eq_getElem (by omega)⟩, fun x H' hy => ?_⟩, fun h => ⟨us2, hsq2, by omega⟩⟩
    obtain ⟨rfl, hy⟩ := hy
    have hx := hy us2 hsq2
    obtain ⟨d, g1, g2⟩ := dpa_at hd2 hx
    rw [List.getElem?_map, List.getElem?_eq_getElem h] at g1
    cases g1
    exact ⟨rfl, ek_ok g2⟩
/-- .. over a dict that is locked -/
theorem ee_dcD {vs : List Nat} {j n : Nat} {od : Obj} {us : List (Key × V)} {kvs : List (Key × PyData)} (c : Key → Bool) (ke : Key → Key) (f : Key → PyData) (hl : EE K tl m ow (.own n) ow1) (hn : ow1[n]? = some (.ldic od us kvs))
    (hT : ∀ a ∈ keysD kvs, EB K tt ((wipeM m vs).set j (some (.v (kV a)))) ow1 (c a) ow1 ∧ (c a = true → EE K tk ((wipeM m vs).set j (some (.v (kV a)))) ow1 (.v (kV (ke a))) ow1 ∧ ∃ k', pd k' = some (f a) ∧ EE K tv ((wipeM m vs).set j (some (.v (kV a)))) ow1 k' ow1))
    (hj : j ∈ vs) (hz : kvs.length < 1000000) :
    EE K (tDc (iKeys tl) (gName j) tt tk tv vs) m ow (.own ow1.length) (ow1 ++ [.dic (mergeD [] (((keysD kvs).filter c).map fun a => (ke a, f a)))]) := fun He Fr ts σ xs H Q S q =>
  hl He Fr ts σ xs H _ S fun x H1 ⟨Hd, ps, S1⟩ => by
    obtain ⟨p, hp, rfl⟩ := S1.pop.1
    obtain ⟨_, g1, g2⟩ := S1.ok n p _ hp hn
    have hkl : us.length = (keysD kvs).length := by rw [keysD, List.length_map, kp_len g2]
    have hke := kp_keys g2
    refine ⟨p, od, rfl, .inl ⟨us, g1, dc_all (keysD kvs) (fun a => .v (kV a)) c ke f _ S1 (fun D i Hd2 ps2 H2 S3 => ?_) hT hj (by rw [keysD, List.length_map]; exact hz) q⟩⟩
    obtain ⟨p2, hp2, ex⟩ := S3.pop.1
    cases ex
    obtain ⟨_, g3, _⟩ := S3.ok n p _ hp2 hn
    have g3 := hid_sub H2 D _ _ g3
    refine ⟨fun h => ⟨⟨g3, by omega⟩, fun x H' hy => ?_⟩, fun h => ⟨g3, by omega⟩⟩
    obtain ⟨rfl, k', v', hkv, rfl⟩ := hy
    refine ⟨rfl, ?_⟩
    have z : (us.map (·.1))[i]? = some k' := by rw [List.getElem?_map, hkv]; rfl
    rw [hke] at z
    have z : (keysD kvs)[i]? = some k' := z
    rw [List.getElem?_eq_getElem h] at z
    cases z
    rfl
end
theorem at_natI {ds : List PyData} {n : Nat} {d : PyData} {i : Int} (h : ds[n]? = some d) (hi : i = (n : Int)) : atI ds i = some d := by subst hi; exact at_nat h
theorem ixN_nat {n j : Nat} {i : Int} (h : j < n) (hi : i = (j : Int)) : ixN n i = some j := by
  subst hi
  unfold ixN
  rw [if_pos (by omega), if_pos (by omega)]; rfl
theorem put_some (kvs : List (Key × PyData)) (k k2 : Key) (d : PyData) : (valD (putD kvs k d) k2).isSome = (decide (k = k2) || (valD kvs k2).isSome) := by
  unfold valD putD
  simp only [Option.isSome_map, List.find?_isSome, decide_eq_true_eq]
  rw [Bool.eq_iff_iff]
  simp only [List.find?_isSome, Bool.or_eq_true, decide_eq_true_eq]
  split
  · rename_i h
    simp only [List.any_eq_true, decide_eq_true_eq] at h
    obtain ⟨x, hx, e⟩ := h
    constructor
    · rintro ⟨y, hy, e2⟩
      obtain ⟨z, hz, rfl⟩ := List.mem_map.mp hy
      refine .inr ⟨z, hz, ?_⟩
      split at e2
      · rename_i q; rw [q]; simpa [q] using e2
      · exact e2
    · rintro (z | ⟨y, hy, e2⟩)
      · refine ⟨_, List.mem_map.mpr ⟨x, hx, rfl⟩, ?_⟩
        rw [if_pos e]; exact e.trans z
      · refine ⟨_, List.mem_map.mpr ⟨y, hy, rfl⟩, ?_⟩
        split
        · exact e2
        · exact e2
  · constructor
    · rintro ⟨y, hy, e2⟩
      rcases List.mem_append.mp hy with hy | hy
      · exact .inr ⟨y, hy, e2⟩
      · simp at hy; subst hy; exact .inl e2
    · rintro (z | ⟨y, hy, e2⟩)
      · exact ⟨(k, d), by simp, z⟩
      · exact ⟨y, List.mem_append_left _ hy, e2⟩
end LD

/-! repr and == of dicts of one's own. -/
namespace LD
open PySem PySem.Spec PyProof.Rows L2
def pairD (kv : Key × PyData) : PyData × PyData := (kD kv.1, kv.2)
def dicP (kvs : List (Key × PyData)) : PyData := .dict (kvs.map pairD)
mutual
theorem reads_imm {h : Heap} : ∀ {u : Value} {d : PyData} {as : List Addr}, Reads h u d as → imm d = true → as = []
  | _, _, _, .none, _ => rfl
  | _, _, _, .bool _, _ => rfl
  | _, _, _, .int _ _, _ => rfl
  | _, _, _, .str _ _, _ => rfl
  | _, _, _, .list _ _ _ _, e => by simp [imm] at e
  | _, _, _, .tuple _ _ _ hr, e => readsAll_imm hr (by rw [imm] at e; exact e)
  | _, _, _, .dict _ _ _ _ _, e => by simp [imm] at e
theorem readsAll_imm {h : Heap} : ∀ {us : List Value} {ds : List PyData} {as : List Addr}, ReadsAll h us ds as → imms ds = true → as = []
  | _, _, _, .nil, _ => rfl
  | _, _, _, .cons a b, e => by
    rw [imms, Bool.and_eq_true] at e
    rw [reads_imm a e.1, readsAll_imm b e.2]; rfl
end
section
variable {X : Cx} {pins : List (Addr × Obj)} {σ : L2.St} {H : Hp} {s : Shared}
theorem dict_reads (I : Inv X pins σ H s) : ∀ {vs : List (Key × V)} {kvs : List (Key × PyData)} {es : List DictEntry} {us : List (Key × Value)}, KP X.K H vs kvs → KV vs us → Pairs (mixKind X.prog X.w) es us → (∀ kv ∈ kvs, imm kv.2 = true) →
    ReadsAll s.heap (es.map (·.key)) (kvs.map fun kv => kD kv.1) [] ∧ ReadsAll s.heap (es.map (·.val)) (kvs.map (·.2)) []
  | [], _, _, _, .nil, h2, h3, _ => by
    cases h2
    cases h3
    exact ⟨.nil, .nil⟩
  | v :: vs, kv :: kvs, es, us, .cons h1 t1, h2, h3, hi => by
    cases h2 with
    | cons h2 t2 =>
    cases h3 with
    | cons h3 h4 t3 =>
    obtain ⟨a, b⟩ := dict_reads I t1 t2 t3 fun kv h => hi kv (List.mem_cons_of_mem _ h)
    obtain ⟨as, r⟩ := Dp.reads I kv.2 v.2 _ h1.2 h2.2
    have e0 := reads_imm r (hi kv (List.mem_cons_self ..))
    subst e0
    have rk : ∀ {k : Key} {v : Value}, keyIs k v = true → Reads s.heap v (kD k) [] := fun {k v} h3 => by
      rcases keyIs_shape h3 with ⟨i, t, e1, e2⟩ | ⟨x, t, e1, e2⟩
      · rw [e1, e2]; exact .int i t
      · rw [e1, e2]; exact .str x t
    have ek : kv.1 = _ := h1.1.symm.trans h2.1
    have rk := rk h3
    rw [← ek] at rk
    rw [← h4] at r
    exact ⟨ReadsAll.cons rk a, ReadsAll.cons r b⟩
end
/-- repr of a dict -/
def rRpD (K : PySem.W.Frag) : List V → Hp → VK → Prop := fun xs H Q => ∃ (a : Addr) (vs : List (Key × V)) (kvs : List (Key × PyData)), xs = [.ref a] ∧ Rd H a (.dK vs) ∧ KP K H vs kvs ∧ (∀ kv ∈ kvs, imm kv.2 = true) ∧ repOk (dicP kvs) ∧ Q (.str (dicP kvs).shown) H
theorem call_rpD {X : Cx} (hg : X.A.guards = some []) (hu : X.A.units + 64 < cLine) : CallR X (.builtin "repr") (rRpD X.K) := by
  intro pins s σ H xs us Q I r h
  obtain ⟨a, vs, kvs, rfl, hr, hk, hi, ⟨h1, h2, h3⟩, q⟩ := h
  obtain ⟨u, rfl, ru⟩ := vals1 r
  cases (show u = Value.ref a from ru)
  obtain ⟨_, ns, ws, kv, o, es, ep, g1, g2, g3, _, g5, _⟩ := dk_rd I.hok hr
  obtain ⟨ra, rb⟩ := dict_reads I hk kv g5 hi
  have hm1 : (kvs.map pairD).map (·.1) = kvs.map fun kv => kD kv.1 := by rw [List.map_map]; rfl
  have hm2 : (kvs.map pairD).map (·.2) = kvs.map (·.2) := by rw [List.map_map]; rfl
  have rd : Reads s.heap (.ref a) (dicP kvs) (a :: [] ++ []) := .dict g1 g2.1 g3 (hm1 ▸ ra) (hm2 ▸ rb)
  refine repr_of_reads' rd h1 (fun _ z => ?_) hg (by omega) (fun _ _ e => e) (fun h' w tk hk => ⟨.str _, H, I.kept hk, ⟨_, rfl⟩, q⟩) h2
  have z : sysModules = a := by simpa using z
  rw [← z] at ns
  exact absurd ns (by simp)
theorem call_rpDK {K : PySem.W.Frag} {X : Cx} (hK : X.K = K) (hg : X.A.guards = some []) (hu : X.A.units + 64 < cLine) : CallR X (.builtin "repr") (rRpD K) := hK ▸ call_rpD hg hu
section
variable {K : PySem.W.Frag} {m : Env'} {ow ow1 ow2 ow3 : List OC} {k k1 k2 : Knd} {kvs ls : List (Key × PyData)}
theorem cc_reprD (h : dicOf ow k = some kvs) (hi : ∀ kv ∈ kvs, imm kv.2 = true) (hr : repOk (dicP kvs)) : CC K (rRpD K) m ow [k] (.v (.str (dicP kvs).shown)) ow := by
  rintro He Fr ts σ ys xs H Q hl ⟨Hd, ps, S⟩ q
  obtain ⟨y, rfl⟩ := one hl
  obtain ⟨p, vs, rfl, h1, h2⟩ := dic_ok S S.pop.1 h
  exact ⟨p, vs, kvs, rfl, h1, kp_mono S.sub h2, hi, hr, q _ H ⟨Hd, ps, S.pop.2.push rfl⟩⟩
def flD2 : PyData → Bool
  | .none => true
  | .bool _ => true
  | .int _ => true
  | .str _ => true
  | _ => false
theorem flat_dp {Hq : Hp} {x y : V} {d : PyData} (h : Dp K Hq x d) (h2 : Dp K Hq y d) (hf : flD2 d = true) : x = y ∧ flatB x = true := by
  cases h with
  | non => cases h2; exact ⟨rfl, rfl⟩
  | bl b => cases h2; exact ⟨rfl, rfl⟩
  | int i => cases h2; exact ⟨rfl, rfl⟩
  | str z => cases h2; exact ⟨rfl, rfl⟩
  | lst _ _ => cases hf
  | tup _ _ => cases hf
  | dic _ => cases hf
/-- two dicts of one's own with the same pairs -/
theorem rr_eqDic {n n2 : Nat} (h1 : ow[n]? = some (.dic kvs)) (h2 : ow[n2]? = some (.dic ls)) (hl : kvs.length = ls.length) (hp : ∀ kv ∈ kvs, valD ls kv.1 = some kv.2 ∧ flD2 kv.2 = true) : RR K rEqDA m ow (.own n) (.own n2) (.v (.bl true)) ow := by
  rintro He Fr ts σ x y xs H Q ⟨Hd, ps, S⟩ q
  obtain ⟨p2, us, _, rfl, _, e2, e3⟩ := S.ownD S.pop.1 h2
  obtain ⟨p1, vs, _, rfl, _, e5, e6⟩ := S.pop.2.ownD S.pop.2.pop.1 h1
  refine ⟨p1, p2, vs, us, rfl, rfl, e5, e2, by rw [kp_len e6, kp_len e3, hl], fun v hv => ?_, q _ H ⟨Hd, ps, S.pop.2.pop.2.push rfl⟩⟩
  obtain ⟨i, hi⟩ := List.mem_iff_getElem?.mp hv
  have hi2 := (List.getElem?_eq_some_iff.mp hi).1
  have hk : kvs[i]? = some (kvs[i]'(by rw [← kp_len e6]; exact hi2)) := List.getElem?_eq_getElem _
  obtain ⟨v', g1, g2, g3⟩ := prd_get e6 hk
  rw [hi] at g1
  cases g1
  obtain ⟨f1, f2⟩ := hp _ (List.mem_of_getElem? hk)
  obtain ⟨z, z1, z2⟩ := kp_get e3 f1
  obtain ⟨w1, w2⟩ := flat_dp g3 z2 f2
  exact ⟨by rw [g2, z1, w1], w2⟩
end

/-! ### sorted of pairs of whole numbers -/
def pQ (p : Int × Int) : PyData := .tuple [.int p.1, .int p.2]
def leQ (p q : Int × Int) : Prop := p.1 < q.1 ∨ (p.1 = q.1 ∧ p.2 ≤ q.2)
theorem perm_sorted {α : Type} {le : α → α → Prop} (anti : ∀ a b, le a b → le b a → a = b) : ∀ {l1 l2 : List α}, l1.Perm l2 → l1.Pairwise le → l2.Pairwise le → l1 = l2
  | [], l2, p, _, _ => by have := p.length_eq; exact (List.eq_nil_of_length_eq_zero this.symm).symm
  | a :: l1, [], p, _, _ => by have := p.length_eq; simp at this
  | a :: l1, b :: l2, p, h1, h2 => by
    have e : a = b := by
      have ha : a ∈ b :: l2 := p.subset (List.mem_cons_self ..)
      have hb : b ∈ a :: l1 := p.symm.subset (List.mem_cons_self ..)
      rcases List.mem_cons.mp ha with e | ha
      · exact e
      · rcases List.mem_cons.mp hb with e | hb
        · exact e.symm
        · exact anti a b ((List.pairwise_cons.mp h1).1 b hb) ((List.pairwise_cons.mp h2).1 a ha)
    subst e
    rw [perm_sorted anti (List.Perm.cons_inv p) (List.pairwise_cons.mp h1).2 (List.pairwise_cons.mp h2).2]
theorem leQ_anti (a b : Int × Int) (h1 : leQ a b) (h2 : leQ b a) : a = b := by
  obtain ⟨a1, a2⟩ := a
  obtain ⟨b1, b2⟩ := b
  unfold leQ at h1 h2
  simp only at h1 h2
  have e1 : a1 = b1 := by omega
  have e2 : a2 = b2 := by omega
  rw [e1, e2]
def isQ (K : PySem.W.Frag) (H : Hp) (z : V) (p : Int × Int) : Prop := ∃ b, z = V.ref b ∧ SqT K H b [.int p.1, .int p.2]
def rSrtD (K : PySem.W.Frag) : List V → Hp → VK → Prop := fun vs H Q => ∃ (l : Addr) (zs : List V) (ps : List (Int × Int)), vs = [V.ref l] ∧ SqL K H l zs ∧ ∃ R : V → Int × Int → Prop, (∀ z p, R z p → isQ K H z p) ∧ Paired R zs ps ∧
  ∀ ws qs r, Paired R ws qs → qs.Perm ps → qs.Pairwise leQ → H r = none → Q (.ref r) (upd H r (.lst ws))
theorem prd_map {α β : Type} {F : α → β → Prop} {g : α → β} : ∀ {xs : List α} {ys : List β}, Paired F xs ys → (∀ x y, F x y → g x = y) → ys = xs.map g
  | _, _, .nil, _ => rfl
  | _, _, .cons h t, q => by rw [List.map_cons, q _ _ h, prd_map t q]
theorem prd_of_map {α β : Type} {F : α → β → Prop} {g : α → β} : ∀ {xs : List α}, (∀ x ∈ xs, F x (g x)) → Paired F xs (xs.map g)
  | [], _ => .nil
  | x :: xs, h => .cons (h x (List.mem_cons_self ..)) (prd_of_map fun y hy => h y (List.mem_cons_of_mem _ hy))
theorem prd_ex {α β : Type} {F : α → β → Prop} : ∀ {xs : List α} {ys : List β}, Paired F xs ys → ∀ x ∈ xs, ∃ y, F x y
  | _, _, .cons h t, x, hx => by
    rcases List.mem_cons.mp hx with rfl | hx
    · exact ⟨_, h⟩
    · exact prd_ex t x hx
theorem call_srtD {X : Cx} : CallR X (.builtin "sorted") (rSrtD X.K) := by
  intro pins s σ H vs us Q J rel hyp
  obtain ⟨l, zs, ps, rfl, hseq, R, hR, each, q⟩ := hyp
  have uniq : ∀ {z : V} {p p' : Int × Int}, isQ X.K H z p → isQ X.K H z p' → p = p' := by
    rintro z ⟨i, j⟩ ⟨i', j'⟩ ⟨b, rfl, h⟩ ⟨b', e, h'⟩
    cases e
    obtain ⟨cells, rc, ⟨o, g1, _, n, g2⟩, _⟩ := J.tuple h
    obtain ⟨cells', rc', ⟨o', g1', _, n', g2'⟩, _⟩ := J.tuple h'
    rw [g1] at g1'
    cases g1'
    rw [g2] at g2'
    injection g2' with e1 e2
    have e1 : cells = cells' := by simpa using e1
    subst e1
    obtain ⟨c1, c2, e3, ⟨k1, r1⟩, ⟨k2, r2⟩⟩ := vals2 rc
    obtain ⟨d1, d2, e4, ⟨k3, r3⟩, ⟨k4, r4⟩⟩ := vals2 rc'
    rw [e3] at e4
    subst r1 r2 r3 r4
    injection e4 with e5 e6
    injection e5 with e5
    injection e6 with e6
    injection e6 with e6
    rw [show i = i' from e5, show j = j' from e6]
  let g : V → Int × Int := fun z => Classical.epsilon fun p => isQ X.K H z p
  have gp : ∀ z p, R z p → g z = p := fun z p h => uniq (Classical.epsilon_spec (p := fun p => isQ X.K H z p) ⟨p, hR z p h⟩) (hR z p h)
  have hps : ps = zs.map g := prd_map each gp
  have ing : ∀ z ∈ zs, R z (g z) := fun z hz => by
    obtain ⟨p, hp⟩ := prd_ex each z hz
    rw [gp z p hp]
    exact hp
  refine call_srtQ pins s σ H [.ref l] us Q J rel ⟨l, zs, g, rfl, hseq, fun z hz => hR _ _ (ing z hz), fun ws r hs hb hr => ?_⟩
  refine q ws (ws.map g) r (prd_of_map fun w hw => ing w (hb.perm.mem_iff.mp hw)) (by rw [hps]; exact hb.perm.map g) ?_ hr
  rw [List.pairwise_map]
  refine hs.imp fun {a b} h => ?_
  have h : SrtO.lexB (g b) (g a) = false := h
  unfold SrtO.lexB at h
  unfold leQ
  split at h
  · have := of_decide_eq_false h
    omega
  · have := of_decide_eq_false h
    omega
section
variable {K : PySem.W.Frag} {m : Env'} {ow ow1 ow2 : List OC} {k : Knd} {fl : Bool} {P : Post}
theorem dpq {Hq : Hp} : ∀ {vs : List V} {ps : List (Int × Int)}, DpAll K Hq vs (ps.map pQ) → Paired (isQ K Hq) vs ps
  | _, [], .nil => .nil
  | _, p :: ps, .cons h t => by
    refine .cons ?_ (dpq t)
    cases h with
    | tup hs ha =>
      cases ha with
      | cons h1 ha => cases ha with
        | cons h2 ha =>
          cases ha
          cases h1
          cases h2
          exact ⟨_, rfl, hs⟩
theorem qdp {Hq : Hp} : ∀ {vs : List V} {ps : List (Int × Int)}, Paired (isQ K Hq) vs ps → DpAll K Hq vs (ps.map pQ)
  | _, _, .nil => .nil
  | _, _, .cons ⟨b, e, h⟩ t => by
    subst e
    exact .cons (.tup h (.cons (.int _) (.cons (.int _) .nil))) (qdp t)
theorem immsQ : ∀ ps : List (Int × Int), imms (ps.map pQ) = true
  | [] => rfl
  | p :: r => by rw [List.map_cons, imms, immsQ r]; rfl
/-- sorted(xs), xs a list of pairs of ints -/
theorem cc_srtD (b : Bool) (ps qs : List (Int × Int)) (h : seqOf ow k = some (fl, ps.map pQ)) (h1 : qs.Perm ps) (h2 : qs.Pairwise leQ) : CC K (rSrtD K) m ow [k] (newK b ow (qs.map pQ)) (newO b ow (qs.map pQ)) := by
  rintro He Fr ts σ ys xs H Q hl ⟨Hd, ps0, S⟩ q
  obtain ⟨y, rfl⟩ := one hl
  obtain ⟨p, vs, rfl, g1, g2⟩ := seq_ok S S.pop.1 h
  have g3 := prt g2 (by rw [immsQ]; simp)
  refine ⟨p, vs, ps, rfl, g1, isQ K (port He Hd), fun _ _ ⟨c, e, z⟩ => ⟨c, e, sqt_mono S.sub z⟩, dpq g3, fun ws qs' r w1 w2 w3 hr => ?_⟩
  have e : qs' = qs := perm_sorted leQ_anti (w2.trans h1.symm) w3 h2
  subst e
  exact q _ _ (S.pop.2.made b hr (qdp w1))
end

section
variable {K : PySem.W.Frag} {m : Env'} {ow ow1 ow2 : List OC} {k : Knd} {fl : Bool} {P : Post}
theorem ss_aug {i : Nat} {te : TE} {f : Int → Int → Int} {a b : Int} (hm : m[i]? = some (some (.v (.int a)))) (h : EE K te m ow (.v (.int b)) ow1) (q : P.nx (m.set i (some (.v (.int (f a b))))) ow1) : SS K (tAug i te (ipI f)) m ow P := fun He Fr ts σ xs H D S F => by
  obtain ⟨Hd, ps, S0⟩ := id S
  obtain ⟨y, h1, h2⟩ := prd_get S0.sv hm
  obtain ⟨x, rfl, h3⟩ := (show ∃ x, y = some x ∧ _ from h2)
  cases (show x = .int a from h3)
  refine ⟨.int a, h1, h He Fr _ _ _ _ _ S fun z H1 S1 => ?_⟩
  cases S1.top
  obtain ⟨Hd1, ps1, S2⟩ := S1.drop
  exact ⟨a, b, rfl, rfl, F.nx _ _ _ _ q ⟨Hd1, ps1, S2.store (x := .int (f a b)) (k := .v (.int (f a b))) rfl i⟩⟩
theorem upd_again {H : Hp} {p : Addr} {o o2 : HO} : upd (upd H p o) p o2 = upd H p o2 := by
  funext a
  unfold upd
  split <;> rfl
theorem call_srtDK {K : PySem.W.Frag} {X : Cx} (hK : X.K = K := by rfl) : CallR X (.builtin "sorted") (rSrtD K) := hK ▸ call_srtD
/-- {k: v} of written values -/
theorem ee_disp1 {key : Key} {v : V} {d : PyData} (h : sd v = some d) : EE K (tDisp [(tC (kV key), tC v)]) m ow (.own ow.length) (ow ++ [.dic [(key, d)]]) := fun He Fr ts σ xs H Q ⟨Hd, ps, S⟩ q => fun p hp => by
  refine ⟨upd_same, [(key, v)], rfl, by simp, ?_⟩
  rw [upd_again]
  exact q _ _ (S.newD (vs := [(key, v)]) hp (.cons ⟨rfl, sd_ok h⟩ .nil))
end

section
variable {K : PySem.W.Frag} {m : Env'} {ow : List OC}
theorem kd_keys {Hq : Hp} : ∀ l : List (Key × V), DpAll K Hq (l.map fun kv => kV kv.1) (l.map fun kv => kD kv.1)
  | [] => .nil
  | kv :: l => by
    refine .cons ?_ (kd_keys l)
    show Dp K Hq (kV kv.1) (kD kv.1)
    cases kv.1 with
    | inl i => exact .int i
    | inr s => exact .str s
/-- list(d) -/
theorem cc_listD (b : Bool) {n : Nat} {kvs : List (Key × PyData)} {ds : List PyData} (h : ow[n]? = some (.dic kvs)) (e : kvs.map (fun kv => kD kv.1) = ds) : CC K rListD m ow [.own n] (newK b ow ds) (newO b ow ds) := by
  rintro He Fr ts σ ys xs H Q hl ⟨Hd, ps, S⟩ q
  obtain ⟨y, rfl⟩ := one hl
  obtain ⟨p, vs, _, rfl, _, h2, h3⟩ := S.ownD S.pop.1 h
  refine ⟨p, vs, rfl, h2, fun r hr => q _ _ (S.pop.2.made b hr ?_)⟩
  have hk := kp_keys h3
  have e1 : vs.map (fun kv => kD kv.1) = ds := by
    rw [← e]
    have a1 : vs.map (fun kv => kD kv.1) = (vs.map (·.1)).map kD := by rw [List.map_map]; rfl
    have a2 : kvs.map (fun kv => kD kv.1) = (kvs.map (·.1)).map kD := by rw [List.map_map]; rfl
    rw [a1, a2, hk]
  rw [← e1]
  exact kd_keys vs
end
end LD

/-! What gives one of several outcomes. -/
namespace LD
open PySem PySem.Spec PyProof.Rows L2
section
variable {K : PySem.W.Frag} {m : Env'} {ow ow1 : List OC} {ks : List Knd} {k : Knd} {α : Type} {args : α → List PyData} {pre : α → Prop} {out : α → PyData} {ar : TA} {E : XK} {te : TE} {t u : TS} {P : Post} {i : Nat} {X Y : Knd → List OC → Prop}
theorem ex_of (h : EE K te m ow k ow1) (hX : X k ow1) : EX K te m ow X := fun He Fr ts σ xs H Q S q => h He Fr ts σ xs H _ S fun x H1 S1 => q k ow1 x H1 hX S1
theorem ex_imp (h : EX K te m ow X) (hY : ∀ k ow', X k ow' → Y k ow') : EX K te m ow Y := fun He Fr ts σ xs H Q S q => h He Fr ts σ xs H _ S fun k ow' x H1 hX S1 => q k ow' x H1 (hY k ow' hX) S1
/-- f(e), e with one of several outcomes -/
theorem ex_call1 (b : Bool) (h : EX K te m ow X) (hY : ∀ k ow', X k ow' → ∃ a, ads ow' [k] = some (args a) ∧ pre a ∧ Y (resK b ow' (out a)) (resO b ow' (out a))) : EX K (tCall (spP args pre out K) [] E (tCons te tNil)) m ow Y := fun He Fr ts σ xs H Q S q =>
  h He Fr ts σ xs H _ S fun k ow' x H1 hX S1 => by
    obtain ⟨a, h1, h2, h3⟩ := hY k ow' hX
    obtain ⟨Hd, ps, S2⟩ := S1
    obtain ⟨g1, S3⟩ := S2.pop
    exact ⟨a, by rw [List.append_nil]; exact ads_ok S3 (.cons g1 .nil) h1, h2, fun x H' Hf e f r => q _ _ _ _ h3 (S3.res b e f r)⟩
/-- if not e: .. -/
theorem ss_ifNX (h : EX K te m ow X) (hX : ∀ k ow1, X k ow1 → k = .v (.bl true) ∧ SS K u m ow1 P) : SS K (tIfS (tNot (tB te)) t u) m ow P := fun He Fr ts σ xs H D S F =>
  h He Fr ts σ xs H _ S fun k ow' x H1 hx S1 => by
    obtain ⟨rfl, hu⟩ := hX k ow' hx
    refine ⟨true, S1.top, ?_⟩
    exact hu He Fr ts σ xs H1 D S1.drop F
end

/-! ### set(xs), xs a list of whole numbers: what is in it -/
def SetI (P : Program) (w : World) (a : Addr) (ns : List Int) (n : Nat) : HO := .ext fun h => h.SetOf (intKind P w) a (fun k => decide (k ∈ ns)) n
def rSetI (P : Program) (w : World) (K : PySem.W.Frag) : List V → Hp → VK → Prop := fun xs H Q => ∃ (l : Addr) (ns : List Int), xs = [.ref l] ∧ SqL K H l (ns.map V.int) ∧ ns.length < 4000 ∧ ∀ p n, H p = none → Q (.ref p) (upd H p (SetI P w p ns n))
def rInSetI (P : Program) (w : World) (neg : Bool) : R2 := fun x y H Q => ∃ k a ns n, x = V.int k ∧ y = V.ref a ∧ H a = some (SetI P w a ns n) ∧ Q (.bl (if neg then !decide (k ∈ ns) else decide (k ∈ ns))) H
section
variable {X : Cx}
theorem call_setI (hc : X.calm = true) : CallR X (.type "set") (rSetI X.prog X.w X.K) := by
  intro pins s σ H xs us Q I r h
  obtain ⟨l, ns, rfl, hl, hn, q⟩ := h
  obtain ⟨u, rfl, ru⟩ := vals1 r
  cases (show u = Value.ref l from ru)
  obtain ⟨its, rv, pl, _⟩ := I.list hl
  have ln : its.length = ns.length := by rw [← rv.length, List.length_map]
  have sz : its.toArray.size = ns.length := by rw [List.size_toArray]; exact ln
  refine call_set_list (I.ok.hd hc) pl.isList (ns := ns) (by simpa using rv.ints) (by rw [sz]; unfold scanBound; omega) fun h' tk hS keep => ?_
  have kp : ∀ b o, s.heap.get? b = some o → h'.get? b = some o := fun b o e => keep b o (Heap.lt_size e) e
  have eS : (fun k' => (PyProof.Rows.firstMet (fun i => ns.getD i 0) its.toArray.size).any (· == k')) = fun k => decide (k ∈ ns) := by
    funext k
    rw [PyProof.Rows.firstMet_any, sz, Bool.eq_iff_iff, List.any_eq_true, decide_eq_true_eq]
    constructor
    · rintro ⟨z, hz, e⟩
      obtain ⟨i, hi, rfl⟩ := List.mem_map.mp hz
      have hi := List.mem_range.mp hi
      have e := eq_of_beq e
      rw [← e, List.getD_eq_getElem?_getD, List.getElem?_eq_getElem hi]
      exact List.getElem_mem hi
    · intro hk
      obtain ⟨i, hi, e⟩ := List.mem_iff_getElem.mp hk
      refine ⟨k, List.mem_map.mpr ⟨i, List.mem_range.mpr hi, ?_⟩, beq_self_eq_true k⟩
      rw [List.getD_eq_getElem?_getD, List.getElem?_eq_getElem hi]
      exact e
  rw [eS] at hS
  refine ⟨.ref _, _, I.laid (t' := tk) (o := SetI X.prog X.w s.heap.objs.size ns (PyProof.Rows.firstMet (fun i => ns.getD i 0) its.toArray.size).length) kp (Nat.le_refl _) ?_, rfl, q _ _ (I.hok.fresh (Nat.le_refl _))⟩
  obtain ⟨o, z1, z2, z3, ho, z4⟩ := id hS
  refine ⟨hS, ⟨o, ho⟩, fun h1 h2 p k => ?_⟩
  obtain ⟨o, z1, z2, z3, ho, z4⟩ := p
  exact ⟨o, z1, z2, z3, k o ho, z4⟩
theorem op_inSetI : OpR X (compareOp .In) (rInSetI X.prog X.w false) := by
  intro pins s σ H x y v u Q I rx ry h
  obtain ⟨k, a, ns, n, rfl, rfl, ha, q⟩ := h
  obtain ⟨tk, rfl⟩ := rx
  cases ry
  exact wpAny_inSet_of (S := fun k => decide (k ∈ ns)) (intKind_is _ _ _ _) rfl (I.hok a _ ha).1 ⟨.bl (decide (k ∈ ns)), H, I.tok _, rfl, q⟩
theorem op_notInSetI : OpR X (compareOp .NotIn) (rInSetI X.prog X.w true) := by
  intro pins s σ H x y v u Q I rx ry h
  obtain ⟨k, a, ns, n, rfl, rfl, ha, q⟩ := h
  obtain ⟨tk, rfl⟩ := rx
  cases ry
  exact wpAny_notInSet_of (S := fun k => decide (k ∈ ns)) (intKind_is _ _ _ _) rfl (I.hok a _ ha).1 ⟨.bl (!decide (k ∈ ns)), H, I.tok _, rfl, q⟩
end
section
variable {X : Cx} {P : Program} {w : World} {K : PySem.W.Frag}
theorem call_setIK (hP : X.prog = P) (hw : X.w = w) (hK : X.K = K) (hc : X.calm = true) : CallR X (.type "set") (rSetI P w K) := hP ▸ hw ▸ hK ▸ call_setI hc
theorem op_inSetIK (hP : X.prog = P) (hw : X.w = w) : OpR X (compareOp .In) (rInSetI P w false) := hP ▸ hw ▸ op_inSetI
theorem op_notInSetIK (hP : X.prog = P) (hw : X.w = w) : OpR X (compareOp .NotIn) (rInSetI P w true) := hP ▸ hw ▸ op_notInSetI
theorem rm65 {k : Nat} {A : Around} (r : Room k A) : A.units + 65 < cLine := by have := r.un; omega
theorem op_inDK (hK : X.K = K) (hu : X.A.units + 65 < cLine) : OpR X (compareOp .In) (rInD K) := hK ▸ op_inD hu
theorem op_notInDK (hK : X.K = K) (hu : X.A.units + 65 < cLine) : OpR X (compareOp .NotIn) (rNotInD K) := hK ▸ op_notInD hu
end
section
variable {P : Program} {w : World} {K : PySem.W.Frag} {m : Env'} {ow ow1 ow2 : List OC} {k k1 k2 : Knd} {ta tb : TE} {i : Int} {ns : List Int} {fl : Bool} {d : PyData} {ds : List PyData} {n : Nat} {neg : Bool}
/-- i in set(xs) -/
theorem ee_inSetI (ha : EE K ta m ow (.v (.int i)) ow1) (hb : EE K tb m ow1 k ow2) (hs : seqOf ow2 k = some (fl, ns.map PyData.int)) (hz : ns.length < 4000) :
    EE K (tOp (rInSetI P w neg) ta (tCB (rSetI P w K) (tCons tb tNil))) m ow (.v (.bl (if neg then !decide (i ∈ ns) else decide (i ∈ ns)))) ow2 := fun He Fr ts σ xs H Q S q =>
  ha He Fr ts σ xs H _ S fun x H1 S1 => hb He Fr _ σ _ H1 _ S1 fun y H2 ⟨Hd, ps, S2⟩ => by
    cases (show x = .int i from S2.pop.2.pop.1)
    obtain ⟨p, vs, rfl, h1, h2⟩ := seq_ok S2 S2.pop.1 hs
    rw [of_dpa_ints h2] at h1
    refine ⟨p, ns, rfl, h1, hz, fun r n hr => ⟨i, r, ns, n, rfl, rfl, upd_same, ?_⟩⟩
    have e : Same H2 (upd H2 r (SetI P w r ns n)) := fun a o z => by rw [upd_ne (ne_of_none z hr)]; exact z
    exact q _ _ ⟨Hd, ps, (S2.pop.2.pop.2.grow e).push rfl⟩
/-- x in xs, of data -/
theorem rr_inD (h1 : ad ow k1 = some d) (h2 : ad ow k2 = some (.list ds)) (s1 : SeqAt.shaped d = true) (s2 : SeqAt.shaped (.list ds) = true) : RR K (rInD K) m ow k1 k2 (.v (.bl (ds.any fun z => PyData.eqv z d))) ow := by
  rintro He Fr ts σ x y xs H Q ⟨Hd, ps, S⟩ q
  exact ⟨d, ds, dp_hand (ad_ok S S.pop.2.pop.1 h1) (nod_shaped s1), dp_hand (ad_ok S S.pop.1 h2) (nod_shaped s2), s1, s2, q _ H ⟨Hd, ps, S.pop.2.pop.2.push rfl⟩⟩
theorem rr_notInD (h1 : ad ow k1 = some d) (h2 : ad ow k2 = some (.list ds)) (s1 : SeqAt.shaped d = true) (s2 : SeqAt.shaped (.list ds) = true) : RR K (rNotInD K) m ow k1 k2 (.v (.bl (!ds.any fun z => PyData.eqv z d))) ow := by
  rintro He Fr ts σ x y xs H Q ⟨Hd, ps, S⟩ q
  exact ⟨d, ds, dp_hand (ad_ok S S.pop.2.pop.1 h1) (nod_shaped s1), dp_hand (ad_ok S S.pop.1 h2) (nod_shaped s2), s1, s2, q _ H ⟨Hd, ps, S.pop.2.pop.2.push rfl⟩⟩
/-- xs.reverse() -/
theorem dpa_rev {Hq : Hp} : ∀ {vs : List V} {ds : List PyData}, DpAll K Hq vs ds → DpAll K Hq vs.reverse ds.reverse
  | _, _, .nil => .nil
  | _, _, .cons h t => by rw [List.reverse_cons, List.reverse_cons]; exact dpa_app (dpa_rev t) (.cons h .nil)
theorem ee_reverse {to : TE} (h : EE K to m ow (.own n) ow1) (h0 : ow1[n]? = some (.lst ds)) : EE K (tBM0 K "list" rReverse to) m ow (.v .non) (ow1.set n (.lst ds.reverse)) := fun He Fr ts σ xs H Q S q =>
  h He Fr ts σ xs H _ S fun x H1 ⟨Hd, ps, S1⟩ => ⟨S1.isL h0, by
    obtain ⟨p, vs, e1, rfl, _, e2, e3⟩ := S1.own S1.pop.1 h0
    exact ⟨p, vs, rfl, rfl, e2, q _ _ ⟨Hd, ps, (S1.pop.2.write e1 h0 (dpa_rev e3)).push rfl⟩⟩⟩
end
end LD

/-! sorted(set(xs)), xs a list of whole numbers. -/
namespace LD
open PySem PySem.Spec PyProof.Rows L2
section
variable {P : Program} {w : World} {A : Around}
theorem setR_keeps {a : Addr} {S : Int → Bool} {n : Nat} {h g : Heap} (R : SetR w h a S n) (k : ∀ o, h.get? a = some o → g.get? a = some o) : SetR w g a S n := R.at k
theorem upd_loop {Rz : Result → Shared → Prop} {It : Addr} {fp wr : List Addr} {G : Array GenState → Array GenState → Prop} {n : Nat} {Pv : Nat → Value → Prop} {St : Nat → Shared → Prop}
    (W : WalksS P w A.in1 It fp wr G n Pv St) (a : Addr) (ha : a ∉ fp) (val : Nat → Int) (hv : ∀ i v, Pv i v → ∃ t, v = .int (val i) t) (hb : n + 1 < scanBound) :
    ∀ (k i : Nat) (s : Shared), n - i = k → i ≤ n → St i s → (∃ m, m ≤ i ∧ SetR w s.heap a (fun x => decide (x ∈ (List.range i).map val)) m) →
      (∀ z, Moved (a :: wr) G s z → (∃ m, m ≤ n ∧ SetR w z.heap a (fun x => decide (x ∈ (List.range n).map val)) m) → Rz (.ok (.ret .none)) z) →
      codeAny (model P w) A (.builtin "set.update.loop" ⟨[.ref a, .ref It], []⟩) Rz s := by
  have na : a ∉ wr := fun z => ha (W.sub _ z)
  have sub : ∀ b ∈ wr, b ∈ a :: wr := fun b z => List.mem_cons_of_mem _ z
  intro k
  induction k with
  | zero =>
    intro i s e1 e2 st hS hR
    have e : i = n := by omega
    subst e
    refine codeAny_builtin F.entry_set_update_loop ?_
    rw [Around.under_plainId F.plain_set_update_loop _]
    show wpAny _ A.in1 (pyNext (.ref It) >>= _) _ _ s
    refine wpAny_bind (W.done s _ _ st fun z mv => ?_)
    obtain ⟨m, hm, R⟩ := hS
    exact (show wpAny _ A.in1 (ret Value.none) _ _ z from wpAny_pure (hR z (mv.mono sub) ⟨m, hm, R.at fun o => mv.heap a o na⟩))
  | succ k ih =>
    intro i s e1 e2 st hS hR
    have lt : i < n := by omega
    refine codeAny_builtin F.entry_set_update_loop ?_
    rw [Around.under_plainId F.plain_set_update_loop _]
    show wpAny _ A.in1 (pyNext (.ref It) >>= _) _ _ s
    refine wpAny_bind (W.item i s _ _ lt st fun v z pv st2 mv => ?_)
    obtain ⟨t, rfl⟩ := hv i v pv
    obtain ⟨m, hm, R⟩ := hS
    have R2 : SetR w z.heap a (fun x => decide (x ∈ (List.range i).map val)) m := R.at fun o => mv.heap a o na
    show wpAny _ A.in1 (holding [Value.int (val i) t] (setAdd a (.int (val i) t)) >>= _) _ _ z
    refine wpAny_bind (wpAny_holding (show wpAny _ A.in1 (setAdd a (.int (val i) t)) _ _ z from ?_))
    unfold setAdd
    refine wpAny_holding (wpAny_bind ((intKind P w).pyHash (k := val i) (intKind_is _ _ _ _) ?_))
    refine setR_add_hashed (s := { z with toks := z.toks + 1 }) R2 (by omega) fun g sb R3 => ?_
    have eS : (fun j => decide (j ∈ (List.range i).map val) || decide (j = val i)) = fun x => decide (x ∈ (List.range (i + 1)).map val) := by
      funext x
      rw [List.range_succ, List.map_append, Bool.eq_iff_iff]
      simp
    rw [eS] at R3
    refine wpAny_pure ⟨plainId_quiet F.plain_set_update_loop _, ih (i + 1) _ (by omega) lt (W.frame _ z _ _ st2 (Nat.le_succ _) fun b hb o e => ?_) ⟨_, ?_, R3⟩ fun y mv2 hS2 => ?_⟩
    · exact (sb.2 b fun q : b = a => ha (q ▸ hb)).trans e
    · split <;> omega
    · refine hR y (Moved.trans W.gtrans ((mv.mono sub).then_heap (Nat.le_succ _) fun b o hb e => ?_) mv2) hS2
      exact (sb.2 b fun q : b = a => hb (q ▸ List.mem_cons_self ..)).trans e
end
def freshSet (w : World) : Obj := { cls := .type "set", dict := none, data := .set #[] 0 (.fresh 0 0 (!w.params.followText "set-order")) }
section
variable {P : Program} {w : World} {A : Around} {E : Value → Shared → Prop} {s : Shared}
/-- set.__new__(set, x) -/
theorem new_set1 (x : Value) {Qn : Value → Shared → Prop} (h : Qn (.ref s.heap.objs.size) { s with heap := s.heap.push (freshSet w) }) :
    codeAny (model P w) A (.call (.builtin "set.__new__") ⟨[.type "set", x], []⟩) (wants Qn E) s := by
  refine codeAny_of_tree (show wpAny _ A.in1 (do checkBuiltinCall "set.__new__" ⟨[.type "set", x], []⟩; again (.builtin "set.__new__" ⟨[.type "set", x], []⟩)) _ _ s from ?_)
  refine wpAny_bind (wpAny_of_eq (F.newCall_set_1 x) (wpAny_pure ⟨plainId_quiet F.plain_set_new _, codeAny_builtin F.entry_set_new ?_⟩))
  rw [Around.under_plainId F.plain_set_new _]
  unfold Builtin.«set.__new__» Builtin.Frozenset.newClass
  have hsub := sub_set_self
  obtain ⟨hp, gs, dr, tk, os⟩ := s
  dsimp only
  wp_walk
  refine wpAny_askSetting (wpAny_pure ?_)
  dsimp only
  simp only [newObj]
  exact wpAny_bind (wpAny_alloc (wpAny_pure (wpAny_pure h)))
theorem set_listR {l : Addr} {its : Array Value} {ns : List Int} {Q : Value → Shared → Prop} (hh : A.handled = none) (hl : s.heap.IsList l its) (hi : IntsAre its.toList ns) (hb : its.size + 1 < scanBound)
    (hQ : ∀ (g : Heap) (tk m : Nat), m ≤ its.size → SetR w g s.heap.objs.size (fun x => decide (x ∈ (List.range its.size).map fun i => ns.getD i 0)) m → (∀ b o, s.heap.get? b = some o → g.get? b = some o) → Q (.ref s.heap.objs.size) { s with heap := g, toks := tk }) :
    wpAny (model P w) A (call (.type "set") [.ref l]) Q E s := by
  obtain ⟨c, tl, hmro⟩ := F.called_set.mro
  have hmade := F.called_set.made
  have hsub := F.called_set.sub
  have h1 := F.called_set.notType
  have h2 := F.called_set.canCreate
  have hct := F.typeCall_set_1 (.ref l)
  refine wpAny_call (codeAny_of_tree (show wpAny _ _ (callAny (.type "set") _) _ _ _ from wpAny_pure ⟨Code.quiet_builtin _ (by decide +kernel), codeAny_builtin F.entry_type_call ?_⟩))
  rw [Around.under_plain (weight_type_call_type "set" [.ref l] []) rfl]
  repeat (any_goals (first | assumption | wp_step))
  refine codeAny_mono (new_set1 (.ref l) (E := E) (Qn := fun u z => u = .ref s.heap.objs.size ∧ z = { s with heap := s.heap.push (freshSet w) }) ⟨rfl, rfl⟩) fun r z hr => ?_
  cases r with
  | error e => exact hr
  | ok fl =>
    cases fl with
    | ret u =>
      obtain ⟨rfl, rfl⟩ := hr
      have g0 : (s.heap.push (freshSet w)).get? s.heap.objs.size = some (freshSet w) := Heap.get?_push_size _ rfl
      have hT : Shared.TypeIs { s with heap := s.heap.push (freshSet w) } (.ref s.heap.objs.size) "set" := ⟨_, g0, rfl⟩
      have hli := F.called_set.init.lookup
      have hbi := F.called_set.init.bind (.ref s.heap.objs.size)
      repeat (any_goals (first | assumption | wp_step))
      refine codeAny_mono (codeAny_call_builtin (R := wants (fun r z => r = .none ∧ ∃ (g : Heap) (tk m : Nat), z = { s with heap := g, toks := tk } ∧ m ≤ its.size ∧ SetR w g s.heap.objs.size (fun x => decide (x ∈ (List.range its.size).map fun i => ns.getD i 0)) m ∧
          (∀ b o, s.heap.get? b = some o → g.get? b = some o)) E) F.called_set.init.plain F.entry_set_init (check_set_init_1 hT ?_)) fun r2 z2 hr2 => ?_
      · obtain ⟨ol, hol, hcl, nl, hdl⟩ := hl
        obtain ⟨ocls, odict, odata, oslots⟩ := ol
        simp only at hcl hdl
        subst hcl
        subst hdl
        have hol2 : (s.heap.push (freshSet w)).get? l = some { cls := .type "list", dict := odict, data := .seq its nl, slots := oslots } := Heap.get?_push_of_some _ hol
        have hsls := F.sub_list_set
        have hslf := F.sub_list_frozenset
        have hne : (Value.type "list" == Value.type "dict") = false := by decide
        have hl1 : (s.heap.push (freshSet w)).IsList l its := ⟨_, hol2, rfl, nl, rfl⟩
        unfold Builtin.«set.__init__» noKeywords Builtin.Frozenset.updateFrom
        generalize hPI : pyIter = PI
        wp_walk
        subst hPI
        refine wpAny_pyIter_list hl1 (wpAny_bind (wpAny_runValue ?_))
        have hlS : l < s.heap.objs.size := Heap.lt_size hol
        have h3 : A.in1.in1.in1.handled = none := by simp [hh]
        have hsz : (s.heap.push (freshSet w)).objs.size = s.heap.objs.size + 1 := Heap.size_push ..
        have hneI : l ≠ (s.heap.push (freshSet w)).objs.size := by rw [hsz]; exact Nat.ne_of_lt (Nat.lt_succ_of_lt hlS)
        have hSf : s.heap.objs.size ∉ [(s.heap.push (freshSet w)).objs.size, l] := by
          rw [hsz]
          simp only [List.mem_cons, List.not_mem_nil, or_false, not_or]
          exact ⟨Nat.ne_of_lt (Nat.lt_succ_self _), Nat.ne_of_gt hlS⟩
        refine upd_loop ((Walks.list h3 _ l hneI its).toS) s.heap.objs.size hSf (fun i => ns.getD i 0) (fun i v hv => hi.int_at i v (by rw [Array.getElem?_toList]; exact hv)) hb (its.size - 0) 0 _ (by omega) (Nat.zero_le _)
          ⟨⟨_, Heap.get?_push_size _ rfl, rfl, rfl⟩, (hl1.push _)⟩ ⟨0, Nat.le_refl _, ?_⟩ ?_
        · exact (setR_fresh w).at fun o e => Heap.get?_push_of_some _ e
        · intro z mv hS
          obtain ⟨g, gs, dr, tk, os⟩ := z
          have eg : gs = s.gens := mv.gens
          have ed : dr = s.drawn := mv.drawn
          have eo : os = s.os := mv.os
          subst eg
          subst ed
          subst eo
          obtain ⟨m, hm, R⟩ := hS
          show wpAny _ _ _ _ _ _
          refine wpAny_pure (show wpAny _ _ (ret Value.none) _ _ _ from wpAny_pure ⟨rfl, g, tk, m, rfl, hm, R, fun b o e => ?_⟩)
          have lt := Heap.lt_size e
          refine mv.heap b o ?_ (Heap.get?_push_of_some _ (Heap.get?_push_of_some _ e))
          simp only [List.mem_cons, List.not_mem_nil, or_false, not_or]
          exact ⟨Nat.ne_of_lt lt, by rw [hsz]; exact Nat.ne_of_lt (Nat.lt_succ_of_lt lt)⟩
      · cases r2 with
        | error e => exact hr2
        | ok f2 =>
          cases f2 with
          | ret r =>
            obtain ⟨rfl, g, tk, m, rfl, hm, R, kp⟩ := hr2
            repeat (any_goals (first | assumption | wp_step))
            exact hQ _ _ _ hm R kp
          | _ => exact hr2.elim
    | _ => exact hr.elim
end

/-! ### + of lists, whoever made them; sorted(set(xs)) -/
def rCatS (K : PySem.W.Frag) : R2 := fun x y H Q => ∃ l b xs zs, x = .ref l ∧ y = .ref b ∧ SqL K H l xs ∧ SqL K H b zs ∧ xs.length + zs.length ≤ sizeLine ∧ ∀ p, H p = none → Q (.ref p) (upd H p (.lst (xs ++ zs)))
def rSetO (w : World) (K : PySem.W.Frag) : List V → Hp → VK → Prop := fun xs H Q => ∃ (l : Addr) (ns : List Int), xs = [.ref l] ∧ SqL K H l (ns.map V.int) ∧ ns.length < 64 ∧ ∀ p n, H p = none → n < 64 → Q (.ref p) (upd H p (SetO w p (fun k => decide (k ∈ ns)) n))
section
variable {X : Cx}
theorem op_catS : OpR X (binaryOp .Add) (rCatS X.K) := by
  intro pins s σ H x y v u Q I rx ry h
  obtain ⟨l, b, xs, zs, rfl, rfl, h1, h2, hz, q⟩ := h
  cases rx
  cases ry
  obtain ⟨i1, r1, ⟨⟨cls, dd, data, sl⟩, n, ho, hc, _, hd⟩, _⟩ := I.list h1
  obtain ⟨i2, r2, ⟨⟨cls2, dd2, data2, sl2⟩, n2, ho2, hc2, _, hd2⟩, _⟩ := I.list h2
  simp only at hc hd hc2 hd2
  subst hc hd hc2 hd2
  have z1 := r1.length
  have z2 := r2.length
  have e : i1.toArray ++ i2.toArray = (i1 ++ i2).toArray := by simp
  have add := list_addW l b i1.toArray i2.toArray n n2 dd dd2 sl sl2 (by rw [List.size_toArray, List.size_toArray]; omega)
  refine PySem.concat_meets ⟨_, ho, rfl⟩ ⟨_, ho2, rfl⟩ noFill_list_add seq_list_add PySem.F.slot_list_add PySem.F.entry_list_add (PySem.F.args_list_add_2 _ _) add ⟨ho, ho2, ?_⟩
  rw [e]
  exact ⟨.ref _, _, I.lnew (t' := s.toks) (r1.append r2) (by rw [List.length_append]; omega), rfl, q _ I.fresh⟩
theorem call_setO (hc : X.calm = true) : CallR X (.type "set") (rSetO X.w X.K) := by
  intro pins s σ H xs us Q I r h
  obtain ⟨l, ns, rfl, hl, hn, q⟩ := h
  obtain ⟨u, rfl, ru⟩ := vals1 r
  cases (show u = Value.ref l from ru)
  obtain ⟨its, rv, pl, _⟩ := I.list hl
  have ln : its.length = ns.length := by rw [← rv.length, List.length_map]
  have sz : its.toArray.size = ns.length := by rw [List.size_toArray]; exact ln
  refine set_listR (I.ok.hd hc) pl.isList (ns := ns) (by simpa using rv.ints) (by rw [sz]; unfold scanBound; omega) fun g tk m hm R kp => ?_
  have eS : (fun x => decide (x ∈ (List.range its.toArray.size).map fun i => ns.getD i 0)) = fun k => decide (k ∈ ns) := by
    funext k
    rw [sz, decide_eq_decide]
    constructor
    · intro hz
      obtain ⟨i, hi, rfl⟩ := List.mem_map.mp hz
      have hi := List.mem_range.mp hi
      rw [List.getD_eq_getElem?_getD, List.getElem?_eq_getElem hi]
      exact List.getElem_mem hi
    · intro hk
      obtain ⟨i, hi, e⟩ := List.mem_iff_getElem.mp hk
      refine List.mem_map.mpr ⟨i, List.mem_range.mpr hi, ?_⟩
      rw [List.getD_eq_getElem?_getD, List.getElem?_eq_getElem hi]
      exact e
  rw [eS] at R
  exact ⟨.ref _, _, I.laid (t' := tk) (o := SetO X.w s.heap.objs.size (fun k => decide (k ∈ ns)) m) kp (Nat.le_refl _) (setO_new R), rfl, q _ m (I.hok.fresh (Nat.le_refl _)) (by omega)⟩
end
section
variable {X : Cx} {w : World} {K : PySem.W.Frag}
theorem op_catSK (hK : X.K = K) : OpR X (binaryOp .Add) (rCatS K) := hK ▸ op_catS
theorem call_setOK (hw : X.w = w) (hK : X.K = K) (hc : X.calm = true) : CallR X (.type "set") (rSetO w K) := hw ▸ hK ▸ call_setO hc
theorem call_sortedSetK (hw : X.w = w) (hc : X.calm = true) : CallR X (.builtin "sorted") (rSortedSet w) := hw ▸ cr_sortedSet hc
end
def dds : List Int → List Int
  | [] => []
  | x :: r => if x ∈ r then dds r else x :: dds r
theorem dds_mem : ∀ {l : List Int} {x : Int}, x ∈ dds l ↔ x ∈ l
  | [], _ => Iff.rfl
  | y :: r, x => by
    unfold dds
    split
    · rw [dds_mem, List.mem_cons]
      exact ⟨.inr, fun z => z.elim (fun e => e ▸ (by assumption)) id⟩
    · rw [List.mem_cons, List.mem_cons, dds_mem]
theorem dds_nd : ∀ l : List Int, (dds l).Nodup
  | [] => List.nodup_nil
  | y :: r => by
    unfold dds
    split
    · exact dds_nd r
    · rename_i h
      exact List.nodup_cons.mpr ⟨fun z => h (dds_mem.mp z), dds_nd r⟩
/-- the different ones, ascending -/
def ups (ns : List Int) : List Int := srt (dds ns)
theorem ups_mem {ns : List Int} {x : Int} : x ∈ ups ns ↔ x ∈ ns := ((srt_perm _).mem_iff).trans dds_mem
theorem ups_asc (ns : List Int) : (ups ns).Pairwise (· < ·) := by
  have h1 := srt_up (dds ns)
  have h2 : (ups ns).Nodup := (srt_perm _).nodup_iff.mpr (dds_nd ns)
  exact (h1.and h2).imp fun h => by have := h.1; have := h.2; omega
theorem asc_eq : ∀ {a b : List Int}, a.Pairwise (· < ·) → b.Pairwise (· < ·) → (∀ x, x ∈ a ↔ x ∈ b) → a = b
  | [], [], _, _, _ => rfl
  | [], y :: b, _, _, h => by have := (h y).mpr (List.mem_cons_self ..); cases this
  | x :: a, [], _, _, h => by have := (h x).mp (List.mem_cons_self ..); cases this
  | x :: a, y :: b, h1, h2, h => by
    obtain ⟨p1, q1⟩ := List.pairwise_cons.mp h1
    obtain ⟨p2, q2⟩ := List.pairwise_cons.mp h2
    have e : x = y := by
      rcases List.mem_cons.mp ((h x).mp (List.mem_cons_self ..)) with e | e
      · exact e
      · rcases List.mem_cons.mp ((h y).mpr (List.mem_cons_self ..)) with e' | e'
        · exact e'.symm
        · have := p1 _ e'
          have := p2 _ e
          omega
    subst e
    rw [asc_eq q1 q2 fun z => ?_]
    constructor
    · intro hz
      rcases List.mem_cons.mp ((h z).mp (List.mem_cons_of_mem _ hz)) with e | e
      · subst e; have := p1 _ hz; omega
      · exact e
    · intro hz
      rcases List.mem_cons.mp ((h z).mpr (List.mem_cons_of_mem _ hz)) with e | e
      · subst e; have := p2 _ hz; omega
      · exact e
theorem ups_id {ns : List Int} (h : ns.Pairwise (· < ·)) : ups ns = ns := asc_eq (ups_asc ns) h fun _ => ups_mem
section
variable {w : World} {K : PySem.W.Frag} {m : Env'} {ow ow1 : List OC} {k k1 k2 : Knd} {tb : TE} {ns : List Int} {fl f1 f2 : Bool} {ds es : List PyData}
/-- sorted(set(xs)) -/
theorem ee_sortedSet (b : Bool) (hb : EE K tb m ow k ow1) (hs : seqOf ow1 k = some (fl, ns.map PyData.int)) (hz : ns.length < 64) :
    EE K (tCB (rSortedSet w) (tCons (tCB (rSetO w K) (tCons tb tNil)) tNil)) m ow (newK b ow1 ((ups ns).map PyData.int)) (newO b ow1 ((ups ns).map PyData.int)) := fun He Fr ts σ xs H Q S q =>
  hb He Fr _ σ _ H _ S fun y H2 ⟨Hd, ps, S2⟩ => by
    obtain ⟨p, vs, rfl, h1, h2⟩ := seq_ok S2 S2.pop.1 hs
    rw [of_dpa_ints h2] at h1
    refine ⟨p, ns, rfl, h1, hz, fun r n hr hn => ⟨r, _, n, rfl, upd_same, hn, fun us t u1 u2 u3 ht => ?_⟩⟩
    have e : us = ups ns := asc_eq u1 (ups_asc ns) fun x => by rw [u2, decide_eq_true_eq, ups_mem]
    subst e
    have gr : Same H2 (upd H2 r (SetO w r (fun k => decide (k ∈ ns)) n)) := fun a o z => by rw [upd_ne (ne_of_none z hr)]; exact z
    exact q _ _ ((S2.pop.2.grow gr).made b ht (dpa_ints _))
theorem rr_catS (b : Bool) (h1 : seqOf ow k1 = some (f1, ds)) (h2 : seqOf ow k2 = some (f2, es)) (hz : ds.length + es.length ≤ 1000000) (p1 : (f1 || imms ds) = true) (p2 : (f2 || imms es) = true) : RR K (rCatS K) m ow k1 k2 (newK b ow (ds ++ es)) (newO b ow (ds ++ es)) := by
  rintro He Fr ts σ x y xs H Q ⟨Hd, ps, S⟩ q
  obtain ⟨p, vs, rfl, e2, e3⟩ := seq_ok S S.pop.1 h2
  obtain ⟨p', vs', rfl, g2, g3⟩ := seq_ok S S.pop.2.pop.1 h1
  refine ⟨p', p, vs', vs, rfl, rfl, g2, e2, by rw [dpa_len e3, dpa_len g3, sizeLine_eq]; omega, fun r hr => q _ _ (S.pop.2.pop.2.made b hr (dpa_app (prt g3 p1) (prt e3 p2)))⟩
end
end LD

/-! e is True; loops over, and calls with, one of several outcomes; comprehensions whose test changes one's own objects. -/
namespace LD
open PySem PySem.Spec PyProof.Rows L2
/-- e is True -/
def tIsT (ta : TE) : TE := fun σ H Q => ta σ H fun x H1 => ∃ b, x = V.bl b ∧ Q (.bl b) H1
theorem pc_isT {X : Cx} {a : Expr} {ta : TE} {j pos'} (ha : PE X a ta) : PC X .Is a (.Constant (.bool true) j pos') (tIsT ta) := by
  refine ⟨fun pins s σ H Q I h => ?_⟩
  refine thn (ha.run pins s σ H _ I h) fun v s1 ⟨x, H1, I1, r1, q1⟩ => ?_
  obtain ⟨b, rfl, q⟩ := q1
  cases r1
  exact Constant_bool (is_bool ⟨.bl b, H1, I1, by cases b <;> rfl, q⟩)
section
variable {K : PySem.W.Frag} {He Fr Hd H : Hp} {ps : List Addr} {m : Env'} {ow ow1 ow2 : List OC} {ts ks : List Knd} {σ : L2.St} {xs : List V} {k : Knd} {te te0 tl : TE} {tt : TT} {b : Bool} {P : Post} {X Y : Knd → List OC → Prop} {α : Type} {args : α → List PyData} {pre : α → Prop} {out : α → PyData} {E : XK}
theorem ee_isT (h : EE K te m ow (.v (.bl b)) ow1) : EE K (tIsT te) m ow (.v (.bl b)) ow1 := fun He Fr ts σ xs H Q S q =>
  h He Fr ts σ xs H _ S fun x H1 S1 => ⟨b, S1.top, by have := S1.top; subst this; exact q _ H1 S1⟩
/-- f(x, e), e with one of several outcomes -/
theorem ex_call2 (bb : Bool) (h0 : EE K te0 m ow k ow1) (h : EX K te m ow1 X) (hY : ∀ k2 ow', X k2 ow' → ∃ a, ads ow' [k, k2] = some (args a) ∧ pre a ∧ Y (resK bb ow' (out a)) (resO bb ow' (out a))) : EX K (tCall (spP args pre out K) [] E (tCons te0 (tCons te tNil))) m ow Y := fun He Fr ts σ xs H Q S q =>
  h0 He Fr ts σ xs H _ S fun x0 H0 S0 => h He Fr _ σ _ H0 _ S0 fun k2 ow' x H1 hX S1 => by
    obtain ⟨a, h1, h2, h3⟩ := hY k2 ow' hX
    obtain ⟨Hd, ps, S2⟩ := S1
    obtain ⟨g1, S3⟩ := S2.pop
    obtain ⟨g0, S4⟩ := S3.pop
    exact ⟨a, by rw [List.append_nil]; exact ads_ok S4 (.cons g0 (.cons g1 .nil)) h1, h2, fun x H' Hf e f r => q _ _ _ _ h3 (S4.res bb e f r)⟩
/-- for x in e, e with one of several outcomes -/
theorem ss_forX {j : Nat} {tb : TS} (h : EX K tl m ow X)
    (hX : ∀ k ow1, X k ow1 → ∃ (I : Nat → Env' → List OC → Prop) (fl : Bool) (ds : List PyData), I 0 m ow1 ∧ (∀ i m ow, i ≤ ds.length → I i m ow → seqOf ow k = some (fl, ds)) ∧
      (∀ i d m ow, ds[i]? = some d → I i m ow → SS K tb (m.set j (some (ek fl d))) ow { nx := I (i + 1), rt := P.rt, bk := P.nx, ct := I (i + 1), n0 := ow1.length }) ∧ ∀ m ow, I ds.length m ow → P.nx m ow) :
    SS K (tFor (iList K tl) (gName j) tb) m ow P := fun He Fr ts σ xs H D S F =>
  h He Fr ts σ xs H _ S fun k ow1 x H1 hx ⟨Hd, ps, S1⟩ => by
    obtain ⟨I, fl, ds, h0, hs, ht, he⟩ := hX k ow1 hx
    obtain ⟨p, us, rfl, hsq, _⟩ := seq_ok S1 S1.pop.1 (hs 0 _ _ (Nat.zero_le _) h0)
    refine ⟨p, rfl, ⟨us, hsq⟩, fun i n σ H => n = ds.length - i ∧ i ≤ ds.length ∧ ∃ m ow, I i m ow ∧ SA K He Fr m ow (k :: ts) σ (.ref p :: xs) H, ⟨_, rfl, Nat.zero_le _, _, _, h0, _, _, S1⟩, ?_⟩
    rintro i n σ2 H2 ⟨rfl, hi, m2, ow2, I2, Hd2, ps2, S2⟩
    obtain ⟨p2, us2, e, hsq2, hd2⟩ := seq_ok S2 S2.pop.1 (hs i _ _ hi I2)
    cases e
    have hlen := dpa_len hd2
    by_cases hlt : i < ds.length
    · have ha : ds[i]? = some ds[i] := List.getElem?_eq_getElem hlt
      refine .inr ⟨⟨us2, us2[i]'(by omega), hsq2, List.getElem?_eq_getElem (by omega)⟩, _, fun σ' H' h => ⟨ds.length - (i + 1), by omega, rfl, hlt, h⟩, fun x H' hy => ?_⟩
      obtain ⟨rfl, hy⟩ := hy
      have hx := hy us2 hsq2
      obtain ⟨d, h1, h2⟩ := dpa_at hd2 hx
      refine ht i d m2 ow2 h1 I2 He Fr (k :: ts) _ (.ref p :: xs) _ _ ⟨Hd2, ps2, S2.store (ek_ok h2) j⟩ ⟨fun m ow σ H q S => ⟨m, ow, q, S⟩, fun k' m ow σ x H q S => F.rt _ _ _ _ _ _ q (S.drop2 rfl), fun m ow σ H q S => F.nx _ _ _ _ q S.drop, fun m ow σ H q S => ⟨m, ow, q, S⟩, S1.inT⟩
    · have e : i = ds.length := by omega
      subst e
      exact .inl ⟨⟨us2, hsq2, by omega⟩, F.nx _ _ _ _ (he _ _ I2) ⟨Hd2, ps2, S2.pop.2⟩⟩
/-- [e for x in xs if t], t changes one's own objects -/
theorem ee_lcTX (bb : Bool) {vs : List Nat} {j : Nat} {fl : Bool} (as : List α) (emb : α → PyData) (c : Nat → Bool) (f : α → PyData) (oW : Nat → List OC) (dS : Nat → List PyData) (hl : EE K tl m ow k (oW 0)) (hs : ∀ i, i ≤ as.length → seqOf (oW i) k = some (fl, as.map emb)) (h0 : dS 0 = [])
    (hT : ∀ i a, as[i]? = some a → EB K tt ((wipeM m vs).set j (some (ek fl (emb a)))) (oW i) (c i) (oW (i + 1)) ∧ (c i = true → ∃ k', pd k' = some (f a) ∧ EE K te ((wipeM m vs).set j (some (ek fl (emb a)))) (oW (i + 1)) k' (oW (i + 1))) ∧ dS (i + 1) = if c i = true then dS i ++ [f a] else dS i)
    (hj : j ∈ vs) (hz : ∀ i, i ≤ as.length → (dS i).length < 10000000) :
    EE K (tLc (iList K tl) (gName j) tt te vs) m ow (newK bb (oW as.length) (dS as.length)) (newO bb (oW as.length) (dS as.length)) := fun He Fr ts σ xs H Q S q =>
  hl He Fr ts σ xs H _ S fun x H1 ⟨Hd, ps, S1⟩ => by
    obtain ⟨p, us, rfl, hsq, _⟩ := seq_ok S1 S1.pop.1 (hs 0 (Nat.zero_le _))
    refine ⟨p, rfl, ⟨us, hsq⟩, fun D hD => ?_⟩
    have hF := S1.noF hD
    refine ⟨fun i n H => n = as.length - i ∧ i ≤ as.length ∧ SoFar K He Fr m (oW i) (k :: ts) σ (.ref p :: xs) D (dS i) H, ⟨_, rfl, Nat.zero_le _, by rw [h0]; exact lc_begin S1 hD⟩, ?_⟩
    rintro i n H2 ⟨rfl, hi, S2⟩
    obtain ⟨Hd2, ps2, acc, e1, S3, e2⟩ := S2
    obtain ⟨p2, us2, e, hsq2, hd2⟩ := seq_ok S3 S3.pop.1 (hs i hi)
    cases e
    have hsq2 := (hid_sub H2 D).seq hsq2
    have hlen : us2.length = as.length := by rw [dpa_len hd2, List.length_map]
    by_cases hlt : i < as.length
    · have ha : as[i]? = some as[i] := List.getElem?_eq_getElem hlt
      obtain ⟨ht, he, hd⟩ := hT i as[i] ha
      refine .inr ⟨⟨us2, us2[i]'(by omega), hsq2, List.getElem?_eq_getElem (by omega)⟩, fun H' => SoFar K He Fr m (oW (i + 1)) (k :: ts) σ (.ref p :: xs) D (dS (i + 1)) H', fun H' h => ⟨as.length - (i + 1), by omega, rfl, hlt, h⟩, fun x H' hy => ?_⟩
      obtain ⟨rfl, hy⟩ := hy
      have hx : KOk K (port He Hd2) Hd2 ps2 x (ek fl (emb as[i])) := by
        have hx := hy us2 hsq2
        obtain ⟨d, h1, h2⟩ := dpa_at hd2 hx
        rw [List.getElem?_map, ha] at h1
        cases h1
        exact ek_ok h2
      obtain ⟨zs, hz1, hz2⟩ := hold S3.sv
      have S4 := (S3.lock e1 rfl).tvs (prd_app (dpa_prd (ps := ps2) e2) (prd_app hz1 S3.tv))
      have lz := PySem.Paired.length hz1
      have la := dpa_len e2
      have S5 := (S4.wipe vs).store hx j
      have back : ∀ {Hd4 : Hp} {ps4 : List Addr} {m4 : Env'} {σ4 : L2.St} {H4 : Hp}, SB K He (upd Fr D (.lst acc)) Hd4 ps4 m4 (oW (i + 1)) ((dS i).map Knd.dat ++ (known m ++ (k :: ts))) σ4 (acc ++ (zs ++ (.ref p :: xs))) H4 →
          H4 D = some (.lst acc) ∧ SB K He Fr Hd4 ps4 m (oW (i + 1)) (k :: ts) σ (.ref p :: xs) (hid H4 D) ∧ DpAll K (port He Hd4) acc (dS i) := by
        intro Hd4 ps4 m4 σ4 H4 S4
        obtain ⟨e, S5⟩ := S4.unlock hF
        obtain ⟨t1, t2⟩ := prd_split (by rw [List.length_map]; exact la) S5.tv
        obtain ⟨t3, t4⟩ := prd_split lz t2
        exact ⟨e, (S5.svs (hz2 _ _ _ t3)).tvs t4, of_dpa_prd t1⟩
      refine ⟨wipe_again σ vs j _ hj, ht He _ _ _ _ _ _ ⟨_, _, S5⟩ fun H3 ⟨Hd3, ps3, S6⟩ => ?_⟩
      cases hc : c i with
      | false =>
        rw [if_neg Bool.false_ne_true]
        obtain ⟨e, S7, h5⟩ := back S6
        rw [hd, hc, if_neg Bool.false_ne_true]
        exact ⟨_, _, acc, e, S7, h5⟩
      | true =>
        rw [if_pos rfl]
        obtain ⟨k', hk', he⟩ := he hc
        refine he He _ _ _ _ _ _ ⟨_, _, S6⟩ fun y H4 ⟨Hd4, ps4, S7⟩ => ?_
        obtain ⟨hy', S7⟩ := S7.pop
        obtain ⟨e, S8, h5⟩ := back S7
        have := hz i hi
        refine ⟨acc, e, by rw [la, sizeLine_eq]; omega, ?_⟩
        rw [hd, hc, if_pos rfl]
        exact ⟨Hd4, ps4, acc ++ [y], upd_same, by rw [hid_upd]; exact S8, dpa_app h5 (.cons (pd_ok hy' hk') .nil)⟩
    · have e : i = as.length := by omega
      subst e
      refine .inl ⟨⟨us2, hsq2, by omega⟩, q _ _ ?_⟩
      obtain ⟨Hd5, ps5, S5⟩ := lc_end bb ⟨Hd2, ps2, acc, e1, S3, e2⟩
      obtain ⟨h1, h2⟩ := S5.pop
      exact ⟨Hd5, ps5, h2.pop.2.push h1⟩
end
/-! ### a list of what came in and of what is one's own: to be looked at -/
def apd : Knd → Option PyData
  | .v x => sd x
  | .dat d => some d
  | .arg d => some d
  | .own _ => none
def apds : List Knd → Option (List PyData)
  | [] => some []
  | k :: r => match apd k, apds r with
    | some d, some ds => some (d :: ds)
    | _, _ => none
section
variable {K : PySem.W.Frag} {He Fr Hd H : Hp} {ps : List Addr} {m : Env'} {ow ow1 : List OC} {ts ks : List Knd} {σ : L2.St} {xs : List V} {ar : TA} {ds : List PyData}
theorem apd_ads : ∀ {ks : List Knd} {ds : List PyData}, apds ks = some ds → ads [] ks = some ds ∧ ∀ k ∈ ks, ∀ n, k ≠ .own n
  | [], _, h => ⟨h, fun _ h => by cases h⟩
  | k :: r, ds, h => by
    simp only [apds] at h
    split at h
    · rename_i d es h1 h2
      cases h
      obtain ⟨a, b⟩ := apd_ads h2
      have hk : ad [] k = some d ∧ ∀ n, k ≠ .own n := by
        cases k with
        | own n => cases h1
        | v x => exact ⟨h1, fun n e => by cases e⟩
        | dat x => exact ⟨h1, fun n e => by cases e⟩
        | arg x => exact ⟨h1, fun n e => by cases e⟩
      refine ⟨by simp only [ads, hk.1, a], fun k' hk' => ?_⟩
      rcases List.mem_cons.mp hk' with e | e
      · subst e; exact hk.2
      · exact b k' e
    · cases h
theorem apds_ok {He Hd : Hp} : ∀ {ks : List Knd} {ys : List V} {ds : List PyData}, Paired (KOk K (port He Hd) Hd ps) ys ks → apds ks = some ds → DpAll K Hd ys ds
  | _, _, _, .nil, e => by simp only [apds, Option.some.injEq] at e; subst e; exact .nil
  | k :: r, _, _, .cons h t, e => by
    simp only [apds] at e
    split at e
    · rename_i d es h1 h2
      cases e
      refine .cons ?_ (apds_ok t h2)
      cases k with
      | own n => cases h1
      | v x => exact dp_mono (port_sub He Hd) (pd_ok (k := .v x) h h1)
      | dat x => cases h1; exact dp_mono (port_sub He Hd) h
      | arg x => cases h1; exact h
    · cases e
theorem ee_lstA (h : EA K ar m ow ks ow1) (hp : apds ks = some ds) (hs : ks.length ≤ 1000 := by exact Nat.le_of_ble_eq_true rfl) : EE K (tLst ar) m ow (.arg (.list ds)) ow1 := fun He Fr ts σ xs H Q S q =>
  h He Fr ts σ xs H _ S fun ys H1 hl ⟨Hd, ps, S1⟩ => by
    obtain ⟨h1, S2⟩ := S1.args hl
    refine ⟨by rw [hl, sizeLine_eq]; omega, fun p hp' => q _ _ ?_⟩
    have e : Same H1 (upd H1 p (.lst ys)) := fun a o q => by rw [upd_ne (ne_of_none q hp')]; exact q
    have c : ∀ a o, (if a = p then some (HO.lst ys) else none) = some o → a = p ∧ o = .lst ys := fun a o q => by
      split at q
      · cases q; exact ⟨by assumption, rfl⟩
      · cases q
    obtain ⟨Hd', S', e1, e2, _⟩ := S2.ext (Hf := fun a => if a = p then some (.lst ys) else none) e (fun a o q => (by obtain ⟨rfl, rfl⟩ := c a o q; exact upd_same)) fun a o q => .inr (by obtain ⟨rfl, rfl⟩ := c a o q; exact hp')
    exact ⟨Hd', ps, S'.push (k := .arg (.list ds)) (.lst (.inl (.inl ((of_port (e2 p _ (if_pos rfl))).1))) (dpa_mono e1 (apds_ok h1 hp)))⟩
end
end LD

/-! xs[::-1]; operators with one of several outcomes on the left. -/
namespace LD
open PySem PySem.Spec PyProof.Rows L2
section
variable {X : Cx} {K : PySem.W.Frag} {m : Env'} {ow ow1 : List OC} {k : Knd} {te ta tb : TE} {fl : Bool} {ds : List PyData} {r : R2} {Xo Y : Knd → List OC → Prop}
theorem pe_revLK {e : Expr} {k : Nat} {p1 p2 p3 pos : Pos} (hK : X.K = K) (he : PE X e te) : PE X (.Subscript e (.Slice none none (some (.UnaryOp .USub (.Constant (.int 1) k p1) p2)) p3) pos) (tRevL K te) := hK ▸ pe_revL he
theorem ee_revL (b : Bool) (h : EE K te m ow k ow1) (hs : seqOf ow1 k = some (fl, ds)) (hf : (fl || imms ds) = true) : EE K (tRevL K te) m ow (newK b ow1 ds.reverse) (newO b ow1 ds.reverse) := fun He Fr ts σ xs H Q S q =>
  h He Fr ts σ xs H _ S fun x H1 ⟨Hd, ps, S1⟩ => by
    obtain ⟨p, vs, rfl, h1, h2⟩ := seq_ok S1 S1.pop.1 hs
    exact ⟨p, vs, rfl, h1, fun r hr => q _ _ (S1.pop.2.made b hr (dpa_rev (prt h2 hf)))⟩
theorem eb_andO {t u : TT} {a b : Bool} (ha : EB K t m ow a ow1) (hb : a = true → EB K u m ow1 b ow1) : EB K (tAnd t u) m ow (a && b) ow1 := fun He Fr ts σ xs H Q S q => by
  refine ha He Fr ts σ xs H _ S fun H1 S1 => ?_
  cases a with
  | false => exact iteF (q H1 S1)
  | true => exact iteT (hb rfl He Fr ts σ xs H1 _ S1 fun H2 S2 => q H2 S2)
theorem ex_opL (h : EX K ta m ow Xo) (hY : ∀ k ow', Xo k ow' → ∃ k2 ow2 k3 ow3, EE K tb m ow' k2 ow2 ∧ RR K r m ow2 k k2 k3 ow3 ∧ Y k3 ow3) : EX K (tOp r ta tb) m ow Y := fun He Fr ts σ xs H Q S q =>
  h He Fr ts σ xs H _ S fun k ow' x H1 hX S1 => by
    obtain ⟨k2, ow2, k3, ow3, h2, h3, h4⟩ := hY k ow' hX
    exact h2 He Fr _ σ _ H1 _ S1 fun y H2 S2 => h3 He Fr ts σ x y xs H2 _ S2 fun z H3 S3 => q k3 ow3 z H3 h4 S3
end
end LD
/-! ### for k in d, d one's own -/
namespace LD
open PySem PySem.Spec PyProof.Rows L2
def lockP (P : Post) (n : Nat) (od : Obj) (us : List (Key × V)) (kvs : List (Key × PyData)) : Post where
  nx := fun m ow => ow[n]? = some (.ldic od us kvs) ∧ P.nx m (ow.set n (.dic kvs))
  rt := fun k ow => ow[n]? = some (.ldic od us kvs) ∧ P.rt k (ow.set n (.dic kvs))
  bk := fun m ow => ow[n]? = some (.ldic od us kvs) ∧ P.bk m (ow.set n (.dic kvs))
  ct := fun m ow => ow[n]? = some (.ldic od us kvs) ∧ P.ct m (ow.set n (.dic kvs))
  n0 := max P.n0 (n + 1)
section
variable {K : PySem.W.Frag} {m : Env'} {ow ow1 : List OC} {kvs : List (Key × PyData)} {P : Post} {tl : TE} {tb : TS} {j n : Nat}
theorem ss_lock {t : TS} (n : Nat) (hn : ow[n]? = some (.dic kvs)) (h : ∀ od us, SS K t m (ow.set n (.ldic od us kvs)) (lockP P n od us kvs)) : SS K (tLock t) m ow P := fun He Fr ts σ xs H D ⟨Hd, ps, S⟩ F => by
  have hl0 : n < ps.length := by rw [S.pl]; exact (List.getElem?_eq_some_iff.mp hn).1
  have hp : ps[n]? = some ps[n] := List.getElem?_eq_getElem hl0
  obtain ⟨e0, us, e1, e2⟩ := S.ok n _ _ hp hn
  refine ⟨ps[n], .dK us, e1, trivial, fun od => ?_⟩
  generalize ps[n] = d at hp e0 e1
  have S1 := (S.writeC (o := .frz od (.dK us)) (c1 := .ldic od us kvs) hp hn e0 ⟨e0, upd_same, e2⟩).push (x := .ref d) (k := .own n) ⟨_, hp, rfl⟩
  have back : ∀ {m' : Env'} {ow' : List OC} {σ' : L2.St} {H' : Hp}, ow'[n]? = some (.ldic od us kvs) → SA K He Fr m' ow' (.own n :: ts) σ' (.ref d :: xs) H' → H' d = some (.frz od (.dK us)) ∧ SA K He Fr m' (ow'.set n (.dic kvs)) ts σ' xs (upd H' d (.dK us)) := fun hc ⟨Hd2, ps2, S2⟩ => by
    obtain ⟨⟨p', hp', ex⟩, S4⟩ := S2.pop
    cases ex
    obtain ⟨g0, g1, g2⟩ := S4.ok n _ _ hp' hc
    exact ⟨g1, Hd2, ps2, S4.writeC (o := .dK us) (c1 := .dic kvs) hp' hc g0 ⟨g0, us, upd_same, g2⟩⟩
  refine h od us He Fr _ σ _ _ _ ⟨Hd, ps, S1⟩ ⟨fun m' ow' σ' H' q S2 => ?_, fun k m' ow' σ' x H' q S2 => ?_, fun m' ow' σ' H' q S2 => ?_, fun m' ow' σ' H' q S2 => ?_, fun k hk => ?_⟩
  · obtain ⟨a, b⟩ := back q.1 S2
    exact ⟨a, F.nx _ _ _ _ q.2 b⟩
  · obtain ⟨Hd2, ps2, S2⟩ := S2
    obtain ⟨hx, S3⟩ := S2.pop
    obtain ⟨⟨p', hp', ex⟩, S4⟩ := S3.pop
    cases ex
    obtain ⟨g0, g1, g2⟩ := S4.ok n _ _ hp' q.1
    exact ⟨g1, F.rt _ _ _ _ _ _ q.2 ⟨Hd2, ps2, (S4.writeC (o := .dK us) (c1 := .dic kvs) hp' q.1 g0 ⟨g0, us, upd_same, g2⟩).push hx⟩⟩
  · obtain ⟨a, b⟩ := back q.1 S2
    exact ⟨a, F.bk _ _ _ _ q.2 b⟩
  · obtain ⟨a, b⟩ := back q.1 S2
    exact ⟨a, F.ct _ _ _ _ q.2 b⟩
  · rcases List.mem_cons.mp hk with e | e
    · subst e
      exact Nat.lt_of_lt_of_le (Nat.lt_succ_self n) (Nat.le_max_right _ _)
    · have := F.tn k e
      cases k with
      | own i => exact Nat.lt_of_lt_of_le this (Nat.le_max_left _ _)
      | v _ => trivial
      | arg _ => trivial
      | dat _ => trivial
theorem ss_forD {od : Obj} {us : List (Key × V)} (I : Nat → Env' → List OC → Prop) (h : EE K tl m ow (.own n) ow1) (h0 : I 0 m ow1) (hs : ∀ i m ow, i ≤ kvs.length → I i m ow → ow[n]? = some (.ldic od us kvs))
    (ht : ∀ i a m ow, (keysD kvs)[i]? = some a → I i m ow → SS K tb (m.set j (some (.v (kV a)))) ow { nx := I (i + 1), rt := P.rt, bk := P.nx, ct := I (i + 1), n0 := ow1.length }) (he : ∀ m ow, I kvs.length m ow → P.nx m ow) :
    SS K (tFor (iKeys tl) (gName j) tb) m ow P := fun He Fr ts σ xs H D S F =>
  h He Fr ts σ xs H _ S fun x H1 ⟨Hd, ps, S1⟩ => by
    obtain ⟨p, hp, rfl⟩ := S1.pop.1
    obtain ⟨_, g1, g2⟩ := S1.ok n p _ hp (hs 0 _ _ (Nat.zero_le _) h0)
    have hkl : us.length = kvs.length := kp_len g2
    have hke := kp_keys g2
    refine ⟨p, od, rfl, .inl ⟨us, g1, fun i k σ H => k = kvs.length - i ∧ i ≤ kvs.length ∧ ∃ m ow, I i m ow ∧ SA K He Fr m ow (.own n :: ts) σ (.ref p :: xs) H, ⟨_, rfl, Nat.zero_le _, _, _, h0, _, _, S1⟩, ?_⟩⟩
    rintro i k σ2 H2 ⟨rfl, hi, m2, ow2, I2, Hd2, ps2, S2⟩
    obtain ⟨p2, hp2, e⟩ := S2.pop.1
    cases e
    obtain ⟨_, g3, _⟩ := S2.ok n p _ hp2 (hs i _ _ hi I2)
    by_cases hlt : i < kvs.length
    · have ha : (keysD kvs)[i]? = some ((keysD kvs)[i]'(by rw [keysD, List.length_map]; exact hlt)) := List.getElem?_eq_getElem _
      refine .inr ⟨⟨g3, by omega⟩, _, fun σ' H' h => ⟨kvs.length - (i + 1), by omega, rfl, hlt, h⟩, fun x H' hy => ?_⟩
      obtain ⟨rfl, k', v', hkv, rfl⟩ := hy
      have z : (us.map (·.1))[i]? = some k' := by rw [List.getElem?_map, hkv]; rfl
      rw [hke] at z
      refine ht i k' m2 ow2 z I2 He Fr (.own n :: ts) _ (.ref p :: xs) _ _ ⟨Hd2, ps2, S2.store (x := kV k') (k := .v (kV k')) rfl j⟩ ⟨fun m ow σ H q S => ⟨m, ow, q, S⟩, fun k' m ow σ x H q S => F.rt _ _ _ _ _ _ q (S.drop2 rfl), fun m ow σ H q S => F.nx _ _ _ _ q S.drop, fun m ow σ H q S => ⟨m, ow, q, S⟩, S1.inT⟩
    · have e : i = kvs.length := by omega
      subst e
      exact .inl ⟨⟨g3, by omega⟩, F.nx _ _ _ _ (he _ _ I2) ⟨Hd2, ps2, S2.pop.2⟩⟩
end
end LD
/-! ### a, b = a tuple -/
namespace LD
open PySem PySem.Spec PyProof.Rows L2
section
variable {K : PySem.W.Frag} {He Hd : Hp} {ps : List Addr} {m : Env'} {ow ow1 : List OC} {k : Knd} {te : TE} {ds : List PyData} {P : Post} {b : Bool}
theorem prd_ek : ∀ {vs : List V} {ds : List PyData}, DpAll K (reg b He Hd) vs ds → Paired (KOk K (port He Hd) Hd ps) vs (ds.map (ek b))
  | _, _, .nil => .nil
  | _, _, .cons h t => .cons (ek_ok h) (prd_ek t)
theorem ss_unT (is : List Nat) (h : EE K te m ow k ow1) (hs : tupOf k = some (b, ds)) (hl : is.length = ds.length) (q : P.nx (setAll m is (ds.map (ek b))) ow1) : SS K (tAsg te (gTup K is.length (gNs is))) m ow P := fun He Fr ts σ xs H D S F =>
  h He Fr ts σ xs H _ S fun x H1 ⟨Hd, ps, S1⟩ => by
    obtain ⟨p, vs, rfl, h1, h2⟩ := tup_ok S1 S1.pop.1 hs
    refine ⟨p, vs, rfl, h1, by rw [dpa_len h2, hl], ?_⟩
    exact store_all is (by rw [List.length_map]; exact hl) (prd_ek h2) S1.pop.2 fun σ' S' => F.nx _ _ _ _ q ⟨Hd, ps, S'⟩
end
theorem put_new {kvs : List (Key × PyData)} {key : Key} {d : PyData} (h : ((kvs ++ [(key, d)]).map (·.1)).Nodup) : putD kvs key d = kvs ++ [(key, d)] := merge_new [(key, d)] kvs h
end LD
namespace LD
open PySem PySem.Spec PyProof.Rows L2
theorem pt_truthK {X : Cx} {K : PySem.W.Frag} {a : Expr} {ta : TE} (hK : X.K = K) (ha : PE X a ta) (he : ∀ whole, isTrue a X.env whole = (do let v ← whole; standAt a.pos; holding [v] (truthy v))) :
    PT X a (fun σ H Q => ta σ H fun x H' => ∃ k, TruV K x H' k ∧ Q k H') := hK ▸ pt_truth ha he
end LD
/-! ### a def that is given two lists of ints of one's own, and may give the second one back -/
namespace LD
open PySem PySem.Spec PyProof.Rows L2
def spO {α : Type} (inp lst : α → List Int) (pre : α → Prop) (R : α → List Int → List Int → Prop) (_K : PySem.W.Frag) : Sp := fun vs H Q _ => ∃ a p p2, vs = [V.ref p, .ref p2] ∧ p ≠ p2 ∧ H p = some (.lst ((inp a).map V.int)) ∧ H p2 = some (.lst ((lst a).map V.int)) ∧ pre a ∧
  ∀ d ns r H', R a d ns → Same (hid (hid H p) p2) H' → H' p = some (.lst (ns.map V.int)) → H' r = some (.lst (d.map V.int)) → (r = p2 ∨ H r = none) → r ≠ p → Q (.ref r) H'
def PretO (R : List Int → List Int → Prop) : Post := { nx := fun _ _ => False, rt := fun k ow => ∃ d ns n, R d ns ∧ k = .own n ∧ n ≠ 0 ∧ ow[n]? = some (.lst (d.map PyData.int)) ∧ ow[0]? = some (.lst (ns.map PyData.int)), n0 := 1 }
def mst2 (N : List Str) : Env' := [some (.own 0), some (.own 1)] ++ List.replicate (N.length - 2) none
section
variable {K : PySem.W.Frag} {m : Env'} {ow : List OC} {α : Type} {inp lst : α → List Int} {pre : α → Prop} {R : α → List Int → List Int → Prop} {ar : TA} {E : XK}
theorem hid_sub2 (H : Hp) (p q : Addr) : Same (hid (hid H p) q) H := (hid_sub _ _).trans (hid_sub _ _)
theorem ex_callO (a : α) (n : Nat) (h : EA K ar m ow [.own n, .own ow.length] (ow ++ [.lst ((lst a).map PyData.int)])) (hn : ow[n]? = some (.lst ((inp a).map PyData.int))) (hp : pre a) :
    EX K (tCall (spO inp lst pre R K) [] E ar) m ow (fun k ow' => ∃ d ns, R a d ns ∧ k = .own ow.length ∧ ow' = ow.set n (.lst (ns.map PyData.int)) ++ [.lst (d.map PyData.int)]) := fun He Fr ts σ xs H Q S q =>
  have inS : ∀ k ∈ m, okS ow.length k := by obtain ⟨Hd, ps, S⟩ := S; exact S.inS
  have inT : ∀ k ∈ ts, okN ow.length k := by obtain ⟨Hd, ps, S⟩ := S; exact S.inT
  have inO : ∀ c ∈ ow, okC ow.length c := by obtain ⟨Hd, ps, S⟩ := S; exact S.inO
  h He Fr ts σ xs H _ S fun ys H1 hl ⟨Hd, ps, S1⟩ => by
    obtain ⟨h1, S2⟩ := S1.args hl
    rw [List.append_nil]
    have hnl : n < ow.length := (List.getElem?_eq_some_iff.mp hn).1
    cases h1 with
    | cons hy ht =>
    cases ht with
    | cons hz hnil =>
    cases hnil
    obtain ⟨p, vs, e1, rfl, e2, e3, e4⟩ := S2.own hy (ds := (inp a).map PyData.int) (by rw [List.getElem?_append_left hnl]; exact hn)
    obtain ⟨p2, vs2, f1, rfl, f2, f3, f4⟩ := S2.own hz (ds := (lst a).map PyData.int) (by rw [List.getElem?_append_right (Nat.le_refl _), Nat.sub_self]; rfl)
    rw [of_dpa_ints e4] at e3
    rw [of_dpa_ints f4] at f3
    have ne : p2 ≠ p := S2.apart e1 f1 (by omega)
    refine ⟨a, p, p2, rfl, fun z => ne z.symm, e3, f3, hp, fun d ns r H' hR e hq hr hr2 hrp => q _ _ _ _ ⟨d, ns, hR, rfl, rfl⟩ ?_⟩
    have S3 := S2.forget inS inT inO
    have keep : ∀ c o, c ≠ p → c ≠ p2 → H1 c = some o → H' c = some o := fun c o c1 c2 hc => e _ _ (by rw [hid_ne c2, hid_ne c1]; exact hc)
    have hFp : Fr p = none := S2.fp p (List.mem_of_getElem? e1)
    have hFp2 : Fr p2 = none := S2.fp p2 (List.mem_of_getElem? f1)
    have hpt : (ps.take ow.length)[n]? = some p := by rw [List.getElem?_take_of_lt hnl]; exact e1
    have np2 : p2 ∉ ps.take ow.length := fun z => by
      obtain ⟨j, hj⟩ := List.mem_iff_getElem?.mp z
      have hj2 : j < ow.length := by have := (List.getElem?_eq_some_iff.mp hj).1; rw [List.length_take] at this; omega
      rw [List.getElem?_take_of_lt hj2] at hj
      exact S2.apart hj f1 (by omega) rfl
    have ek : kids (ow.set n (.lst (ns.map PyData.int))) = kids ow := kids_set hn rfl
    have kf : kids (ow ++ [OC.lst ((lst a).map PyData.int)]) = kids ow := by rw [kids_app, kids_one]; exact List.append_nil _
    have S5 : SB K He Fr Hd (ps.take ow.length) m (ow.set n (.lst (ns.map PyData.int))) ts σ xs H' := by
      refine ⟨S3.eh, fun c o hc => ?_, fun c o hc => ?_, S3.fd, by rw [ek]; exact S3.fk, by rw [ek]; exact S3.nk, by rw [List.length_set]; exact S3.pl, fun j c o hj hc => ?_, S3.sv, S3.tv⟩
      · exact keep c o (fun z => by rw [z, e2] at hc; cases hc) (fun z => by rw [z, f2] at hc; cases hc) (S3.dh _ _ hc)
      · exact keep c o (fun z => by rw [z, hFp] at hc; cases hc) (fun z => by rw [z, hFp2] at hc; cases hc) (S3.fh _ _ hc)
      · by_cases z : n = j
        · subst z
          rw [hpt] at hj
          cases hj
          rw [List.getElem?_set_self hnl] at hc
          cases hc
          exact ⟨e2, _, hq, dpa_ints ns⟩
        · rw [List.getElem?_set_ne z] at hc
          have c1 := S3.apart hpt hj z
          have c2 : c ≠ p2 := fun w => np2 (w ▸ List.mem_of_getElem? hj)
          have q1 := S3.ok j c o hj hc
          cases o with
          | dead => obtain ⟨u, q1⟩ := q1; exact ⟨u, keep _ _ c1 c2 q1⟩
          | lst ds1 => exact ⟨q1.1, q1.2.imp fun us h => ⟨keep _ _ c1 c2 h.1, h.2⟩⟩
          | dic ds1 => exact ⟨q1.1, q1.2.imp fun us h => ⟨keep _ _ c1 c2 h.1, h.2⟩⟩
          | ldic od us ds1 => exact ⟨q1.1, keep _ _ c1 c2 q1.2.1, q1.2.2⟩
          | gen φ ks => exact ⟨q1.1, q1.2.imp fun us h => ⟨keep _ _ c1 c2 h.1, h.2⟩⟩
          | tpl ks => exact q1.imp fun us h => ⟨keep _ _ c1 c2 h.1, h.2⟩
          | jl n => exact ⟨q1.1, q1.2.imp fun us h => ⟨keep _ _ c1 c2 h.1, h.2⟩⟩
          | tr qs lss => exact ⟨q1.1, keep _ _ c1 c2 q1.2.1, q1.2.2.1, prd_mm q1.2.2.2 fun x hx k h => h.imp fun vs h => ⟨keep _ _ (S2.kidNe (List.mem_of_getElem? e1) (by rw [kf]; exact kids_mem hc hx)) (S2.kidNe (List.mem_of_getElem? f1) (by rw [kf]; exact kids_mem hc hx)) h.1, h.2⟩⟩
    have rD : Hd r = none := by
      rcases hr2 with z | z
      · rw [z]; exact f2
      · cases w : Hd r with
        | none => rfl
        | some o => rw [S2.dh _ _ w] at z; cases z
    have rF : Fr r = none := by
      rcases hr2 with z | z
      · rw [z]; exact hFp2
      · cases w : Fr r with
        | none => rfl
        | some o => rw [S2.fh _ _ w] at z; cases z
    have rP : r ∉ ps.take ow.length ++ kids (ow.set n (.lst (ns.map PyData.int))) := by
      rw [ek]
      rcases hr2 with z | z
      · rw [z]; exact fun w => (List.mem_append.mp w).elim np2 fun w => S2.kidNe (List.mem_of_getElem? f1) (by rw [kf]; exact w) rfl
      · intro w
        obtain ⟨o, w2⟩ := S3.inH w
        rw [z] at w2; cases w2
    have S6 := S5.pushOwn hr rD rF rP (dpa_ints d)
    rw [List.length_set] at S6
    exact ⟨_, _, S6⟩
theorem fin_O {t : TS} {N : List Str} {vs : List V} {Q : VK} {H : Hp} (h : spO inp lst pre R K vs H Q E) (hS : ∀ a, pre a → SS K t (mst2 N) [.lst ((inp a).map PyData.int), .lst ((lst a).map PyData.int)] (PretO (R a))) : t { nx := fun _ H' => Q .non H', rt := Q } (start N vs) H := by
  obtain ⟨a, p, p2, rfl, hne, hH, hH2, hp, q⟩ := h
  have S0 : SB K (hid (hid H p) p2) (fun _ => none) (hid (hid H p) p2) [p, p2] (mst2 N) [.lst ((inp a).map PyData.int), .lst ((lst a).map PyData.int)] [] (start N [.ref p, .ref p2]) [] H := by
    refine ⟨Same.refl _, hid_sub2 H p p2, fun _ _ z => (by cases z), fun _ _ z => (by cases z), fun _ _ => rfl, by simp [hne, kids, kidC], rfl, fun n r c h1 h2 => ?_, ?_, .nil⟩
    · match n, h1, h2 with
      | 0, h1, h2 =>
        cases h1
        cases h2
        exact ⟨by rw [hid_ne hne]; exact hid_at, _, hH, dpa_ints _⟩
      | 1, h1, h2 =>
        cases h1
        cases h2
        exact ⟨hid_at, _, hH2, dpa_ints _⟩
      | _ + 2, h1, _ => cases h1
    · unfold L2.start mst2
      exact prd_app (.cons ⟨_, rfl, p, rfl, rfl⟩ (.cons ⟨_, rfl, p2, rfl, rfl⟩ .nil)) (repl_prd _)
  have S1 : SA K (hid (hid H p) p2) (fun _ => none) (mst2 N) [.lst ((inp a).map PyData.int), .lst ((lst a).map PyData.int)] [.own 0] (start N [.ref p, .ref p2]) [.ref p] H := ⟨_, _, S0.push ⟨p, rfl, rfl⟩⟩
  refine hS a hp _ _ _ _ _ H _ S1 ⟨fun m ow σ H' e _ => e.elim, fun k m ow σ x H' hr ⟨Hd, ps, S⟩ => ?_, fun _ _ _ _ z => z.elim, fun _ _ _ _ z => z.elim, fun k hk => by rw [List.mem_singleton.mp hk]; exact Nat.zero_lt_one⟩
  obtain ⟨d, ns, n, hR, rfl, hn0, hnd, h0⟩ := hr
  obtain ⟨hk, S'⟩ := S.pop
  obtain ⟨r0, vs, e1, e2, e3, e4, e5⟩ := S'.own S'.pop.1 h0
  cases e2
  rw [of_dpa_ints e5] at e4
  obtain ⟨r, us, g1, rfl, g2, g3, g4⟩ := S'.own hk hnd
  rw [of_dpa_ints g4] at g3
  have hrp : r ≠ p := S'.apart e1 g1 (fun z => hn0 z.symm)
  refine q d ns r H' hR (S.eh.trans S.dh) e4 g3 ?_ hrp
  by_cases z : r = p2
  · exact .inl z
  · refine .inr ?_
    cases w : H r with
    | none => rfl
    | some u =>
      have := S.eh r u (by rw [hid_ne z, hid_ne hrp]; exact w)
      rw [g2] at this; cases this
end
section
variable {P : Program} {w : World} {K : PySem.W.Frag} {mg : Str → Option Value} {base : Heap} {x qual : Str} {st : Stmt} {f : Addr} {fd : FuncData} {N ps : List Str} {k : Nat}
theorem ok_O {α : Type} {inp lst : α → List Int} {pre : α → Prop} {R : α → List Int → List Int → Prop} (F : Fun K x qual st f fd) (S : FnScope N ps (defScope st)) (hl : ps.length = 2)
    (body : ∀ (cdv : Value) (A : Around) (outer : List Env) (s : Shared) (H : Hp) (E : XK), Rm k (A.deeper (envOfC qual (defScope st) s.heap.objs.size f cdv)) →
      ∃ t, PSs (cxOf CX0 P w K mg base N qual (defScope st) f cdv A outer s H E).nox (defBody st) t ∧ ∀ a, pre a → SS K t (mst2 N) [.lst ((inp a).map PyData.int), .lst ((lst a).map PyData.int)] (PretO (R a))) : FnG P w K mg base CX0 (k + 1) f fd ps (spO inp lst pre R K) := by
  refine fnG_of F S (fun vs H Q E h => ?_) fun cdv A outer s H vs Q E hr h => ?_
  · obtain ⟨a, p, p2, rfl, _⟩ := h
    rw [hl]; rfl
  · obtain ⟨t, h1, h2⟩ := body cdv A outer s H E hr
    exact ⟨t, h1.nox, fin_O h h2⟩
end
end LD
/-! ### xs[i], ys[j] = e, f: whole numbers -/
namespace LD
open PySem PySem.Spec PyProof.Rows L2
theorem ss_item2 {K : PySem.W.Frag} {m : Env'} {ow ow1 ow2 : List OC} {P : Post} {ar : TA} {to1 ti1 to2 ti2 : TE} {x y z1 z2 : Int} {n1 n2 j1 j2 : Nat} {ds1 ds2 : List PyData} (h : EA K ar m ow [.v (.int x), .v (.int y)] ow1)
    (ho1 : EE K to1 m ow1 (.own n1) ow1) (hi1 : EE K ti1 m ow1 (.v (.int z1)) ow1) (hn1 : ow1[n1]? = some (.lst ds1)) (hj1 : ixN ds1.length z1 = some j1) (e2 : ow1.set n1 (.lst (ds1.set j1 (.int x))) = ow2)
    (ho2 : EE K to2 m ow2 (.own n2) ow2) (hi2 : EE K ti2 m ow2 (.v (.int z2)) ow2) (hn2 : ow2[n2]? = some (.lst ds2)) (hj2 : ixN ds2.length z2 = some j2) (q : P.nx m (ow2.set n2 (.lst (ds2.set j2 (.int y))))) :
    SS K (tAsg (tTup ar) (gTup K 2 (gCons (gSub to1 ti1 rSetL) (gCons (gSub to2 ti2 rSetL) gNil)))) m ow P := fun He Fr ts σ xs H D S F =>
  h He Fr ts σ xs H _ S fun ys H1 hyl ⟨Hd, ps, S0⟩ => by
    subst e2
    obtain ⟨hp, S1⟩ := S0.args hyl
    cases hp with
    | cons hx ht =>
    cases ht with
    | cons hy hnil =>
    cases hnil
    cases (show _ = V.int x from hx)
    cases (show _ = V.int y from hy)
    refine ⟨by show 2 ≤ sizeLine; rw [sizeLine_eq]; decide, fun p hpn => ⟨p, [.int x, .int y], rfl, .inl (.inl upd_same), rfl, ?_⟩⟩
    have e : Same H1 (upd H1 p (.tup [.int x, .int y])) := fun a o q => by rw [upd_ne (ne_of_none q hpn)]; exact q
    refine ⟨_, _, rfl, ho1 He Fr ts σ xs _ _ ⟨_, _, S1.grow e⟩ fun o H2 S3 => hi1 He Fr _ σ _ H2 _ S3 fun w H3 ⟨Hd3, ps3, S4⟩ => ?_⟩
    cases (show w = V.int z1 from S4.pop.1)
    obtain ⟨p1, vs1, a1, rfl, _, a2, a3⟩ := S4.pop.2.own S4.pop.2.pop.1 hn1
    refine ⟨p1, vs1, z1, j1, rfl, rfl, a2, by rw [dpa_len a3]; exact hj1, ?_⟩
    have S5 := S4.pop.2.pop.2.write a1 hn1 (dpa_set (.int x) j1 a3)
    refine ⟨_, _, rfl, ho2 He Fr ts σ xs _ _ ⟨_, _, S5⟩ fun o2 H4 S6 => hi2 He Fr _ σ _ H4 _ S6 fun w2 H5 ⟨Hd5, ps5, S7⟩ => ?_⟩
    cases (show w2 = V.int z2 from S7.pop.1)
    obtain ⟨p2, vs2, b1, rfl, _, b2, b3⟩ := S7.pop.2.own S7.pop.2.pop.1 hn2
    exact ⟨p2, vs2, z2, j2, rfl, rfl, b2, by rw [dpa_len b3]; exact hj2, rfl, F.nx _ _ _ _ q ⟨Hd5, ps5, S7.pop.2.pop.2.write b1 hn2 (dpa_set (.int y) j2 b3)⟩⟩
end LD
namespace LD
open PySem PySem.Spec PyProof.Rows L2
theorem call_lnK {X : Cx} {K : PySem.W.Frag} (hK : X.K = K) : CallR X (.builtin "len") (rLn K) := hK ▸ call_ln
end LD
/-! ### dicts that are compared by !=, dicts written out -/
namespace LD
open PySem PySem.Spec PyProof.Rows L2
section
variable {K : PySem.W.Frag} {m : Env'} {ow : List OC} {kvs ls : List (Key × PyData)}
theorem rr_neDic {n n2 : Nat} (h1 : ow[n]? = some (.dic kvs)) (h2 : ow[n2]? = some (.dic ls)) (hl : kvs.length = ls.length) (hp : ∀ kv ∈ kvs, valD ls kv.1 = some kv.2 ∧ flD2 kv.2 = true) : RR K rNeDA m ow (.own n) (.own n2) (.v (.bl false)) ow := by
  rintro He Fr ts σ x y xs H Q ⟨Hd, ps, S⟩ q
  obtain ⟨p2, us, _, rfl, _, e2, e3⟩ := S.ownD S.pop.1 h2
  obtain ⟨p1, vs, _, rfl, _, e5, e6⟩ := S.pop.2.ownD S.pop.2.pop.1 h1
  refine ⟨p1, p2, vs, us, rfl, rfl, e5, e2, by rw [kp_len e6, kp_len e3, hl], fun v hv => ?_, q _ H ⟨Hd, ps, S.pop.2.pop.2.push rfl⟩⟩
  obtain ⟨i, hi⟩ := List.mem_iff_getElem?.mp hv
  have hi2 := (List.getElem?_eq_some_iff.mp hi).1
  have hk : kvs[i]? = some (kvs[i]'(by rw [← kp_len e6]; exact hi2)) := List.getElem?_eq_getElem _
  obtain ⟨v', g1, g2, g3⟩ := prd_get e6 hk
  rw [hi] at g1
  cases g1
  obtain ⟨f1, f2⟩ := hp _ (List.mem_of_getElem? hk)
  obtain ⟨z, z1, z2⟩ := kp_get e3 f1
  obtain ⟨w1, w2⟩ := flat_dp g3 z2 f2
  exact ⟨by rw [g2, z1, w1], w2⟩
end
end LD

/-! Dict displays of any pairs. -/
namespace LD
open PySem PySem.Spec PyProof.Rows L2
theorem hid_upd2 (H : Hp) (p : Addr) (o : HO) : upd (hid H p) p o = upd H p o := by
  funext a
  unfold upd hid
  by_cases e : a = p <;> simp [e]
def EPs (K : PySem.W.Frag) (m : Env') (ow : List OC) : List (TE × TE) → List (Key × PyData) → Prop
  | [], [] => True
  | (tk, tv) :: r, (key, d) :: kvs => EE K tk m ow (.v (kV key)) ow ∧ (∃ k, pd k = some d ∧ EE K tv m ow k ow) ∧ EPs K m ow r kvs
  | _, _ => False
section
variable {K : PySem.W.Frag} {m : Env'} {ow : List OC}
theorem eps_nil : EPs K m ow [] [] := trivial
theorem eps_cons {tk tv : TE} {r : List (TE × TE)} {key : Key} {d : PyData} {k : Knd} {kvs : List (Key × PyData)} (h1 : EE K tk m ow (.v (kV key)) ow) (h2 : EE K tv m ow k ow) (hk : pd k = some d) (h3 : EPs K m ow r kvs) : EPs K m ow ((tk, tv) :: r) ((key, d) :: kvs) := ⟨h1, ⟨k, hk, h2⟩, h3⟩
theorem eps_run : ∀ (trs : List (TE × TE)) (kvs : List (Key × PyData)), EPs K m ow trs kvs → ∀ (He Fr : Hp) (ts : List Knd) (σ : L2.St) (xs : List V) (H : Hp) (Q : List (V × V) → Hp → Prop), SA K He Fr m ow ts σ xs H →
    (∀ (us : List (Key × V)) H', us.map (·.1) = kvs.map (·.1) → SA K He Fr m ow ((kvs.map fun kv => Knd.dat kv.2).reverseAux ts) σ ((us.map (·.2)).reverseAux xs) H' → Q (us.map fun kv => (kV kv.1, kv.2)) H') → tPairs trs σ H Q
  | [], [], _, He, Fr, ts, σ, xs, H, Q, S, q => q [] H rfl S
  | (tk, tv) :: r, (key, d) :: kvs, h, He, Fr, ts, σ, xs, H, Q, S, q => by
    obtain ⟨h1, ⟨k, hk, h2⟩, h3⟩ := h
    refine h1 He Fr ts σ xs H _ S fun x H1 S1 => h2 He Fr ts σ xs H1 _ S1.drop fun y H2 ⟨Hd, ps, S2⟩ => ?_
    have ex := S1.top
    obtain ⟨p1, p2⟩ := S2.pop
    refine eps_run r kvs h3 He Fr (.dat d :: ts) σ (y :: xs) H2 _ ⟨Hd, ps, p2.push (pd_ok p1 hk)⟩ fun us H' e S3 => ?_
    subst ex
    exact q ((key, y) :: us) H' (by rw [List.map_cons, List.map_cons, e]) S3
  | [], _ :: _, h, _, _, _, _, _, _, _, _, _ => h.elim
  | (_, _) :: _, [], h, _, _, _, _, _, _, _, _, _ => h.elim
/-- {k: e, ..} -/
theorem ee_disp {trs : List (TE × TE)} (kvs : List (Key × PyData)) (h : EPs K m ow trs kvs) (hz : kvs.length ≤ 15) : EE K (tDisp trs) m ow (.own ow.length) (ow ++ [.dic (mergeD [] kvs)]) := fun He Fr ts σ xs H Q ⟨Hd, ps, S⟩ q => fun p hp => by
  have nF := S.noF hp
  have S0 : SB K He (upd Fr p (.dK [])) Hd ps m ow ts σ xs (upd H p (.dK [])) := SB.lock (S.grow (H' := hid (upd H p (.dK [])) p) (fun a o e => by
    have : a ≠ p := fun z => by rw [z, hp] at e; cases e
    rw [hid_ne this, upd_ne this]; exact e)) upd_same rfl
  refine eps_run trs kvs h He (upd Fr p (.dK [])) ts σ xs _ _ ⟨_, _, S0⟩ fun us H' e ⟨Hd2, ps2, S2⟩ => ?_
  have hl : (us.map (·.2)).length = (kvs.map fun kv => Knd.dat kv.2).length := by
    have := congrArg List.length e
    simp only [List.length_map] at this ⊢
    exact this
  obtain ⟨hpr, S3⟩ := S2.args hl
  obtain ⟨e1, S4⟩ := S3.unlock nF
  have hd : DpAll K (port He Hd2) (us.map (·.2)) (kvs.map (·.2)) := of_dpa_prd (ps := ps2) (Hd := Hd2) (by rw [List.map_map]; exact hpr)
  refine ⟨e1, us, rfl, by have := congrArg List.length e; simp only [List.length_map] at this; omega, ?_⟩
  have := S4.newD (r := p) hid_at (kp_merge (kp_join e hd) (vs := []) (kvs := []) .nil)
  rw [hid_upd2] at this
  exact q _ _ this
end
end LD

/-! A list of one's own becomes data where it stands. -/
namespace LD
open PySem PySem.Spec PyProof.Rows L2
theorem prd_setR {α β : Type} {F : α → β → Prop} : ∀ {xs : List α} {ys : List β} {i : Nat} {x : α} {y : β}, Paired F xs ys → xs[i]? = some x → F x y → Paired F xs (ys.set i y)
  | _, _, _, _, _, .nil, h, _ => by cases h
  | _, _, 0, _, _, .cons _ t, h, f => by cases h; exact .cons f t
  | _, _, i + 1, _, _, .cons a t, h, f => .cons a (prd_setR (i := i) t h f)
section
variable {K : PySem.W.Frag} {He Fr Hd H : Hp} {ps : List Addr} {m : Env'} {ow : List OC} {ts : List Knd} {σ : L2.St} {xs : List V} {P : Post} {t : TS} {ds : List PyData} {n i : Nat}
theorem SB.give (S : SB K He Fr Hd ps m ow ts σ xs H) (hn : ow[n]? = some (.lst ds)) : ∃ p vs, ps[n]? = some p ∧ SB K He Fr (upd Hd p (.lst vs)) ps m (ow.set n .dead) ts σ xs H ∧ Dp K (port He (upd Hd p (.lst vs))) (.ref p) (.list ds) := by
  have hl : n < ps.length := by rw [S.pl]; exact (List.getElem?_eq_some_iff.mp hn).1
  obtain ⟨p, vs, e1, _, e2, e3, e4⟩ := S.own (n := n) ⟨ps[n], List.getElem?_eq_getElem hl, rfl⟩ hn
  have fp := S.fp p (List.mem_of_getElem? e1)
  have eD : Same Hd (upd Hd p (.lst vs)) := fun a o z => by rw [upd_ne (fun w => by rw [w, e2] at z; cases z)]; exact z
  have hN : He p = none := by
    cases z : He p with
    | none => rfl
    | some o => rw [S.eh _ _ z] at e2; cases e2
  have eP : Same (port He Hd) (port He (upd Hd p (.lst vs))) := port_mono eD
  refine ⟨p, vs, e1, ⟨S.eh.trans eD, fun a o z => ?_, S.fh, fun a o z => ?_, by rw [kids_set (c1 := OC.dead) hn rfl]; exact S.fk, by rw [kids_set (c1 := OC.dead) hn rfl]; exact S.nk, by rw [List.length_set]; exact S.pl, fun j r c hj hc => ?_, L2.Paired.mapP S.sv fun x k h => h.mono0 eP eD, L2.Paired.mapP S.tv fun x k h => h.mono0 eP eD⟩, .lst (.inl (.inl (port_of upd_same (.inr hN)))) (dpa_mono eP e4)⟩
  · by_cases w : a = p
    · subst w; rw [upd_same] at z; cases z; exact e3
    · rw [upd_ne w] at z; exact S.dh _ _ z
  · have w : a ≠ p := fun w => by rw [w, fp] at z; cases z
    rw [upd_ne w]
    exact S.fd _ _ z
  · by_cases w : n = j
    · subst w
      rw [e1] at hj
      cases hj
      rw [List.getElem?_set_self (List.getElem?_eq_some_iff.mp hn).1] at hc
      cases hc
      exact ⟨_, e3⟩
    · rw [List.getElem?_set_ne w] at hc
      have hne := S.apart e1 hj w
      have q1 := S.ok j r c hj hc
      cases c with
      | dead => exact q1
      | lst ds1 => exact ⟨by rw [upd_ne hne]; exact q1.1, q1.2.imp fun us h => ⟨h.1, dpa_mono eP h.2⟩⟩
      | dic ds1 => exact ⟨by rw [upd_ne hne]; exact q1.1, q1.2.imp fun us h => ⟨h.1, kp_mono eP h.2⟩⟩
      | ldic od us ds1 => exact ⟨by rw [upd_ne hne]; exact q1.1, q1.2.1, kp_mono eP q1.2.2⟩
      | gen φ ks => exact ⟨by rw [upd_ne hne]; exact q1.1, q1.2.imp fun us h => ⟨h.1, h.2.1, L2.Paired.mapP h.2.2 fun x k h => h.mono0 eP eD⟩⟩
      | tpl ks => exact q1.imp fun us h => ⟨h.1, L2.Paired.mapP h.2 fun x k h => h.mono0 eP eD⟩
      | jl n => exact ⟨by rw [upd_ne hne]; exact q1.1, q1.2⟩
      | tr qs lss => exact ⟨by rw [upd_ne hne]; exact q1.1, q1.2.1, fun x hx => by rw [upd_ne (S.kidNe (List.mem_of_getElem? e1) (kids_mem hc hx))]; exact q1.2.2.1 x hx, L2.Paired.mapP q1.2.2.2 fun x k h => h.imp fun vs h => ⟨h.1, dpa_mono eP h.2⟩⟩
/-- the n-th object of one's own, in slot i, is data from now on -/
theorem ss_frz (i n : Nat) (h : SS K t (m.set i (some (.dat (.list ds)))) (ow.set n .dead) P) (hm : m[i]? = some (some (.own n)) := by rfl) (hn : ow[n]? = some (.lst ds) := by rfl) : SS K t m ow P := fun He Fr ts σ xs H D ⟨Hd, ps, S⟩ F => by
  obtain ⟨p, vs, e1, S1, hd⟩ := S.give hn
  obtain ⟨y, h1, h2⟩ := prd_get S1.sv hm
  obtain ⟨x, rfl, p', hp', rfl⟩ := (show ∃ x, y = some x ∧ _ from h2)
  rw [e1] at hp'
  cases hp'
  exact h He Fr ts σ xs H D ⟨_, ps, S1.svs (prd_setR S1.sv h1 ⟨_, rfl, hd⟩)⟩ F
end
end LD

/-! Keyword-only parameters; stars; sets of one's own; counts; slices up to None. -/
namespace LD
open PySem PySem.Spec PyProof.Rows L2

/-! ### keywords -/
/-- the parameters behind the positional ones: written (true) or left out (false), by number -/
def gsel (sel : List (Bool × Nat)) {α : Type} (us mv ws : List α) : List α := us ++ sel.filterMap fun p => if p.1 then ws[p.2]? else mv[p.2]?
theorem vals_get : ∀ {vs : List V} {us : List Value} (i : Nat), Vals vs us → (vs[i]? = none ∧ us[i]? = none) ∨ ∃ v u, vs[i]? = some v ∧ us[i]? = some u ∧ RelV v u
  | _, _, _, .nil => .inl ⟨rfl, rfl⟩
  | _, _, 0, .cons r _ => .inr ⟨_, _, rfl, rfl, r⟩
  | _, _, i + 1, .cons _ t => vals_get i t
theorem sel_rel {mz zs : List V} {mv ws : List Value} (h1 : Vals mz mv) (h2 : Vals zs ws) : ∀ sel : List (Bool × Nat), Vals (sel.filterMap fun p => if p.1 then zs[p.2]? else mz[p.2]?) (sel.filterMap fun p => if p.1 then ws[p.2]? else mv[p.2]?)
  | [] => .nil
  | (b, i) :: r => by
    have ih := sel_rel h1 h2 r
    rw [List.filterMap_cons, List.filterMap_cons]
    cases b with
    | true =>
      rcases vals_get i h2 with ⟨a, b⟩ | ⟨v, u, a, b, q⟩
      · simp only [if_true, a, b]; exact ih
      · simp only [if_true, a, b]; exact .cons q ih
    | false =>
      rcases vals_get i h1 with ⟨a, b⟩ | ⟨v, u, a, b, q⟩
      · simp only [Bool.false_eq_true, if_false, a, b]; exact ih
      · simp only [Bool.false_eq_true, if_false, a, b]; exact .cons q ih
theorem gsel_rel (sel : List (Bool × Nat)) {vs mz zs : List V} {us mv ws : List Value} (h : Vals vs us) (h1 : Vals mz mv) (h2 : Vals zs ws) : Vals (gsel sel vs mz zs) (gsel sel us mv ws) := h.append (sel_rel h1 h2 sel)
structure DefK (K : PySem.W.Frag) (mg : Str → Option Value) (x : Str) (st : Stmt) (ps : List Str) (kws : List (Str × V)) : Prop where
  ex : ∃ f fd, Fun K x x st f fd ∧ mg x = some (.ref f) ∧ FunD K x x (defArgs st) (defBody st) (defScope st) [] kws f fd
structure CalK (P : Program) (w : World) (K : PySem.W.Frag) (mg : Str → Option Value) (base : Heap) (k : Nat) (x : Str) (st : Stmt) (ps : List Str) (kws : List (Str × V)) (sp : Sp) : Prop where
  ex : ∃ f fd, FnG P w K mg base CX0 k f fd ps sp ∧ mg x = some (.ref f) ∧ FunD K x x (defArgs st) (defBody st) (defScope st) [] kws f fd
theorem calK_of {P : Program} {w : World} {K : PySem.W.Frag} {mg : Str → Option Value} {base : Heap} {k : Nat} {x : Str} {st : Stmt} {ps : List Str} {kws : List (Str × V)} {sp : Sp} (D : DefK K mg x st ps kws) (h : ∀ f fd, Fun K x x st f fd → FnG P w K mg base CX0 k f fd ps sp) : CalK P w K mg base k x st ps kws sp := by
  obtain ⟨f, fd, F, hm, hb⟩ := D.ex
  exact ⟨f, fd, h f fd F, hm, hb⟩
theorem defK_mk {K : PySem.W.Frag} {mg : Str → Option Value} {x : Str} {st : Stmt} {ps : List Str} {kws : List (Str × V)} {h : Heap} {f D : Addr} {oc : Value} {od an : Option Addr} {osl : Array (Option Value)} {doc pm cdv ct : Value} (X : K.In h) (G : h.Ns mainGlobals mg) (a : PySem.W.nsIn K mainGlobals x = some (some (.ref f)))
    (l : K.lookup f = some ⟨oc, od, .func (PySem.W.fnOf x x (defArgs st) (defBody st) (defScope st) .none (.ref D) doc pm an cdv ct), osl⟩) (c : PySem.W.codeIn K cdv x = true) (k : PySem.W.keepIn K (.ref f) = true)
    (hq : ∀ q ∈ kws, ∃ u, PySem.W.nsIn K D q.1 = some (some u) ∧ RelV q.2 u) : DefK K mg x st ps kws :=
  ⟨f, _, fun_mk l c k, PySem.W.mg_of X G a, ⟨⟨oc, od, .none, .ref D, doc, pm, an, cdv, ct, osl, rfl, l, c, .inl ⟨rfl, rfl⟩, .inr ⟨D, rfl, hq⟩⟩, k⟩⟩
section
variable {X : Cx} {CX : CXT} {k n j : Nat} {f : Addr} {fd : FuncData} {ps ks : List Str} {sp : Sp} {E : XK} {x : Str} {p pos : Pos} {e : Expr} {es : List Expr} {kws : List Keyword} {t tk : TA} {g : List Value → List Value → List Value} {gV : List V → List V → List V} {st : Stmt} {kwd : List (Str × V)}
theorem run_gN {pins : List (Addr × Obj)} {σ : L2.St} {H : Hp} {s : Shared} {Q : VK} {us ws : List Value} {vs zs : List V} (F : FnG X.prog X.w X.K X.mg X.base CX k f fd ps sp) (hr : Rm k X.A) (hb : KBn X.K fd ps n ks g gV) (hx : Passes CX X E)
    (I : Inv X pins σ H s) (r : Vals vs us) (rz : Vals zs ws) (l1 : vs.length = n) (l2 : zs.length = ks.length) (h : sp (gV vs zs) H Q E) : wpAny (model X.prog X.w) X.A (call (.ref f) us (ks.zip ws)) (EP X pins σ Q) X.xe s := by
  have r2 := hb.rel r rz
  refine wpAny_call (codeAny_mono (F.go X.A X.stack s H ⟨us, ks.zip ws⟩ (g us ws) (gV vs zs) Q E hr I.env0 (hb.to s us ws I.kIn (r.length.symm.trans l1) (rz.length.symm.trans l2)) r2 h) fun r s' hq => ?_)
  cases r with
  | error e => exact hx pins σ H s e s' I hq
  | ok fl =>
    cases fl with
    | ret u => exact I.after hq
    | next => exact False.elim hq
    | brk => exact False.elim hq
    | cont => exact False.elim hq
/-- f(e, .., k = v, ..) -/
theorem pe_calK (c : CalK X.prog X.w X.K X.mg X.base k x st ps kwd sp) (hr : Rm j X.A) (hk : k ≤ j) (hg : Gl X x) (hb : ∀ f fd, FunD X.K x x (defArgs st) (defBody st) (defScope st) [] kwd f fd → ∃ g, KBn X.K fd ps n ks g gV)
    (ha : PA X (e :: es) t) (hkw : PK X kws tk) (hall : (backToKw pos (keywordEach kws X.env)).all (·.1.isSome) = true := by rfl) (hks : (backToKw pos (keywordEach kws X.env)).filterMap (·.1) = ks := by rfl)
    (hdb : (x == ("__debug__" : Str)) = false := by decide) (he : starEach (e :: es) X.env = (false, eval e X.env) :: starEach es X.env := by rfl)
    (hpl : ((backTo pos (starEach (e :: es) X.env)).any (·.1) || (backToKw pos (keywordEach kws X.env)).any (·.1.isNone)) = false := by rfl) :
    PE X (.Call (.Name x p) (e :: es) kws pos) (tCallN n ks.length sp gV E0 t tk) := by
  obtain ⟨f, fd, F, hm, FD⟩ := c.ex
  obtain ⟨g, hb⟩ := hb f fd FD
  refine ⟨fun pins s σ H Q I h => ?_⟩
  refine wpAny_Call_Name_kw (ld_glob I hg hm ?_ hdb)
  refine PySem.W.callWith_KW (h₀ := X.base) I.ok.mod.kin FD.kp hall (thn (ha.run pos pins s σ H _ I h) fun us s1 ⟨vs, H1, I1, r, q⟩ => ?_) hpl he
  refine thn (hkw.run pos pins s1 σ H1 _ I1 q) fun ws s2 ⟨zs, H2, I2, rz, l1, l2, q2⟩ => ⟨I2.kIn, ?_⟩
  rw [hks]
  exact run_gN (F.mono (Nat.le_refl k)) (hr.mono hk) hb pass0 I2 r rz l1 l2 q2
end
section
variable {K : PySem.W.Frag} {m : Env'} {ow ow1 ow2 : List OC} {k k1 k2 : Knd} {ks1 ks2 : List Knd} {ar tk : TA} {te : TE} {d1 d2 dm : List PyData} {mv : List V} {n mm : Nat} {α : Type} {args : α → List PyData} {pre : α → Prop} {out : α → PyData} {outD : α → List (Key × PyData)} {E : XK}
theorem dpa_sel {Hq : Hp} {mz zs : List V} {dm dz : List PyData} (h1 : DpAll K Hq mz dm) (h2 : DpAll K Hq zs dz) : ∀ sel : List (Bool × Nat), DpAll K Hq (sel.filterMap fun p => if p.1 then zs[p.2]? else mz[p.2]?) (sel.filterMap fun p => if p.1 then dz[p.2]? else dm[p.2]?)
  | [] => .nil
  | (b, i) :: r => by
    have ih := dpa_sel h1 h2 r
    have get : ∀ {xs : List V} {ds : List PyData}, DpAll K Hq xs ds → (xs[i]? = none ∧ ds[i]? = none) ∨ ∃ v u, xs[i]? = some v ∧ ds[i]? = some u ∧ Dp K Hq v u := fun {xs ds} h => by
      have hl := dpa_len h
      cases e : ds[i]? with
      | none => exact .inl ⟨by rw [List.getElem?_eq_none_iff] at e ⊢; omega, rfl⟩
      | some d => obtain ⟨x, a, b⟩ := dpa_get h e; exact .inr ⟨x, d, a, rfl, b⟩
    rw [List.filterMap_cons, List.filterMap_cons]
    cases b with
    | true =>
      rcases get h2 with ⟨a, b⟩ | ⟨v, u, a, b, q⟩
      · simp only [if_true, a, b]; exact ih
      · simp only [if_true, a, b]; exact .cons q ih
    | false =>
      rcases get h1 with ⟨a, b⟩ | ⟨v, u, a, b, q⟩
      · simp only [Bool.false_eq_true, if_false, a, b]; exact ih
      · simp only [Bool.false_eq_true, if_false, a, b]; exact .cons q ih
def sdm : List V → Option (List PyData)
  | [] => some []
  | v :: r => match sd v, sdm r with
    | some d, some ds => some (d :: ds)
    | _, _ => none
theorem sdm_ok {Hq : Hp} : ∀ {mv : List V} {dm : List PyData}, sdm mv = some dm → DpAll K Hq mv dm
  | [], _, h => by cases h; exact .nil
  | v :: r, dm, h => by
    simp only [sdm] at h
    split at h
    · cases h; rename_i d ds h1 h2; exact .cons (sd_ok h1) (sdm_ok h2)
    · cases h
theorem args2 {He Fr : Hp} {ts : List Knd} {σ : L2.St} {xs : List V} {H1 : Hp} {Hd : Hp} {ps : List Addr} {ys zs : List V} (S : SB K He Fr Hd ps m ow2 (ks2.reverseAux (ks1.reverseAux ts)) σ (zs.reverseAux (ys.reverseAux xs)) H1) (l1 : ys.length = ks1.length) (l2 : zs.length = ks2.length) (a1 : ads ow2 ks1 = some d1) (a2 : ads ow2 ks2 = some d2) :
    DpAll K H1 ys d1 ∧ DpAll K H1 zs d2 ∧ SB K He Fr Hd ps m ow2 ts σ xs H1 := by
  obtain ⟨h2, S2⟩ := S.args l2
  obtain ⟨h1, S1⟩ := S2.args l1
  exact ⟨ads_ok S1 h1 a1, ads_ok S1 h2 a2, S1⟩
theorem ee_callN {sel : List (Bool × Nat)} (b : Bool) (a : α) (h : EA K ar m ow ks1 ow1) (h2 : EA K tk m ow1 ks2 ow2) (a1 : ads ow2 ks1 = some d1) (a2 : ads ow2 ks2 = some d2) (hm : sdm mv = some dm) (e : gsel sel d1 dm d2 = args a) (hp : pre a) (l1 : ks1.length = n) (l2 : ks2.length = mm) :
    EE K (tCallN n mm (spP args pre out K) (fun vs zs => gsel sel vs mv zs) E ar tk) m ow (resK b ow2 (out a)) (resO b ow2 (out a)) := fun He Fr ts σ xs H Q S q =>
  h He Fr ts σ xs H _ S fun ys H1 hl S1 => h2 He Fr _ σ _ H1 _ S1 fun zs H2 hl2 ⟨Hd, ps, S2⟩ => by
    obtain ⟨g1, g2, S3⟩ := args2 S2 hl hl2 a1 a2
    refine ⟨hl.trans l1, hl2.trans l2, a, ?_, hp, fun x H' Hf e f r => q _ _ (S3.res b e f r)⟩
    rw [← e]
    exact dpa_app g1 (dpa_sel (sdm_ok hm) g2 sel)
theorem ee_callND {sel : List (Bool × Nat)} (a : α) (h : EA K ar m ow ks1 ow1) (h2 : EA K tk m ow1 ks2 ow2) (a1 : ads ow2 ks1 = some d1) (a2 : ads ow2 ks2 = some d2) (hm : sdm mv = some dm) (e : gsel sel d1 dm d2 = args a) (hp : pre a) (l1 : ks1.length = n) (l2 : ks2.length = mm) :
    EE K (tCallN n mm (spD args pre outD K) (fun vs zs => gsel sel vs mv zs) E ar tk) m ow (.own ow2.length) (ow2 ++ [.dic (outD a)]) := fun He Fr ts σ xs H Q S q =>
  h He Fr ts σ xs H _ S fun ys H1 hl S1 => h2 He Fr _ σ _ H1 _ S1 fun zs H2 hl2 ⟨Hd, ps, S2⟩ => by
    obtain ⟨g1, g2, S3⟩ := args2 S2 hl hl2 a1 a2
    refine ⟨hl.trans l1, hl2.trans l2, a, ?_, hp, fun p us H' Hf e f g1 g2 g3 g4 => ?_⟩
    · rw [← e]
      exact dpa_app g1 (dpa_sel (sdm_ok hm) g2 sel)
    obtain ⟨Hd', S', _, e2, e3⟩ := frs_ext S3 e f
    have nD : Hd' p = none := e3 p g1 g2
    have nP : p ∉ ps ++ kids ow2 := fun h => by obtain ⟨o, w⟩ := S3.inH h; rw [g1] at w; cases w
    exact q _ _ ⟨Hd', _, S'.pushC (c0 := .dic (outD a)) (S3.noF g1) nP ⟨nD, us, g3, kp_mono e2 g4⟩⟩
end
/-! ### stars -/
section
variable {K : PySem.W.Frag} {m : Env'} {ow ow1 ow2 : List OC} {k k1 k2 : Knd} {ks : List Knd} {ar : TA} {te ta tb to : TE} {ns : List Int} {fl : Bool} {n : Nat} {i : Int}
theorem SA.pushIs {He Fr : Hp} {σ : L2.St} {H : Hp} : ∀ (ns : List Int) {ts : List Knd} {xs : List V}, SA K He Fr m ow ts σ xs H → SA K He Fr m ow ((ns.map fun n => Knd.v (.int n)).reverseAux ts) σ ((ns.map V.int).reverseAux xs) H
  | [], _, _, S => S
  | n :: r, _, _, S => SA.pushIs r (S.pushV (.int n))
theorem rev_app {α : Type} (a b c : List α) : (a ++ b).reverseAux c = b.reverseAux (a.reverseAux c) := by
  induction a generalizing c with
  | nil => rfl
  | cons x r ih => exact ih (x :: c)
/-- *e, .. -/
theorem ea_star (h : EE K te m ow k ow1) (hs : seqOf ow1 k = some (fl, ns.map PyData.int)) (hr : EA K ar m ow1 ks ow2) : EA K (StX.tStar K te ar) m ow ((ns.map fun n => Knd.v (.int n)) ++ ks) ow2 := fun He Fr ts σ xs H Q S q =>
  h He Fr ts σ xs H _ S fun x H1 ⟨Hd, ps, S1⟩ => by
    obtain ⟨p, vs, rfl, h1, h2⟩ := seq_ok S1 S1.pop.1 hs
    rw [of_dpa_ints h2] at h1
    refine ⟨p, _, rfl, .inr h1, ?_⟩
    refine hr He Fr _ σ _ H1 _ (SA.pushIs ns ⟨Hd, ps, S1.pop.2⟩) fun ys H2 hl S2 => q _ H2 ?_ ?_
    · rw [List.length_append, List.length_append, hl, List.length_map, List.length_map]
    · rw [rev_app, rev_app]; exact S2
theorem pds_ints : ∀ ns : List Int, pds (ns.map fun n => Knd.v (.int n)) = some (ns.map PyData.int)
  | [] => rfl
  | n :: r => by
    rw [List.map_cons, pds, pds_ints r]; rfl
theorem ads_ints (ow : List OC) : ∀ ns : List Int, ads ow (ns.map fun n => Knd.v (.int n)) = some (ns.map PyData.int)
  | [] => rfl
  | n :: r => by
    rw [List.map_cons, ads, ads_ints ow r]; rfl

/-! ### sets of one's own -/
def cSet (w : World) (S : Int → Bool) (n : Nat) : OC := .gen (fun p _ => SetO w p S n) []
variable {w : World} {S0 : Int → Bool}
theorem SB.ownG {He Fr Hd H : Hp} {ps : List Addr} {ts : List Knd} {σ : L2.St} {xs : List V} {x : V} {φ : Addr → List V → HO} {ks : List Knd} (S : SB K He Fr Hd ps m ow ts σ xs H) (h : KOk K (port He Hd) Hd ps x (.own n)) (e : ow[n]? = some (.gen φ ks)) :
    ∃ p vs, ps[n]? = some p ∧ x = .ref p ∧ Hd p = none ∧ H p = some (φ p vs) ∧ tupy (φ p vs) = false ∧ Paired (KOk K (port He Hd) Hd ps) vs ks := by
  obtain ⟨p, hp, hx⟩ := h
  obtain ⟨h1, vs, h2, h3, h4⟩ := S.ok n p _ hp e
  exact ⟨p, vs, hp, hx, h1, h2, h3, h4⟩
/-- set() -/
theorem ee_set0 : EE K (tCB (rSet0 w) tNil) m ow (.own ow.length) (ow ++ [cSet w (fun _ => false) 0]) := fun He Fr ts σ xs H Q ⟨Hd, ps, S⟩ q => by
  refine ⟨rfl, fun p hp => q _ _ ?_⟩
  have e : Same H (upd H p (SetO w p (fun _ => false) 0)) := fun a o z => by rw [upd_ne (ne_of_none z hp)]; exact z
  have nD : Hd p = none := by
    cases z : Hd p with
    | none => rfl
    | some o => rw [S.dh _ _ z] at hp; cases hp
  have nP : p ∉ ps ++ kids ow := fun h => by obtain ⟨o, w⟩ := S.inH h; rw [hp] at w; cases w
  exact ⟨Hd, _, (S.grow e).pushC (c0 := cSet w (fun _ => false) 0) (S.noF hp) nP ⟨nD, [], upd_same, rfl, .nil⟩⟩
/-- s.add(i) -/
theorem ee_sadd {S1 : Int → Bool} {nn : Nat} (h : EE K to m ow (.own n) ow1) (h0 : ow1[n]? = some (cSet w S1 nn)) (ha : EA K ar m ow1 [.v (.int i)] ow1) (hz : nn + 1 < 4096) : EE K (tSAdd w to ar) m ow (.v .non) (ow1.set n (cSet w (fun j => S1 j || decide (j = i)) (if S1 i = true then nn else nn + 1))) := fun He Fr ts σ xs H Q S q =>
  h He Fr ts σ xs H _ S fun x H1 ⟨Hd, ps, S1'⟩ => by
    obtain ⟨p, vs, e1, rfl, e2, e3, _, _⟩ := S1'.ownG S1'.pop.1 h0
    refine ⟨⟨p, _, _, rfl, e3⟩, ha He Fr _ σ _ H1 _ ⟨Hd, ps, S1'⟩ fun ys H2 hl ⟨Hd2, ps2, S2⟩ => ?_⟩
    obtain ⟨hp, S3⟩ := S2.args hl
    obtain ⟨y, rfl⟩ : ∃ y, ys = [y] := one hl
    cases hp with
    | cons hy _ =>
      cases (show y = V.int i from hy)
      obtain ⟨p2, vs2, f1, f2, f3, f4, _, _⟩ := S3.ownG S3.pop.1 h0
      cases f2
      exact ⟨p, i, _, _, rfl, rfl, f4, hz, q _ _ ⟨Hd2, ps2, (S3.pop.2.writeC (o := SetO w p _ _) (c1 := cSet w _ _) f1 h0 f3 ⟨f3, [], upd_same, rfl, .nil⟩).push rfl⟩⟩
/-- i in s, i not in s -/
theorem rr_sin {S1 : Int → Bool} {nn : Nat} (h : ow[n]? = some (cSet w S1 nn)) : RR K (rSIn w) m ow (.v (.int i)) (.own n) (.v (.bl (S1 i))) ow := by
  rintro He Fr ts σ x y xs H Q ⟨Hd, ps, S⟩ q
  obtain ⟨hy, S'⟩ := S.pop
  cases (show x = V.int i from S'.pop.1)
  obtain ⟨p, vs, e1, rfl, e2, e3, _, _⟩ := S.ownG hy h
  exact ⟨i, p, _, _, rfl, rfl, e3, q _ H ⟨Hd, ps, S'.pop.2.push rfl⟩⟩
theorem rr_snotin {S1 : Int → Bool} {nn : Nat} (h : ow[n]? = some (cSet w S1 nn)) : RR K (rSNotIn w) m ow (.v (.int i)) (.own n) (.v (.bl (!S1 i))) ow := by
  rintro He Fr ts σ x y xs H Q ⟨Hd, ps, S⟩ q
  obtain ⟨hy, S'⟩ := S.pop
  cases (show x = V.int i from S'.pop.1)
  obtain ⟨p, vs, e1, rfl, e2, e3, _, _⟩ := S.ownG hy h
  exact ⟨i, p, _, _, rfl, rfl, e3, q _ H ⟨Hd, ps, S'.pop.2.push rfl⟩⟩

/-! ### slices up to None -/
def tPartO (t : TE) : TO := fun σ H Q => t σ H fun x H1 => (x = .non ∧ Q none H1) ∨ ∃ i, x = .int i ∧ Q (some i) H1
theorem eo_non (h : EE K te m ow (.v .non) ow1) : EO K (tPartO te) m ow none ow1 := fun He Fr ts σ xs H Q S q =>
  h He Fr ts σ xs H _ S fun x H1 S1 => .inl ⟨S1.top, q _ S1.drop⟩
theorem eo_int (h : EE K te m ow (.v (.int i)) ow1) : EO K (tPartO te) m ow (some i) ow1 := fun He Fr ts σ xs H Q S q =>
  h He Fr ts σ xs H _ S fun x H1 S1 => .inr ⟨i, S1.top, q _ S1.drop⟩
end
theorem po_any {X : Cx} {e : Expr} {te : TE} (h : PE X e te) : PO X (some e) (tPartO te) := by
  refine ⟨fun pins s σ H Q I hw => ?_⟩
  rw [evalPart_some]
  refine thn (h.run pins s σ H _ I hw) fun u s1 ⟨x, H1, I1, r1, q1⟩ => ?_
  rcases q1 with ⟨rfl, q⟩ | ⟨i, rfl, q⟩
  · cases r1
    exact ⟨none, H1, I1, .none, q⟩
  · obtain ⟨t, rfl⟩ := r1
    exact ⟨some i, H1, I1, .int i t, q⟩
/-! ### counts -/
section
variable {X : Cx}
def rCntD (K : PySem.W.Frag) : V → List V → Hp → VK → Prop := fun x xs H Q => ∃ (a : Addr) (y : V) (d : PyData) (ds : List PyData), x = V.ref a ∧ xs = [y] ∧ Dp K H (V.ref a) (.list ds) ∧ Dp K H y d ∧
  SeqAt.shaped (.list ds) = true ∧ SeqAt.shaped d = true ∧ Q (.int (ds.countP (fun z => PyData.eqv z d) : Nat)) H
theorem mt_countD (hu : X.A.units + 65 < cLine) : MtR X "list.count" (rCntD X.K) := by
  intro pins s σ H x xs v us Q I rx rxs h
  obtain ⟨a, y, d, ds, rfl, rfl, hl, hy, sl, sd, q⟩ := h
  cases rx
  cases rxs with
  | cons ry rt =>
    rename_i uy ut
    cases rt
    obtain ⟨bs, r1⟩ := Dp.reads I d y uy hy ry
    have hxs : PyData.canLayAll0 ds = true := SeqAt.canLay_of_shaped sl
    have hroom : X.A.units + 1 + min (PyData.depthAll ds) d.depth < cLine := room_in_shaped sd hu
    cases hl with
    | lst hs ha =>
      obtain ⟨its, rv, ⟨⟨cls, dd, data, sls⟩, n, ho, hc, hdn, hdt⟩, hlen⟩ := I.list hs
      simp only at hc hdt
      subst hc hdt
      obtain ⟨as, h4⟩ := Dp.readsAll I ds _ its ha rv
      have hmap : its.map (SeqAt.readOf s.heap) = ds := SeqAt.readsAll_map ds its as hxs h4
      refine call_meets PySem.F.slot_list_count ⟨_, ho, rfl⟩ PySem.F.entry_list_count (PySem.F.args_list_count_2 _ _)
        (SeqAt.list_countAt a its.toArray n dd sls uy (fun u => PyData.eqv (SeqAt.readOf s.heap u) d)) ⟨ho, SeqAt.items_eqAt (vs := its.toArray) (show ReadsAll s.heap its.toArray.toList ds as from h4) r1 hxs (SeqAt.canLay_of_shaped sd) hroom, ?_⟩
      have ec : its.toArray.toList.countP (fun u => PyData.eqv (SeqAt.readOf s.heap u) d) = ds.countP (fun z => PyData.eqv z d) := by
        rw [← hmap, List.countP_map]; rfl
      refine ⟨.int (ds.countP (fun z => PyData.eqv z d) : Nat), H, I.tok _, ⟨s.toks, ?_⟩, q⟩
      show Value.int ((its.toArray.toList.countP (fun u => PyData.eqv (SeqAt.readOf s.heap u) d) : Nat) : Int) s.toks = _
      rw [ec]
end
theorem mt_countDK {X : Cx} {K : PySem.W.Frag} (hK : X.K = K) (hu : X.A.units + 65 < cLine) : MtR X "list.count" (rCntD K) := hK ▸ mt_countD hu
theorem ee_count {K : PySem.W.Frag} {m : Env'} {ow ow1 ow2 : List OC} {k k2 : Knd} {to : TE} {ar : TA} {d : PyData} {ds : List PyData} {fl : Bool} (h : EE K to m ow k ow1) (hs : seqOf ow1 k = some (fl, ds)) (ha : EA K ar m ow1 [k2] ow2) (h1 : ad ow2 k = some (.list ds)) (h2 : ad ow2 k2 = some d) (s1 : SeqAt.shaped (.list ds) = true) (s2 : SeqAt.shaped d = true) :
    EE K (tBM K "list" (rCntD K) to ar) m ow (.v (.int (ds.countP (fun z => PyData.eqv z d) : Nat))) ow2 := fun He Fr ts σ xs H Q S q =>
  h He Fr ts σ xs H _ S fun x H1 ⟨Hd, ps, S1⟩ => by
    obtain ⟨p, vs, rfl, a1, a2⟩ := seq_ok S1 S1.pop.1 hs
    refine ⟨.inl ⟨rfl, vs, a1⟩, ha He Fr _ σ _ H1 _ ⟨Hd, ps, S1⟩ fun ys H2 hl ⟨Hd2, ps2, S2⟩ => ?_⟩
    obtain ⟨hp, S3⟩ := S2.args hl
    obtain ⟨y, rfl⟩ : ∃ y, ys = [y] := one hl
    cases hp with
    | cons hy _ => exact ⟨p, y, d, ds, rfl, rfl, ad_ok S3 S3.pop.1 h1, ad_ok S3 hy h2, s1, s2, q _ _ ⟨Hd2, ps2, S3.pop.2.push rfl⟩⟩
end LD

/-! Lists of lists of one's own, changed within. -/
namespace LD
open PySem PySem.Spec PyProof.Rows L2
section
variable {K : PySem.W.Frag} {He Fr Hd H : Hp} {ps : List Addr} {m : Env'} {ow ow1 ow2 : List OC} {ts : List Knd} {σ : L2.St} {xs : List V} {x : V} {k : Knd} {P : Post} {t : TS} {to te tl : TE} {ar : TA} {qs : List Addr} {lss : List (List PyData)} {ds : List PyData} {d : PyData} {n j i : Nat} {q : Addr}
theorem SB.ownT (S : SB K He Fr Hd ps m ow ts σ xs H) (h : KOk K (port He Hd) Hd ps x (.own n)) (e : ow[n]? = some (.tr qs lss)) :
    ∃ p, ps[n]? = some p ∧ x = .ref p ∧ Hd p = none ∧ H p = some (.lst (qs.map V.ref)) ∧ (∀ q ∈ qs, Hd q = none) ∧ Paired (fun q ds => ∃ vs, H q = some (.lst vs) ∧ DpAll K (port He Hd) vs ds) qs lss := by
  obtain ⟨p, hp, hx⟩ := h
  obtain ⟨h1, h2, h3, h4⟩ := S.ok n p _ hp e
  exact ⟨p, hp, hx, h1, h2, h3, h4⟩
/-- an object of one's own is said otherwise -/
theorem SB.say (S : SB K He Fr Hd ps m ow ts σ xs H) {c0 c1 : OC} (hn : ow[n]? = some c0) (h : ∀ p, ps[n]? = some p → OwnOk K (port He Hd) Hd ps H p c0 → OwnOk K (port He Hd) Hd ps H p c1) (hk : kidC c1 = kidC c0) : SB K He Fr Hd ps m (ow.set n c1) ts σ xs H := by
  have ek := kids_set hn hk
  refine ⟨S.eh, S.dh, S.fh, S.fd, by rw [ek]; exact S.fk, by rw [ek]; exact S.nk, by rw [List.length_set]; exact S.pl, fun j r c hj hc => ?_, S.sv, S.tv⟩
  by_cases w : n = j
  · subst w
    rw [List.getElem?_set_self (List.getElem?_eq_some_iff.mp hn).1] at hc
    cases hc
    exact h r hj (S.ok _ r _ hj hn)
  · rw [List.getElem?_set_ne w] at hc
    exact S.ok j r c hj hc
theorem ss_say {c0 c1 : OC} (n : Nat) (h : SS K t m (ow.set n c1) P) (hn : ow[n]? = some c0) (hc : ∀ (Hq Hd H : Hp) (ps : List Addr) (p : Addr), OwnOk K Hq Hd ps H p c0 → OwnOk K Hq Hd ps H p c1) (hk : kidC c1 = kidC c0) : SS K t m ow P := fun He Fr ts σ xs H D ⟨Hd, ps, S⟩ F =>
  h He Fr ts σ xs H D ⟨Hd, ps, S.say hn (fun p _ => hc _ _ _ _ p) hk⟩ F
/-- an empty list will hold lists of one's own -/
theorem ss_tr0 (n : Nat) (h : SS K t m (ow.set n (.tr [] [])) P) (hn : ow[n]? = some (.lst []) := by rfl) : SS K t m ow P := ss_say n h hn (fun Hq Hd H ps p ⟨h1, vs, h2, h3⟩ => by
  cases h3
  exact ⟨h1, h2, fun q hq => (by cases hq), .nil⟩) rfl
/-- what a list holds matters no longer -/
theorem ss_jl (n : Nat) (h : SS K t m (ow.set n (.jl ds.length)) P) (hn : ow[n]? = some (.lst ds) := by rfl) : SS K t m ow P := ss_say n h hn (fun Hq Hd H ps p ⟨h1, vs, h2, h3⟩ => ⟨h1, vs, h2, Nat.le_of_eq (dpa_len h3)⟩) rfl
/-- the kids of the n-th object are own no longer (they are forgotten) -/
theorem kids_sub : ∀ {ow : List OC} {n : Nat} {c1 : OC}, kidC c1 = [] → (kids (ow.set n c1)).Sublist (kids ow)
  | [], _, _, _ => List.Sublist.refl _
  | c :: r, 0, c1, e => by show (kidC c1 ++ kids r).Sublist (kidC c ++ kids r); rw [e]; exact List.sublist_append_right _ _
  | c :: r, n + 1, c1, e => by show (kidC c ++ kids (r.set n c1)).Sublist (kidC c ++ kids r); exact (List.Sublist.refl _).append (kids_sub (ow := r) e)
theorem SB.sayN (S : SB K He Fr Hd ps m ow ts σ xs H) {c0 c1 : OC} (hn : ow[n]? = some c0) (h : ∀ p, ps[n]? = some p → OwnOk K (port He Hd) Hd ps H p c0 → OwnOk K (port He Hd) Hd ps H p c1) (hk : kidC c1 = []) : SB K He Fr Hd ps m (ow.set n c1) ts σ xs H := by
  have sub : (ps ++ kids (ow.set n c1)).Sublist (ps ++ kids ow) := (List.Sublist.refl ps).append (kids_sub hk)
  refine ⟨S.eh, S.dh, S.fh, S.fd, fun p hp => S.fk p (sub.subset hp), S.nk.sublist sub, by rw [List.length_set]; exact S.pl, fun j r c hj hc => ?_, S.sv, S.tv⟩
  by_cases w : n = j
  · subst w
    rw [List.getElem?_set_self (List.getElem?_eq_some_iff.mp hn).1] at hc
    cases hc
    exact h r hj (S.ok _ r _ hj hn)
  · rw [List.getElem?_set_ne w] at hc
    exact S.ok j r c hj hc
theorem ss_jlT (n : Nat) (h : SS K t m (ow.set n (.jl lss.length)) P) (hn : ow[n]? = some (.tr qs lss) := by rfl) : SS K t m ow P := fun He Fr ts σ xs H D ⟨Hd, ps, S⟩ F =>
  h He Fr ts σ xs H D ⟨Hd, ps, S.sayN hn (fun p _ ⟨h1, h2, h3, h4⟩ => ⟨h1, _, h2, by rw [List.length_map]; exact Nat.le_of_eq (PySem.Paired.length h4)⟩) rfl⟩ F
/-- append, reverse of a list whose items matter no longer -/
theorem SB.ownJ (S : SB K He Fr Hd ps m ow ts σ xs H) (h : KOk K (port He Hd) Hd ps x (.own n)) {z : Nat} (e : ow[n]? = some (.jl z)) : ∃ p vs, ps[n]? = some p ∧ x = .ref p ∧ Hd p = none ∧ H p = some (.lst vs) ∧ vs.length ≤ z := by
  obtain ⟨p, hp, hx⟩ := h
  obtain ⟨h1, vs, h2, h3⟩ := S.ok n p _ hp e
  exact ⟨p, vs, hp, hx, h1, h2, h3⟩
theorem ee_appendJ {z : Nat} (h : EE K to m ow (.own n) ow1) (h0 : ow1[n]? = some (.jl z)) (ha : EA K ar m ow1 [k] ow2) (hn : ow2[n]? = some (.jl z)) (hz : z < 10000000) : EE K (tBM K "list" rAppend to ar) m ow (.v .non) (ow2.set n (.jl (z + 1))) := fun He Fr ts σ xs H Q S q =>
  h He Fr ts σ xs H _ S fun x H1 ⟨Hd, ps, S1⟩ => by
    obtain ⟨p, vs, e1, rfl, e2, e3, e4⟩ := S1.ownJ S1.pop.1 h0
    refine ⟨.inl ⟨rfl, vs, .inl (.inl e3)⟩, ha He Fr _ σ _ H1 _ ⟨Hd, ps, S1⟩ fun ys H2 hl ⟨Hd2, ps2, S2⟩ => ?_⟩
    obtain ⟨y, rfl⟩ : ∃ y, ys = [y] := one hl
    obtain ⟨hp, S3⟩ := S2.args hl
    obtain ⟨p2, vs2, f1, f2, f3, f4, f5⟩ := S3.ownJ S3.pop.1 hn
    cases f2
    have hz2 : vs2.length < sizeLine := by rw [sizeLine_eq]; omega
    exact ⟨p, vs2, y, rfl, rfl, f4, hz2, q _ _ ⟨Hd2, ps2, (S3.pop.2.writeC (o := .lst (vs2 ++ [y])) (c1 := .jl (z + 1)) f1 hn f3 ⟨f3, _, upd_same, by rw [List.length_append]; simp; omega⟩).push rfl⟩⟩
theorem ee_reverseJ {z : Nat} (h : EE K to m ow (.own n) ow1) (h0 : ow1[n]? = some (.jl z)) : EE K (tBM0 K "list" rReverse to) m ow (.v .non) (ow1.set n (.jl z)) := fun He Fr ts σ xs H Q S q =>
  h He Fr ts σ xs H _ S fun x H1 ⟨Hd, ps, S1⟩ => by
    obtain ⟨p, vs, e1, rfl, e2, e3, e4⟩ := S1.ownJ S1.pop.1 h0
    refine ⟨.inl ⟨rfl, vs, .inl (.inl e3)⟩, p, vs, rfl, rfl, e3, q _ _ ⟨Hd, ps, (S1.pop.2.writeC (o := .lst vs.reverse) (c1 := .jl z) e1 h0 e2 ⟨e2, _, upd_same, by rw [List.length_reverse]; exact e4⟩).push rfl⟩⟩
theorem kids_grow : ∀ {w : List OC} {n : Nat} {r : Addr}, w[n]? = some (.tr qs lss) → (kids (w.set n (.tr (qs ++ [r]) (lss ++ [ds])))).Perm (r :: kids w)
  | [], _, _, h => by cases h
  | c :: w, 0, r, h => by
    cases h
    show ((qs ++ [r]) ++ kids w).Perm (r :: (qs ++ kids w))
    rw [List.append_assoc]
    exact List.perm_middle
  | c :: w, n + 1, r, h => by
    show (kidC c ++ kids (w.set n _)).Perm (r :: (kidC c ++ kids w))
    exact ((List.Perm.append_left _ (kids_grow (w := w) h)).trans List.perm_middle)
theorem SB.growT (S : SB K He Fr Hd ps m ow ts σ xs H) {p r : Addr} {vs : List V} (hp : ps[n]? = some p) (hn : ow[n]? = some (.tr qs lss)) (hr : r ∉ ps ++ kids ow) (hd : Hd r = none) (hf : Fr r = none) (hH : H r = some (.lst vs)) (ha : DpAll K (port He Hd) vs ds) :
    SB K He Fr Hd ps m (ow.set n (.tr (qs ++ [r]) (lss ++ [ds]))) ts σ xs (upd H p (.lst (qs.map V.ref ++ [V.ref r]))) := by
  have pk := kids_grow (ds := ds) (r := r) hn
  have perm : (ps ++ kids (ow.set n (.tr (qs ++ [r]) (lss ++ [ds])))).Perm (r :: (ps ++ kids ow)) := (List.Perm.append_left _ pk).trans List.perm_middle
  have hpm := List.mem_of_getElem? hp
  obtain ⟨h1, h2, h3, h4⟩ := S.ok n p _ hp hn
  have rp : r ≠ p := fun e => hr (List.mem_append_left _ (e ▸ hpm))
  refine ⟨S.eh, fun a o ha => ?_, fun a o ha => ?_, S.fd, fun a ha => ?_, ?_, by rw [List.length_set]; exact S.pl, fun j q c hq hc => ?_, S.sv, S.tv⟩
  · rw [upd_ne (fun e : a = p => by rw [e, h1] at ha; cases ha)]
    exact S.dh _ _ ha
  · rw [upd_ne (fun e : a = p => by rw [e, S.fp p hpm] at ha; cases ha)]
    exact S.fh _ _ ha
  · rcases List.mem_cons.mp (perm.subset ha) with e | e
    · rw [e]; exact hf
    · exact S.fk a e
  · exact perm.nodup_iff.mpr (List.nodup_cons.mpr ⟨hr, S.nk⟩)
  · by_cases e : n = j
    · subst e
      rw [hp] at hq
      cases hq
      rw [List.getElem?_set_self (List.getElem?_eq_some_iff.mp hn).1] at hc
      cases hc
      refine ⟨h1, by rw [upd_same, List.map_append]; rfl, fun q hq => ?_, prd_app (prd_mm h4 fun x hx k h => h.imp fun us h => ⟨by rw [upd_ne (S.kidNe hpm (kids_mem hn hx))]; exact h.1, h.2⟩) (.cons ⟨vs, by rw [upd_ne rp]; exact hH, ha⟩ .nil)⟩
      rcases List.mem_append.mp hq with hq | hq
      · exact h3 q hq
      · rw [List.mem_singleton.mp hq]; exact hd
    · rw [List.getElem?_set_ne e] at hc
      have hne := S.apart hp hq e
      have q1 := S.ok j q c hq hc
      cases c with
      | dead => obtain ⟨o, q1⟩ := q1; exact ⟨o, by rw [upd_ne hne]; exact q1⟩
      | lst ds1 => exact ⟨q1.1, q1.2.imp fun us h => ⟨by rw [upd_ne hne]; exact h.1, h.2⟩⟩
      | dic ds1 => exact ⟨q1.1, q1.2.imp fun us h => ⟨by rw [upd_ne hne]; exact h.1, h.2⟩⟩
      | ldic od us ds1 => exact ⟨q1.1, by rw [upd_ne hne]; exact q1.2.1, q1.2.2⟩
      | gen φ ks => exact ⟨q1.1, q1.2.imp fun vs h => ⟨by rw [upd_ne hne]; exact h.1, h.2⟩⟩
      | tpl ks => exact q1.imp fun vs h => ⟨by rw [upd_ne hne]; exact h.1, h.2⟩
      | jl z => exact ⟨q1.1, q1.2.imp fun vs h => ⟨by rw [upd_ne hne]; exact h.1, h.2⟩⟩
      | tr qs lss => exact ⟨q1.1, by rw [upd_ne hne]; exact q1.2.1, q1.2.2.1, prd_mm q1.2.2.2 fun x hx k h => h.imp fun vs h => ⟨by rw [upd_ne (S.kidNe hpm (kids_mem hc hx))]; exact h.1, h.2⟩⟩
/-- xs.append(ys), ys the last object of one's own: it is one of the inner lists from now on -/
theorem ss_trapp (h : EE K to m ow (.own n) ow1) (h0 : ow1[n]? = some (.tr qs lss)) (ha : EA K ar m ow1 [.own ow2.length] (ow2 ++ [.lst ds])) (hn : ow2[n]? = some (.tr qs lss)) (hz : lss.length < 10000000) (q : ∀ q, P.nx (trimM ow2.length m) ((ow2.map (trimC ow2.length)).set n (.tr (qs ++ [q]) (lss ++ [ds])))) (h00 : P.n0 ≤ ow2.length) : SS K (tDrop (tBM K "list" rAppend to ar)) m ow P := fun He Fr ts σ xs H D S F =>
  h He Fr ts σ xs H _ S fun x H1 ⟨Hd, ps, S1⟩ => by
    obtain ⟨p, e1, rfl, e2, e3, e4, e5⟩ := S1.ownT S1.pop.1 h0
    refine ⟨.inl ⟨rfl, _, .inl (.inl e3)⟩, ha He Fr _ σ _ H1 _ ⟨Hd, ps, S1⟩ fun ys H2 hl ⟨Hd2, ps2, S2⟩ => ?_⟩
    obtain ⟨y, rfl⟩ : ∃ y, ys = [y] := one hl
    obtain ⟨hp, S3⟩ := S2.args hl
    cases hp with
    | cons hy _ =>
    have hnl := (List.getElem?_eq_some_iff.mp hn).1
    have hn' : (ow2 ++ [OC.lst ds])[n]? = some (.tr qs lss) := by rw [List.getElem?_append_left hnl]; exact hn
    have hj : (ow2 ++ [OC.lst ds])[ow2.length]? = some (.lst ds) := by rw [List.getElem?_append_right (Nat.le_refl _), Nat.sub_self]; rfl
    obtain ⟨p2, f1, f2, f3, f4, f5, f6⟩ := S3.ownT S3.pop.1 hn'
    cases f2
    obtain ⟨r, vs, g1, rfl, g2, g3, g4⟩ := S3.own hy hj
    have hz2 : (qs.map V.ref).length < sizeLine := by rw [sizeLine_eq, List.length_map, PySem.Paired.length f6]; omega
    refine ⟨p, _, .ref r, rfl, rfl, f4, hz2, F.nx _ _ _ _ (q r) ?_⟩
    have S4 := S3.pop.2
    have S5 := (S4.trimmed ow2.length).svs (trim_ok (n := ow2.length) S4.sv)
    rw [List.map_append] at S5
    have hlen : (ow2.map (trimC ow2.length)).length = ow2.length := List.length_map _
    have hm : ∀ k ∈ trimM ow2.length m, okS (ow2.map (trimC ow2.length)).length k := by
      rw [hlen]
      have := trim_in (n := ow2.length) (ow := ow2 ++ [OC.lst ds]) (by rw [List.length_append]; omega) S4.inS
      rwa [show ((ow2 ++ [OC.lst ds]).take ow2.length).length = ow2.length by rw [List.length_take, List.length_append]; omega] at this
    have ht : ∀ k ∈ ts, okN (ow2.map (trimC ow2.length)).length k := fun k hk => by
      rw [hlen]
      have := F.tn k hk
      cases k with
      | own j => exact Nat.lt_of_lt_of_le this h00
      | v _ => trivial
      | arg _ => trivial
      | dat _ => trivial
    have hc : ∀ c ∈ ow2.map (trimC ow2.length), okC (ow2.map (trimC ow2.length)).length c := fun c hc => by
      rw [hlen]
      obtain ⟨c0, _, rfl⟩ := List.mem_map.mp hc
      exact trimC_ok _ c0
    have S6 := S5.forget hm ht hc
    rw [hlen] at S6
    have hps : ps2.length = ow2.length + 1 := by rw [S4.pl, List.length_append]; rfl
    have eps : ps2 = ps2.take ow2.length ++ [r] := by
      have : ps2.take (ow2.length + 1) = ps2 := List.take_of_length_le (by omega)
      rw [← this, List.take_take, Nat.min_eq_left (by omega), List.take_add_one, g1]
      rfl
    have ek : kids (ow2.map (trimC ow2.length)) = kids (ow2 ++ [OC.lst ds]) := by rw [kids_trim, kids_app, kids_one]; exact (List.append_nil _).symm
    have hr : r ∉ ps2.take ow2.length ++ kids (ow2.map (trimC ow2.length)) := by
      rw [ek]
      intro z
      have nk := S4.nk
      rw [eps, List.append_assoc, List.nodup_append] at nk
      obtain ⟨_, n2, n3⟩ := nk
      rcases List.mem_append.mp z with z | z
      · exact n3 r z r (by simp) rfl
      · exact (List.nodup_cons.mp n2).1 z
    have hn2 : (ow2.map (trimC ow2.length))[n]? = some (.tr qs lss) := by rw [List.getElem?_map, hn]; rfl
    exact ⟨_, _, S6.growT (by rw [List.getElem?_take_of_lt hnl]; exact f1) hn2 hr g2 (S4.fp r (List.mem_of_getElem? g1)) g3 g4⟩
/-- xs[i], the inner list itself -/
theorem rr_ixTr {z : Int} (h : ow[n]? = some (.tr qs lss)) (hi : ixN qs.length z = some i) (hq : qs[i]? = some q) : RR K (rIxL K) m ow (.own n) (.v (.int z)) (.v (.ref q)) ow := by
  rintro He Fr ts σ x y xs H Q ⟨Hd, ps, S⟩ f
  cases (show y = V.int z from S.pop.1)
  obtain ⟨p, e1, rfl, e2, e3, e4, e5⟩ := S.ownT S.pop.2.pop.1 h
  refine ⟨p, _, z, .ref q, rfl, rfl, .inl (.inl e3), ?_, f _ H ⟨Hd, ps, S.pop.2.pop.2.push rfl⟩⟩
  unfold atI
  rw [List.length_map, hi]
  show (qs.map V.ref)[i]? = _
  rw [List.getElem?_map, hq]; rfl
theorem kid_sub : ∀ {ow : List OC} {n : Nat} {qs : List Addr} {lss : List (List PyData)}, ow[n]? = some (.tr qs lss) → qs.Sublist (kids ow)
  | c :: r, 0, _, _, h => by cases h; exact List.sublist_append_left _ _
  | c :: r, n + 1, _, _, h => (kid_sub (ow := r) h).trans (List.sublist_append_right _ _)
  | [], _, _, _, h => by cases h
theorem kid_apart : ∀ {ow : List OC} {n j : Nat} {qs qs2 : List Addr} {lss lss2 : List (List PyData)} {q : Addr}, (kids ow).Nodup → n ≠ j → ow[n]? = some (.tr qs lss) → ow[j]? = some (.tr qs2 lss2) → q ∈ qs → q ∈ qs2 → False
  | [], _, _, _, _, _, _, _, _, _, h, _, _, _ => by cases h
  | c :: r, 0, 0, _, _, _, _, _, _, e, _, _, _, _ => e rfl
  | c :: r, 0, j + 1, _, _, _, _, q, nd, _, h, h2, hq, hq2 => by
    cases h
    exact (List.nodup_append.mp nd).2.2 q hq q (kids_mem (ow := r) h2 hq2) rfl
  | c :: r, n + 1, 0, _, _, _, _, q, nd, _, h, h2, hq, hq2 => by
    cases h2
    exact (List.nodup_append.mp nd).2.2 q hq2 q (kids_mem (ow := r) h hq) rfl
  | c :: r, n + 1, j + 1, _, _, _, _, _, nd, e, h, h2, hq, hq2 => kid_apart (ow := r) (List.nodup_append.mp nd).2.1 (fun z => e (by rw [z])) h h2 hq hq2
/-- an inner list is changed -/
theorem SB.writeKid (S : SB K He Fr Hd ps m ow ts σ xs H) {vs : List V} (hn : ow[n]? = some (.tr qs lss)) (hi : qs[i]? = some q) (ha : DpAll K (port He Hd) vs ds) :
    SB K He Fr Hd ps m (ow.set n (.tr qs (lss.set i ds))) ts σ xs (upd H q (.lst vs)) := by
  have hl : n < ps.length := by rw [S.pl]; exact (List.getElem?_eq_some_iff.mp hn).1
  have hp : ps[n]? = some ps[n] := List.getElem?_eq_getElem hl
  generalize ps[n] = p at hp
  have hpm := List.mem_of_getElem? hp
  have hqq := List.mem_of_getElem? hi
  have hqk : q ∈ kids ow := kids_mem hn hqq
  obtain ⟨h1, h2, h3, h4⟩ := S.ok n p _ hp hn
  have ek : kids (ow.set n (.tr qs (lss.set i ds))) = kids ow := kids_set (c1 := OC.tr qs (lss.set i ds)) hn rfl
  have nk := S.nk
  have nq : qs.Nodup := ((List.nodup_append.mp nk).2.1).sublist (kid_sub hn)
  refine ⟨S.eh, fun a o ha => ?_, fun a o ha => ?_, S.fd, by rw [ek]; exact S.fk, by rw [ek]; exact S.nk, by rw [List.length_set]; exact S.pl, fun j r c hr hc => ?_, S.sv, S.tv⟩
  · rw [upd_ne (fun e : a = q => by rw [e, h3 q hqq] at ha; cases ha)]
    exact S.dh _ _ ha
  · rw [upd_ne (fun e : a = q => by rw [e, S.fk q (List.mem_append_right _ hqk)] at ha; cases ha)]
    exact S.fh _ _ ha
  · have hrm := List.mem_of_getElem? hr
    have rne : r ≠ q := fun e => S.kidNe hrm hqk e.symm
    by_cases e : n = j
    · subst e
      rw [hp] at hr
      cases hr
      rw [List.getElem?_set_self (List.getElem?_eq_some_iff.mp hn).1] at hc
      cases hc
      refine ⟨h1, by rw [upd_ne rne]; exact h2, h3, ?_⟩
      have go : ∀ {qs : List Addr} {lss : List (List PyData)} {i : Nat}, qs.Nodup → qs[i]? = some q → Paired (fun q ds => ∃ vs, H q = some (.lst vs) ∧ DpAll K (port He Hd) vs ds) qs lss → Paired (fun q' ds => ∃ vs', upd H q (.lst vs) q' = some (.lst vs') ∧ DpAll K (port He Hd) vs' ds) qs (lss.set i ds) := by
        intro qs lss i nd hq h
        induction h generalizing i with
        | nil => cases hq
        | cons h t ih =>
          obtain ⟨n1, n2⟩ := List.nodup_cons.mp nd
          cases i with
          | zero =>
            cases hq
            exact .cons ⟨vs, upd_same, ha⟩ (prd_mm t fun x hx y h => h.imp fun us h => ⟨by rw [upd_ne (fun e => n1 (by rw [← e]; exact hx))]; exact h.1, h.2⟩)
          | succ i =>
            refine .cons (h.imp fun us h => ⟨by rw [upd_ne (fun e => n1 (by rw [e]; exact List.mem_of_getElem? hq))]; exact h.1, h.2⟩) (ih n2 hq)
      exact go nq hi h4
    · rw [List.getElem?_set_ne e] at hc
      have q1 := S.ok j r c hr hc
      cases c with
      | dead => obtain ⟨o, q1⟩ := q1; exact ⟨o, by rw [upd_ne rne]; exact q1⟩
      | lst ds1 => exact ⟨q1.1, q1.2.imp fun us h => ⟨by rw [upd_ne rne]; exact h.1, h.2⟩⟩
      | dic ds1 => exact ⟨q1.1, q1.2.imp fun us h => ⟨by rw [upd_ne rne]; exact h.1, h.2⟩⟩
      | ldic od us ds1 => exact ⟨q1.1, by rw [upd_ne rne]; exact q1.2.1, q1.2.2⟩
      | gen φ ks => exact ⟨q1.1, q1.2.imp fun vs h => ⟨by rw [upd_ne rne]; exact h.1, h.2⟩⟩
      | tpl ks => exact q1.imp fun vs h => ⟨by rw [upd_ne rne]; exact h.1, h.2⟩
      | jl z => exact ⟨q1.1, q1.2.imp fun vs h => ⟨by rw [upd_ne rne]; exact h.1, h.2⟩⟩
      | tr qs2 lss2 =>
        have hne : ∀ x ∈ qs2, x ≠ q := fun x hx w => kid_apart (List.nodup_append.mp nk).2.1 e hn hc hqq (by rw [← w]; exact hx)
        exact ⟨q1.1, by rw [upd_ne rne]; exact q1.2.1, q1.2.2.1, prd_mm q1.2.2.2 fun x hx k h => h.imp fun vs h => ⟨by rw [upd_ne (hne x hx)]; exact h.1, h.2⟩⟩
/-- rows.append(d), rows an inner list -/
theorem ee_kidapp (h : EE K to m ow (.v (.ref q)) ow1) (h0 : ow1[n]? = some (.tr qs lss)) (hi : qs[i]? = some q) (hl : lss[i]? = some ds) (ha : EA K ar m ow1 [k] ow2) (hn : ow2[n]? = some (.tr qs lss)) (hk : pd k = some d) (hz : ds.length < 10000000) :
    EE K (tBM K "list" rAppend to ar) m ow (.v .non) (ow2.set n (.tr qs (lss.set i (ds ++ [d])))) := fun He Fr ts σ xs H Q S f =>
  h He Fr ts σ xs H _ S fun x H1 ⟨Hd, ps, S1⟩ => by
    cases (show x = .ref q from S1.pop.1)
    have at_ : ∀ {He Fr Hd : Hp} {ps : List Addr} {m : Env'} {ow : List OC} {ts : List Knd} {σ : L2.St} {xs : List V} {H : Hp}, SB K He Fr Hd ps m ow ts σ xs H → ow[n]? = some (.tr qs lss) → ∃ vs, H q = some (.lst vs) ∧ DpAll K (port He Hd) vs ds := by
      intro He Fr Hd ps m ow ts σ xs H S hn
      have hl' : n < ps.length := by rw [S.pl]; exact (List.getElem?_eq_some_iff.mp hn).1
      obtain ⟨_, _, _, h4⟩ := S.ok n _ _ (List.getElem?_eq_getElem hl') hn
      obtain ⟨q', e1, e2⟩ := prd_get h4 hl
      rw [hi] at e1
      cases e1
      exact e2
    obtain ⟨us, g1, _⟩ := at_ S1.pop.2 h0
    refine ⟨.inl ⟨rfl, us, .inl (.inl g1)⟩, ha He Fr _ σ _ H1 _ ⟨Hd, ps, S1⟩ fun ys H2 hl2 ⟨Hd2, ps2, S2⟩ => ?_⟩
    obtain ⟨y, rfl⟩ : ∃ y, ys = [y] := one hl2
    obtain ⟨hp, S3⟩ := S2.args hl2
    cases hp with
    | cons hy _ =>
    obtain ⟨vs, g2, g3⟩ := at_ S3.pop.2 hn
    have hz2 : vs.length < sizeLine := by rw [sizeLine_eq, dpa_len g3]; omega
    exact ⟨q, vs, y, rfl, rfl, g2, hz2, f _ _ ⟨Hd2, ps2, (S3.pop.2.writeKid hn hi (dpa_app g3 (.cons (pd_ok hy hk) .nil))).push rfl⟩⟩
/-- for rows in xs, xs a list of lists of one's own -/
theorem ss_forT {j : Nat} {tb : TS} (I : Nat → Env' → List OC → Prop) (qs : List Addr) (h : EE K tl m ow (.own n) ow1) (h0 : I 0 m ow1) (hs : ∀ i m ow, i ≤ qs.length → I i m ow → ∃ lss, ow[n]? = some (.tr qs lss))
    (ht : ∀ i q m ow, qs[i]? = some q → I i m ow → SS K tb (m.set j (some (.v (.ref q)))) ow { nx := I (i + 1), rt := P.rt, bk := P.nx, ct := I (i + 1), n0 := ow1.length }) (he : ∀ m ow, I qs.length m ow → P.nx m ow) :
    SS K (tFor (iList K tl) (gName j) tb) m ow P := fun He Fr ts σ xs H D S F =>
  h He Fr ts σ xs H _ S fun x H1 ⟨Hd, ps, S1⟩ => by
    obtain ⟨lss0, e0⟩ := hs 0 _ _ (Nat.zero_le _) h0
    obtain ⟨p, e1, rfl, _, e3, _, _⟩ := S1.ownT S1.pop.1 e0
    refine ⟨p, rfl, ⟨_, .inl (.inl e3)⟩, fun i n' σ H => n' = qs.length - i ∧ i ≤ qs.length ∧ ∃ m ow, I i m ow ∧ SA K He Fr m ow (.own n :: ts) σ (.ref p :: xs) H, ⟨_, rfl, Nat.zero_le _, _, _, h0, _, _, S1⟩, ?_⟩
    rintro i n' σ2 H2 ⟨rfl, hi, m2, ow2, I2, Hd2, ps2, S2⟩
    obtain ⟨lss2, e4⟩ := hs i _ _ hi I2
    obtain ⟨p2, f1, f2, _, f4, _, _⟩ := S2.ownT S2.pop.1 e4
    cases f2
    have hsq2 : SqL K H2 p (qs.map V.ref) := .inl (.inl f4)
    by_cases hlt : i < qs.length
    · have ha : qs[i]? = some qs[i] := List.getElem?_eq_getElem hlt
      refine .inr ⟨⟨_, V.ref qs[i], hsq2, by rw [List.getElem?_map, ha]; rfl⟩, _, fun σ' H' h => ⟨qs.length - (i + 1), by omega, rfl, hlt, h⟩, fun x H' hy => ?_⟩
      obtain ⟨rfl, hy⟩ := hy
      have hx := hy _ hsq2
      rw [List.getElem?_map, ha] at hx
      cases hx
      refine ht i _ m2 ow2 ha I2 He Fr (.own n :: ts) _ (.ref p :: xs) _ _ ⟨Hd2, ps2, S2.store (k := .v (.ref qs[i])) rfl j⟩ ⟨fun m ow σ H q S => ⟨m, ow, q, S⟩, fun k' m ow σ x H q S => F.rt _ _ _ _ _ _ q (S.drop2 rfl), fun m ow σ H q S => F.nx _ _ _ _ q S.drop, fun m ow σ H q S => ⟨m, ow, q, S⟩, fun k' hk' => ?_⟩
      exact S1.inT k' hk'
    · have e : i = qs.length := by omega
      subst e
      exact .inl ⟨⟨_, hsq2, by rw [List.length_map]; omega⟩, F.nx _ _ _ _ (he _ _ I2) ⟨Hd2, ps2, S2.pop.2⟩⟩
/-! ### defs that hand out a new list of new lists -/
def RsT (K : PySem.W.Frag) (H H' Hf : Hp) (p : Addr) (qs : List Addr) (lss : List (List PyData)) : Prop :=
  H p = none ∧ Hf p = none ∧ H' p = some (.lst (qs.map V.ref)) ∧ (p :: qs).Nodup ∧ (∀ q ∈ qs, H q = none ∧ Hf q = none) ∧ Paired (fun q ds => ∃ vs, H' q = some (.lst vs) ∧ DpAll K Hf vs ds) qs lss
end
def spT {α : Type} (args : α → List PyData) (pre : α → Prop) (out : α → List (List PyData)) (K : PySem.W.Frag) : Sp := fun vs H Q _ => ∃ a, DpAll K H vs (args a) ∧ pre a ∧ ∀ p qs H' Hf, Same H H' → Frs H Hf H' → RsT K H H' Hf p qs (out a) → Q (.ref p) H'
def PretT (lss : List (List PyData)) : Post := { nx := fun _ _ => False, rt := fun k ow => ∃ n qs, k = .own n ∧ ow[n]? = some (.tr qs lss) }
section
variable {K : PySem.W.Frag} {He Fr Hd H H' Hf : Hp} {ps : List Addr} {m : Env'} {ow ow1 ow2 : List OC} {ts ks ks1 ks2 : List Knd} {σ : L2.St} {xs : List V} {α : Type} {args : α → List PyData} {pre : α → Prop} {out : α → List (List PyData)} {ar tk : TA} {E : XK} {p : Addr} {qs : List Addr} {lss : List (List PyData)}
theorem fin_T {t : TS} {N : List Str} {vs : List V} {Q : VK} (h : spT args pre out K vs H Q E) (hS : ∀ a, pre a → SS K t (mst N (args a)) [] (PretT (out a))) : t { nx := fun _ H' => Q .non H', rt := Q } (start N vs) H := by
  obtain ⟨a, hd, hp, q⟩ := h
  have S0 : SB K H (fun _ => none) H [] (mst N (args a)) [] [] (start N vs) [] H :=
    ⟨Same.refl H, Same.refl H, fun _ _ z => (by cases z), fun _ _ z => (by cases z), fun _ z => (by cases z), List.nodup_nil, rfl, fun _ _ _ z => (by cases z), start_ok hd, .nil⟩
  refine hS a hp H _ [] _ [] H _ ⟨_, _, S0⟩ ⟨fun m ow σ H' e _ => e.elim, fun k m ow σ x H' hr ⟨Hd, ps, S⟩ => ?_, fun _ _ _ _ z => z.elim, fun _ _ _ _ z => z.elim, fun _ z => (by cases z)⟩
  obtain ⟨n, qs, rfl, hn⟩ := hr
  obtain ⟨p, e1, rfl, e2, e3, e4, e5⟩ := S.ownT S.pop.1 hn
  have none_ : ∀ r, Hd r = none → H r = none ∧ port H Hd r = none := fun r hr => by
    constructor
    · cases z : H r with
      | none => rfl
      | some u => rw [S.eh _ _ z] at hr; cases hr
    · cases z : port H Hd r with
      | none => rfl
      | some o => rw [port_sub _ _ _ _ z] at hr; cases hr
  have nk := S.nk
  have nq : qs.Nodup := ((List.nodup_append.mp nk).2.1).sublist (kid_sub hn)
  exact q p qs _ (port H Hd) (S.eh.trans S.dh) ⟨S.sub, fun c o hc => (of_port hc).2⟩ ⟨(none_ p e2).1, (none_ p e2).2, e3, List.nodup_cons.mpr ⟨fun z => S.kidNe (List.mem_of_getElem? e1) (kids_mem hn z) rfl, nq⟩, fun q hq => none_ q (e4 q hq), e5⟩
/-- such a result is taken in: as one's own -/
theorem SB.resT (S : SB K He Fr Hd ps m ow ts σ xs H) (e : Same H H') (f : Frs H Hf H') (r : RsT K H H' Hf p qs lss) : SA K He Fr m (ow ++ [.tr qs lss]) (.own ow.length :: ts) σ (.ref p :: xs) H' := by
  obtain ⟨r1, r2, r3, r4, r5, r6⟩ := r
  obtain ⟨Hd', S', _, e2, e3⟩ := frs_ext S e f
  have new : ∀ x ∈ p :: qs, H x = none ∧ Hf x = none := fun x hx => by
    rcases List.mem_cons.mp hx with rfl | hx
    · exact ⟨r1, r2⟩
    · exact r5 x hx
  have nP : ∀ x ∈ p :: qs, x ∉ ps ++ kids ow := fun x hx h => by obtain ⟨o, w⟩ := S.inH h; rw [(new x hx).1] at w; cases w
  have ek : kids (ow ++ [OC.tr qs lss]) = kids ow ++ qs := by rw [kids_app, kids_one]; rfl
  refine ⟨Hd', ps ++ [p], S'.eh, S'.dh, S'.fh, S'.fd, fun x hx => ?_, ?_, ?_, fun n q c hq hc => ?_, L2.Paired.mapP S'.sv fun x k h => h.mono _ (Same.refl _) (Same.refl _), .cons ⟨p, ?_, rfl⟩ (L2.Paired.mapP S'.tv fun x k h => h.mono _ (Same.refl _) (Same.refl _))⟩
  · rw [ek] at hx
    rcases List.mem_append.mp hx with hx | hx
    · rcases List.mem_append.mp hx with hx | hx
      · exact S'.fp x hx
      · rw [List.mem_singleton.mp hx]; exact S.noF r1
    · rcases List.mem_append.mp hx with hx | hx
      · exact S'.fk x (List.mem_append_right _ hx)
      · exact S.noF (r5 x hx).1
  · rw [ek]
    have perm : ((ps ++ [p]) ++ (kids ow ++ qs)).Perm ((p :: qs) ++ (ps ++ kids ow)) := by
      have h1 : ((ps ++ [p]) ++ (kids ow ++ qs)).Perm (p :: (ps ++ (kids ow ++ qs))) := by rw [List.append_assoc]; exact List.perm_middle
      have h2 : (ps ++ (kids ow ++ qs)).Perm (qs ++ (ps ++ kids ow)) := by rw [← List.append_assoc]; exact List.perm_append_comm
      exact h1.trans (h2.cons p)
    refine perm.nodup_iff.mpr (List.nodup_append.mpr ⟨r4, S.nk, fun a ha b hb e => nP a ha (e ▸ hb)⟩)
  · rw [List.length_append, List.length_append, S'.pl]; rfl
  · by_cases hn : n < ps.length
    · rw [List.getElem?_append_left hn] at hq
      rw [List.getElem?_append_left (by rw [← S.pl]; exact hn)] at hc
      exact (S'.ok n q c hq hc).more [p]
    · have e : n = ps.length := by
        have := (List.getElem?_eq_some_iff.mp hq).1
        rw [List.length_append] at this
        simp at this
        omega
      subst e
      rw [List.getElem?_append_right (Nat.le_refl _)] at hq
      rw [S.pl, List.getElem?_append_right (Nat.le_refl _)] at hc
      simp at hq hc
      subst hq
      subst hc
      exact ⟨e3 p r1 r2, r3, fun q hq => e3 q (r5 q hq).1 (r5 q hq).2, L2.Paired.mapP r6 fun x k h => h.imp fun vs h => ⟨h.1, dpa_mono e2 h.2⟩⟩
  · rw [← S.pl, List.getElem?_append_right (Nat.le_refl _)]
    simp
/-- .. as data -/
theorem SB.resTd (S : SB K He Fr Hd ps m ow ts σ xs H) (e : Same H H') (f : Frs H Hf H') (r : RsT K H H' Hf p qs lss) : SA K He Fr m ow (.dat (.list (lss.map PyData.list)) :: ts) σ (.ref p :: xs) H' := by
  obtain ⟨r1, r2, r3, r4, r5, r6⟩ := r
  have inG : ∀ a o, (if a ∈ p :: qs then H' a else Hf a) = some o → (a ∈ p :: qs ∧ H' a = some o) ∨ Hf a = some o := fun a o h => by
    split at h
    · exact .inl ⟨by assumption, h⟩
    · exact .inr h
  obtain ⟨Hd', S', e1, e2, _⟩ := S.ext (Hf := fun a => if a ∈ p :: qs then H' a else Hf a) e (fun a o h => by
    rcases inG a o h with ⟨_, h⟩ | h
    · exact h
    · exact f.1 _ _ h) (fun a o h => by
    rcases inG a o h with ⟨ha, h⟩ | h
    · right
      rcases List.mem_cons.mp ha with rfl | ha
      · exact r1
      · exact (r5 a ha).1
    · exact f.2 _ _ h)
  have hin : ∀ a ∈ p :: qs, ∀ o, H' a = some o → port He Hd' a = some o := fun a ha o h => e2 a o (by show (if a ∈ p :: qs then H' a else Hf a) = _; rw [if_pos ha]; exact h)
  have sm : Same Hf (port He Hd') := fun a o h => by
    refine e2 a o ?_
    show (if a ∈ p :: qs then H' a else Hf a) = _
    split
    · exact f.1 _ _ h
    · exact h
  refine ⟨Hd', ps, S'.push (k := .dat _) (.lst (.inl (.inl (hin p (List.mem_cons_self ..) _ r3))) ?_)⟩
  have go : ∀ {qs' : List Addr} {lss' : List (List PyData)}, (∀ q ∈ qs', q ∈ qs) → Paired (fun q ds => ∃ vs, H' q = some (.lst vs) ∧ DpAll K Hf vs ds) qs' lss' → DpAll K (port He Hd') (qs'.map V.ref) (lss'.map PyData.list) := by
    intro qs' lss' hsub h
    induction h with
    | nil => exact .nil
    | @cons q ds qs' lss' h t ih =>
      obtain ⟨vs, h1, h2⟩ := h
      exact .cons (.lst (.inl (.inl (hin q (List.mem_cons_of_mem _ (hsub q (List.mem_cons_self ..))) _ h1))) (dpa_mono sm h2)) (ih fun q hq => hsub q (List.mem_cons_of_mem _ hq))
  exact go (fun _ h => h) r6
theorem ex_callT (a : α) (h : EA K ar m ow ks ow1) (ha : ads ow1 ks = some (args a)) (hp : pre a) : EX K (tCall (spT args pre out K) [] E ar) m ow (fun k ow' => ∃ qs, k = .own ow1.length ∧ ow' = ow1 ++ [.tr qs (out a)]) := fun He Fr ts σ xs H Q S q =>
  h He Fr ts σ xs H _ S fun ys H1 hl ⟨Hd, ps, S1⟩ => by
    obtain ⟨h1, S2⟩ := S1.args hl
    exact ⟨a, by rw [List.append_nil]; exact ads_ok S2 h1 ha, hp, fun p qs H' Hf e f r => q _ _ _ _ ⟨qs, rfl, rfl⟩ (S2.resT e f r)⟩
theorem ee_callT (a : α) (h : EA K ar m ow ks ow1) (ha : ads ow1 ks = some (args a)) (hp : pre a) : EE K (tCall (spT args pre out K) [] E ar) m ow (.dat (.list ((out a).map PyData.list))) ow1 := fun He Fr ts σ xs H Q S q =>
  h He Fr ts σ xs H _ S fun ys H1 hl ⟨Hd, ps, S1⟩ => by
    obtain ⟨h1, S2⟩ := S1.args hl
    exact ⟨a, by rw [List.append_nil]; exact ads_ok S2 h1 ha, hp, fun p qs H' Hf e f r => q _ _ (S2.resTd e f r)⟩
theorem ex_callNT {sel : List (Bool × Nat)} {mv : List V} {d1 d2 dm : List PyData} {n mm : Nat} (a : α) (h : EA K ar m ow ks1 ow1) (h2 : EA K tk m ow1 ks2 ow2) (a1 : ads ow2 ks1 = some d1) (a2 : ads ow2 ks2 = some d2) (hm : sdm mv = some dm) (e : gsel sel d1 dm d2 = args a) (hp : pre a) (l1 : ks1.length = n) (l2 : ks2.length = mm) :
    EX K (tCallN n mm (spT args pre out K) (fun vs zs => gsel sel vs mv zs) E ar tk) m ow (fun k ow' => ∃ qs, k = .own ow2.length ∧ ow' = ow2 ++ [.tr qs (out a)]) := fun He Fr ts σ xs H Q S q =>
  h He Fr ts σ xs H _ S fun ys H1 hl S1 => h2 He Fr _ σ _ H1 _ S1 fun zs H2 hl2 ⟨Hd, ps, S2⟩ => by
    obtain ⟨g1, g2, S3⟩ := args2 S2 hl hl2 a1 a2
    refine ⟨hl.trans l1, hl2.trans l2, a, ?_, hp, fun p qs H' Hf e f r => q _ _ _ _ ⟨qs, rfl, rfl⟩ (S3.resT e f r)⟩
    rw [← e]
    exact dpa_app g1 (dpa_sel (sdm_ok hm) g2 sel)
theorem ee_callNT {sel : List (Bool × Nat)} {mv : List V} {d1 d2 dm : List PyData} {n mm : Nat} (a : α) (h : EA K ar m ow ks1 ow1) (h2 : EA K tk m ow1 ks2 ow2) (a1 : ads ow2 ks1 = some d1) (a2 : ads ow2 ks2 = some d2) (hm : sdm mv = some dm) (e : gsel sel d1 dm d2 = args a) (hp : pre a) (l1 : ks1.length = n) (l2 : ks2.length = mm) :
    EE K (tCallN n mm (spT args pre out K) (fun vs zs => gsel sel vs mv zs) E ar tk) m ow (.dat (.list ((out a).map PyData.list))) ow2 := fun He Fr ts σ xs H Q S q =>
  h He Fr ts σ xs H _ S fun ys H1 hl S1 => h2 He Fr _ σ _ H1 _ S1 fun zs H2 hl2 ⟨Hd, ps, S2⟩ => by
    obtain ⟨g1, g2, S3⟩ := args2 S2 hl hl2 a1 a2
    refine ⟨hl.trans l1, hl2.trans l2, a, ?_, hp, fun p qs H' Hf e f r => q _ _ (S3.resTd e f r)⟩
    rw [← e]
    exact dpa_app g1 (dpa_sel (sdm_ok hm) g2 sel)
end
section
variable {P : Program} {w : World} {K : PySem.W.Frag} {mg : Str → Option Value} {base : Heap} {x qual : Str} {st : Stmt} {f : Addr} {fd : FuncData} {N ps : List Str} {k : Nat}
theorem ok_T {α : Type} {args : α → List PyData} {pre : α → Prop} {out : α → List (List PyData)} (F : Fun K x qual st f fd) (S : FnScope N ps (defScope st)) (hl : ∀ a, (args a).length = ps.length)
    (body : ∀ (cdv : Value) (A : Around) (outer : List Env) (s : Shared) (H : Hp) (E : XK), Rm k (A.deeper (envOfC qual (defScope st) s.heap.objs.size f cdv)) →
      ∃ t, PSs (cxOf CX0 P w K mg base N qual (defScope st) f cdv A outer s H E).nox (defBody st) t ∧ ∀ a, pre a → SS K t (mst N (args a)) [] (PretT (out a))) : FnG P w K mg base CX0 (k + 1) f fd ps (spT args pre out K) := by
  refine fnG_of F S (fun vs H Q E h => ?_) fun cdv A outer s H vs Q E hr h => ?_
  · obtain ⟨a, h1, _⟩ := h
    rw [dpa_len h1, hl]
  · obtain ⟨t, h1, h2⟩ := body cdv A outer s H E hr
    exact ⟨t, h1.nox, fin_T h h2⟩
end
end LD
namespace LD
open PySem PySem.Spec PyProof.Rows L2
theorem or_sinK {X : Cx} {w : World} (hw : X.w = w) : OpR X (compareOp .In) (rSIn w) := hw ▸ or_sin
theorem or_snotinK {X : Cx} {w : World} (hw : X.w = w) : OpR X (compareOp .NotIn) (rSNotIn w) := hw ▸ or_snotin
end LD

/-! Outcomes of argument lists; lists that hold objects of one's own. -/
namespace LD
open PySem PySem.Spec PyProof.Rows L2
def EXA (K : PySem.W.Frag) (ta : TA) (m : Env') (ow : List OC) (R : List Knd → List OC → Prop) : Prop := ∀ (He Fr : Hp) (ts : List Knd) (σ : L2.St) (xs : List V) (H : Hp) (Q : List V → Hp → Prop), SA K He Fr m ow ts σ xs H →
  (∀ ks ys H' ow', R ks ow' → ys.length = ks.length → SA K He Fr m ow' (ks.reverseAux ts) σ (ys.reverseAux xs) H' → Q ys H') → ta σ H Q
section
variable {K : PySem.W.Frag} {m : Env'} {ow ow1 : List OC} {k : Knd} {ks : List Knd} {te ti : TE} {ta : TA} {X Y : Knd → List OC → Prop} {R : List Knd → List OC → Prop} {P : Post} {i : Int} {n : Nat}
theorem exa_nil : EXA K tNil m ow (fun ks ow' => ks = [] ∧ ow' = ow) := fun He Fr ts σ xs H Q S q => q [] [] H ow ⟨rfl, rfl⟩ rfl S
theorem exa_cons (h : EX K te m ow X) (h2 : ∀ k ow1, X k ow1 → EXA K ta m ow1 (fun ks ow' => R (k :: ks) ow')) : EXA K (tCons te ta) m ow R := fun He Fr ts σ xs H Q S q =>
  h He Fr ts σ xs H _ S fun k ow1 x H1 hx S1 => h2 k ow1 hx He Fr _ σ _ H1 _ S1 fun ks ys H2 ow2 hr hl S2 => q (k :: ks) (x :: ys) H2 ow2 hr (by simp [hl]) S2
/-- [e, ..] of objects of one's own, too -/
theorem ex_lstG (h : EXA K ta m ow R) (hs : ∀ ks ow', R ks ow' → ks.length ≤ 1000) : EX K (tLst ta) m ow (fun k ow' => ∃ ks ow1, R ks ow1 ∧ k = .own ow1.length ∧ ow' = ow1 ++ [.gen (fun _ vs => HO.lst vs) ks]) := fun He Fr ts σ xs H Q S q =>
  h He Fr ts σ xs H _ S fun ks ys H1 ow1 hr hl ⟨Hd, ps, S1⟩ => by
    obtain ⟨h1, S2⟩ := S1.args hl
    have := hs ks ow1 hr
    refine ⟨by rw [hl, sizeLine_eq]; omega, fun p hp => q _ _ _ _ ⟨ks, ow1, hr, rfl, rfl⟩ ?_⟩
    have e : Same H1 (upd H1 p (.lst ys)) := fun a o z => by rw [upd_ne (ne_of_none z hp)]; exact z
    have nD : Hd p = none := by
      cases z : Hd p with
      | none => rfl
      | some o => rw [S2.dh _ _ z] at hp; cases hp
    have nP : p ∉ ps ++ kids ow1 := fun h => by obtain ⟨o, w⟩ := S2.inH h; rw [hp] at w; cases w
    exact ⟨Hd, _, (S2.grow e).pushC (c0 := .gen (fun _ vs => HO.lst vs) ks) (S2.noF hp) nP ⟨nD, ys, upd_same, rfl, h1⟩⟩
/-- xs[i] of such a list -/
theorem rr_ixG {j : Nat} (h : ow[n]? = some (.gen (fun _ vs => HO.lst vs) ks)) (hi : ixN ks.length i = some j) (hk : ks[j]? = some k) : RR K (rIxL K) m ow (.own n) (.v (.int i)) k ow := by
  rintro He Fr ts σ x y xs H Q ⟨Hd, ps, S⟩ q
  cases (show y = V.int i from S.pop.1)
  obtain ⟨p, vs, e1, rfl, e2, e3, _, e5⟩ := S.ownG S.pop.2.pop.1 h
  obtain ⟨z, g1, g2⟩ := prd_get e5 hk
  refine ⟨p, vs, i, z, rfl, rfl, .inl (.inl e3), ?_, q z H ⟨Hd, ps, S.pop.2.pop.2.push g2⟩⟩
  unfold atI
  rw [PySem.Paired.length e5, hi]
  exact g1
theorem ex_opG {r : R2} (h : EX K te m ow X) (hY : ∀ k ow1, X k ow1 → ∃ k2 k3 ow2 ow3, EE K ti m ow1 k2 ow2 ∧ RR K r m ow2 k k2 k3 ow3 ∧ Y k3 ow3) : EX K (tOp r te ti) m ow Y := fun He Fr ts σ xs H Q S q =>
  h He Fr ts σ xs H _ S fun k ow1 x H1 hx S1 => by
    obtain ⟨k2, k3, ow2, ow3, h2, h3, hy⟩ := hY k ow1 hx
    exact h2 He Fr _ σ _ H1 _ S1 fun y H2 S2 => h3 He Fr ts σ x y xs H2 Q S2 fun z H3 S3 => q k3 ow3 z H3 hy S3
theorem ss_retX (h : EX K te m ow X) (q : ∀ k ow', X k ow' → P.rt k ow') : SS K (tRet te) m ow P := fun He Fr ts σ xs H D S F =>
  h He Fr ts σ xs H _ S fun k ow1 x H1 hx S1 => F.rt _ _ _ _ _ _ (q k ow1 hx) S1
end
end LD

/-! Comprehensions with two fors. -/
namespace LD
open PySem PySem.Spec PyProof.Rows L2
section
variable {K : PySem.W.Frag} {He Fr Hd H : Hp} {ps : List Addr} {m : Env'} {ow ow1 : List OC} {ts : List Knd} {σ : L2.St} {xs : List V} {k : Knd} {tl tl1 te : TE} {tt tt1 : TT} {j j1 : Nat} {vs vs1 : List Nat} {fl fl1 : Bool} {α β : Type}
/-- what the inner clause of one turn asks -/
def Turn2 (K : PySem.W.Frag) (m : Env') (ow : List OC) (vs vs1 : List Nat) (j j1 : Nat) (tt : TT) (tl1 : TE) (tt1 : TT) (te : TE) (kx : α → Knd) (fl1 : Bool) (embb : β → PyData) (c : α → Bool) (bs : α → List β) (c1 : α → β → Bool) (f : α → β → PyData) (as : List α) : Prop :=
  ∀ a ∈ as, EB K tt ((wipeM m vs).set j (some (kx a))) ow (c a) ow ∧ (c a = true → (∃ k1, EE K tl1 ((wipeM m vs).set j (some (kx a))) ow k1 ow ∧ seqOf ow k1 = some (fl1, (bs a).map embb)) ∧
    Turn1 K ((wipeM m vs).set j (some (kx a))) ow vs1 j1 tt1 te (fun b => ek fl1 (embb b)) (c1 a) (f a) (bs a))
theorem filt_le {γ : Type} (p : γ → Bool) (g : γ → PyData) (l : List γ) (i : Nat) : (((l.take i).filter p).map g).length ≤ ((l.filter p).map g).length := by
  rw [List.length_map, List.length_map]
  exact ((List.take_sublist i l).filter p).length_le
theorem lc_turn2 {D : Addr} {ds : List PyData} {a : α} {x : V} {kx : α → Knd} {embb : β → PyData} {as : List α} {c : α → Bool} {bs : α → List β} {c1 : α → β → Bool} {f : α → β → PyData} {Nx : Hp → Prop} (hj : j ∈ vs) (hj1 : j1 ∈ vs1) (hF : Fr D = none)
    (hT : Turn2 K m ow vs vs1 j j1 tt tl1 tt1 te kx fl1 embb c bs c1 f as) (ha : a ∈ as) (hz : c a = true → (ds ++ ((bs a).filter (c1 a)).map (f a)).length < 10000000)
    (hx : ∀ Hd ps, SB K He Fr Hd ps m ow ts σ xs (hid H D) → KOk K (port He Hd) Hd ps x (kx a))
    (S : SoFar K He Fr m ow ts σ xs D ds H) (q : ∀ H', SoFar K He Fr m ow ts σ xs D (if c a = true then ds ++ ((bs a).filter (c1 a)).map (f a) else ds) H' → Nx H') :
    gName j x (wipe σ vs) H fun σ2 H2 => wipe σ2 vs = wipe σ vs ∧ tt σ2 H2 fun b H3 => if b = true then iList K tl1 σ2 H3 fun J1 H4 => ∃ W1 : Nat → Nat → Hp → Prop, (∃ m, W1 0 m H4) ∧ ∀ i k H, W1 i k H →
      (J1.stop i H ∧ Nx H) ∨ (J1.go i H ∧ ∃ Nx1 : Hp → Prop, (∀ H', Nx1 H' → ∃ k', k' < k ∧ W1 (i + 1) k' H') ∧ ∀ x H', J1.yld i H x H' → gName j1 x (wipe σ2 vs1) H' fun σ3 H5 => wipe σ3 vs1 = wipe σ2 vs1 ∧ tt1 σ3 H5 fun b H6 =>
        if b = true then te σ3 H6 fun y H7 => ∃ acc, H7 D = some (.lst acc) ∧ acc.length < sizeLine ∧ Nx1 (upd H7 D (.lst (acc ++ [y]))) else Nx1 H6) else Nx H3 := by
  obtain ⟨Hd, ps, acc, hD, S, hacc⟩ := S
  obtain ⟨zs, hz1, hz2⟩ := hold S.sv
  have hx := hx Hd ps S
  have S1 := (S.lock hD rfl).tvs (prd_app (dpa_prd (ps := ps) hacc) (prd_app hz1 S.tv))
  have lz := PySem.Paired.length hz1
  have la := dpa_len hacc
  have S2 := (S1.wipe vs).store hx j
  obtain ⟨ht, he⟩ := hT a ha
  refine ⟨wipe_again σ vs j _ hj, ht He _ _ _ _ _ _ ⟨_, _, S2⟩ fun H3 ⟨Hd3, ps3, S3⟩ => ?_⟩
  cases hc : c a with
  | false =>
    rw [if_neg Bool.false_ne_true]
    refine q _ ?_
    rw [hc, if_neg Bool.false_ne_true]
    obtain ⟨e, S5⟩ := S3.unlock hF
    obtain ⟨t1, t2⟩ := prd_split (by rw [List.length_map]; exact la) S5.tv
    obtain ⟨t3, t4⟩ := prd_split lz t2
    exact ⟨_, _, acc, e, (S5.svs (hz2 _ _ _ t3)).tvs t4, of_dpa_prd t1⟩
  | true =>
    rw [if_pos rfl]
    obtain ⟨⟨k1, hl1, hs1⟩, hT1⟩ := he hc
    have hz := hz hc
    refine hl1 He _ _ _ _ H3 _ ⟨_, _, S3⟩ fun x1 H4 ⟨Hd4, ps4, S4⟩ => ?_
    obtain ⟨p, us, rfl, hsq, _⟩ := seq_ok S4 S4.pop.1 hs1
    refine ⟨p, rfl, ⟨us, hsq⟩, ?_⟩
    have back : SoFar K He Fr ((wipeM m vs).set j (some (kx a))) ow (k1 :: (known m ++ ts)) ((wipe σ vs).set j (some x)) (.ref p :: (zs ++ xs)) D ds H4 := by
      obtain ⟨e, S5⟩ := S4.unlock hF
      obtain ⟨h1, S6⟩ := S5.pop
      obtain ⟨t1, t2⟩ := prd_split (by rw [List.length_map]; exact la) S6.tv
      exact ⟨_, _, acc, e, S6.tvs (.cons h1 t2), of_dpa_prd t1⟩
    refine ⟨fun i n H => n = (bs a).length - i ∧ i ≤ (bs a).length ∧ SoFar K He Fr ((wipeM m vs).set j (some (kx a))) ow (k1 :: (known m ++ ts)) ((wipe σ vs).set j (some x)) (.ref p :: (zs ++ xs)) D (ds ++ (((bs a).take i).filter (c1 a)).map (f a)) H, ⟨_, rfl, Nat.zero_le _, by rw [List.take_zero]; simpa using back⟩, ?_⟩
    rintro i n H5 ⟨rfl, hi, S5⟩
    obtain ⟨Hd6, ps6, acc6, e1, S6, e2⟩ := id S5
    obtain ⟨p2, us2, e, hsq2, hd2⟩ := seq_ok S6 S6.pop.1 hs1
    cases e
    have hsq2 := (hid_sub H5 D).seq hsq2
    have hlen : us2.length = (bs a).length := by rw [dpa_len hd2, List.length_map]
    by_cases hlt : i < (bs a).length
    · have hb : (bs a)[i]? = some (bs a)[i] := List.getElem?_eq_getElem hlt
      refine .inr ⟨⟨us2, us2[i]'(by omega), hsq2, List.getElem?_eq_getElem (by omega)⟩, _, fun H' h => ⟨(bs a).length - (i + 1), by omega, rfl, hlt, h⟩, fun x H' hy => ?_⟩
      obtain ⟨rfl, hy⟩ := hy
      refine lc_turn (a := (bs a)[i]) (kx := fun b => ek fl1 (embb b)) hj1 hF hT1 (List.getElem_mem hlt) ?_ (fun Hd4 ps4 S4 => ?_) S5 fun H' h => ?_
      · refine Nat.lt_of_le_of_lt ?_ hz
        rw [List.length_append, List.length_append]
        exact Nat.add_le_add_left (filt_le _ _ _ _) _
      · obtain ⟨p4, us4, e, hsq4, hd4⟩ := seq_ok S4 S4.pop.1 hs1
        cases e
        have hx := hy us4 ((hid_sub H' D).seq hsq4)
        obtain ⟨d, h1, h2⟩ := dpa_at hd4 hx
        rw [List.getElem?_map, hb] at h1
        cases h1
        exact ek_ok h2
      · have e3 := filt_step (c := c1 a) (f := f a) hb
        by_cases hc2 : c1 a (bs a)[i] = true
        · rw [if_pos hc2] at h e3
          rw [e3, ← List.append_assoc]; exact h
        · rw [if_neg hc2] at h e3
          rw [e3]; exact h
    · have e : i = (bs a).length := by omega
      subst e
      refine .inl ⟨⟨us2, hsq2, by omega⟩, q _ ?_⟩
      rw [hc, if_pos rfl]
      rw [List.take_length] at S5
      obtain ⟨Hd7, ps7, acc7, f1, S7, f2⟩ := S5
      obtain ⟨t3, t4⟩ := prd_split lz S7.pop.2.tv
      exact ⟨Hd7, ps7, acc7, f1, (S7.pop.2.svs (hz2 _ _ _ t3)).tvs t4, f2⟩
theorem filt2_step {γ : Type} {as : List γ} {c : γ → Bool} {g : γ → List PyData} {i : Nat} {a : γ} (h : as[i]? = some a) : ((as.take (i + 1)).filter c).flatMap g = if c a = true then ((as.take i).filter c).flatMap g ++ g a else ((as.take i).filter c).flatMap g := by
  rw [List.take_add_one, h]
  show ((as.take i ++ [a]).filter c).flatMap g = _
  rw [List.filter_append, List.flatMap_append]
  cases hc : c a <;> simp [hc]
theorem filt2_le {γ : Type} (c : γ → Bool) (g : γ → List PyData) (l : List γ) (i : Nat) : (((l.take i).filter c).flatMap g).length ≤ ((l.filter c).flatMap g).length := by
  have : l.filter c = (l.take i).filter c ++ (l.drop i).filter c := by rw [← List.filter_append, List.take_append_drop]
  rw [this, List.flatMap_append, List.length_append]
  omega
/-- [e for x in xs if t for y in ys if u] -/
theorem ee_lc2 (b : Bool) (as : List α) (emb : α → PyData) (c : α → Bool) (embb : β → PyData) (bs : α → List β) (c1 : α → β → Bool) (f : α → β → PyData) (hl : EE K tl m ow k ow1) (hs : seqOf ow1 k = some (fl, as.map emb))
    (hT : Turn2 K m ow1 vs vs1 j j1 tt tl1 tt1 te (fun a => ek fl (emb a)) fl1 embb c bs c1 f as) (hj : j ∈ vs) (hj1 : j1 ∈ vs1) (hz : ((as.filter c).flatMap fun a => ((bs a).filter (c1 a)).map (f a)).length < 10000000) :
    EE K (tLc2 (iList K tl) (gName j) tt (iList K tl1) (gName j1) tt1 te vs vs1) m ow (newK b ow1 ((as.filter c).flatMap fun a => ((bs a).filter (c1 a)).map (f a))) (newO b ow1 ((as.filter c).flatMap fun a => ((bs a).filter (c1 a)).map (f a))) := fun He Fr ts σ xs H Q S q =>
  hl He Fr ts σ xs H _ S fun x H1 ⟨Hd, ps, S1⟩ => by
    obtain ⟨p, us, rfl, hsq, _⟩ := seq_ok S1 S1.pop.1 hs
    refine ⟨p, rfl, ⟨us, hsq⟩, fun D hD => ?_⟩
    have hF := S1.noF hD
    refine ⟨fun i n H => n = as.length - i ∧ i ≤ as.length ∧ SoFar K He Fr m ow1 (k :: ts) σ (.ref p :: xs) D (((as.take i).filter c).flatMap fun a => ((bs a).filter (c1 a)).map (f a)) H, ⟨_, rfl, Nat.zero_le _, lc_begin S1 hD⟩, ?_⟩
    rintro i n H2 ⟨rfl, hi, S2⟩
    obtain ⟨Hd2, ps2, acc, e1, S3, e2⟩ := id S2
    obtain ⟨p2, us2, e, hsq2, hd2⟩ := seq_ok S3 S3.pop.1 hs
    cases e
    have hsq2 := (hid_sub H2 D).seq hsq2
    have hlen : us2.length = as.length := by rw [dpa_len hd2, List.length_map]
    by_cases hlt : i < as.length
    · have ha : as[i]? = some as[i] := List.getElem?_eq_getElem hlt
      have e3 := filt2_step (c := c) (g := fun a => ((bs a).filter (c1 a)).map (f a)) ha
      refine .inr ⟨⟨us2, us2[i]'(by omega), hsq2, List.getElem?_eq_getElem (by omega)⟩, _, fun H' h => ⟨as.length - (i + 1), by omega, rfl, hlt, h⟩, fun x H' hy => ?_⟩
      obtain ⟨rfl, hy⟩ := hy
      refine lc_turn2 (a := as[i]) hj hj1 hF hT (List.getElem_mem hlt) (fun hc => ?_) (fun Hd4 ps4 S4 => ?_) S2 fun H' h => ?_
      · rw [if_pos hc] at e3
        rw [← e3]
        exact Nat.lt_of_le_of_lt (filt2_le _ _ _ _) hz
      · obtain ⟨p4, us4, e, hsq4, hd4⟩ := seq_ok S4 S4.pop.1 hs
        cases e
        have hx := hy us4 ((hid_sub H' D).seq hsq4)
        obtain ⟨d, h1, h2⟩ := dpa_at hd4 hx
        rw [List.getElem?_map, ha] at h1
        cases h1
        exact ek_ok h2
      · rw [e3]; exact h
    · have e : i = as.length := by omega
      subst e
      refine .inl ⟨⟨us2, hsq2, by omega⟩, q _ _ ?_⟩
      rw [List.take_length] at S2
      obtain ⟨Hd5, ps5, S5⟩ := lc_end b S2
      obtain ⟨h1, h2⟩ := S5.pop
      exact ⟨Hd5, ps5, h2.pop.2.push h1⟩
end
end LD

/-! Lists that hold dicts and lists of one's own: repr, handed out by defs. -/
namespace LD
open PySem PySem.Spec PyProof.Rows L2
theorem prd_comp {α β γ : Type} {F : α → β → Prop} {G : β → γ → Prop} {R : α → γ → Prop} (f : ∀ x y z, F x y → G y z → R x z) : ∀ {xs : List α} {ys : List β} {zs : List γ}, Paired F xs ys → Paired G ys zs → Paired R xs zs
  | _, _, _, .nil, .nil => .nil
  | _, _, _, .cons a t, .cons b u => .cons (f _ _ _ a b) (prd_comp f t u)
section
variable {prog : Program} {w : World} {h₀ : Heap}
/-- read, and shown if it can be -/
def RdNo (prog : Program) (w : World) (h₀ : Heap) (u : Value) (d : PyData) : Prop := d.showable = true → d.shown.length ≤ sizeLine → ∃ as bs, Reads h₀ u d as ∧ ReadAtMost h₀ d.depth bs ∧ ReprK prog w bs h₀ d.depth u d.shown
theorem reprs_of : ∀ {us : List Value} {ds : List PyData}, Paired (RdNo prog w h₀) us ds → PyData.showableAll ds = true → (∀ t ∈ PyData.shownAll ds, t.length ≤ sizeLine) →
    (∃ as, ReadsAll h₀ us ds as) ∧ ∃ bs, ReadAtMost h₀ (PyData.depthAll ds) bs ∧ ReprAllK prog w bs h₀ (PyData.depthAll ds) us (PyData.shownAll ds)
  | _, _, .nil, _, _ => ⟨⟨[], .nil⟩, [], (fun _ h => nomatch h), by simp only [PyData.shownAll]; exact .nil⟩
  | _, _, .cons hn t, hs, hz => by
    rw [PyData.showableAll, Bool.and_eq_true] at hs
    obtain ⟨as, b1, r, hb1, k1⟩ := hn hs.1 (hz _ (by simp only [PyData.shownAll]; exact List.mem_cons_self ..))
    obtain ⟨⟨as2, r2⟩, b2, hb2, k2⟩ := reprs_of t hs.2 (fun t ht => hz t (by simp only [PyData.shownAll]; exact List.mem_cons_of_mem _ ht))
    refine ⟨⟨_, .cons r r2⟩, b1 ++ b2, ?_, ?_⟩
    · simp only [PyData.depthAll]
      exact (hb1.mono (Nat.le_max_left _ _)).append (hb2.mono (Nat.le_max_right _ _))
    · simp only [PyData.depthAll, PyData.shownAll]
      exact .cons ((k1.more fun b hb => List.mem_append_left _ hb).level_le (Nat.le_max_left _ _)) (k2.more_le (fun b hb => List.mem_append_right _ hb) (Nat.le_max_right _ _))
end
/-- data, or a dict with plain values -/
def HRd (K : PySem.W.Frag) (H : Hp) (x : V) (d : PyData) : Prop := Dp K H x d ∨ ∃ (a : Addr) (vs : List (Key × V)) (kvs : List (Key × PyData)), x = .ref a ∧ Rd H a (.dK vs) ∧ KP K H vs kvs ∧ (∀ kv ∈ kvs, imm kv.2 = true) ∧ d = dicP kvs
def rRpN (K : PySem.W.Frag) : List V → Hp → VK → Prop := fun xs H Q => ∃ (a : Addr) (vs : List V) (ds : List PyData), xs = [.ref a] ∧ H a = some (.lst vs) ∧ Paired (HRd K H) vs ds ∧ repOk (.list ds) ∧ Q (.str (PyData.list ds).shown) H
section
variable {X : Cx} {pins : List (Addr × Obj)} {σ : L2.St} {H : Hp} {s : Shared}
theorem hrd_no (I : Inv X pins σ H s) {x : V} {u : Value} {d : PyData} (r : RelV x u) (h : HRd X.K H x d) : RdNo X.prog X.w s.heap u d := by
  intro hs hz
  rcases h with h | ⟨a, vs, kvs, rfl, hr, hk, hi, rfl⟩
  · exact dp_repr I d h r hs hz
  · cases (show u = Value.ref a from r)
    obtain ⟨_, ns, ws, kv, o, es, ep, g1, g2, g3, _, g5, _⟩ := dk_rd I.hok hr
    obtain ⟨ra, rb⟩ := dict_reads I hk kv g5 hi
    have hm1 : (kvs.map pairD).map (·.1) = kvs.map fun kv => kD kv.1 := by rw [List.map_map]; rfl
    have hm2 : (kvs.map pairD).map (·.2) = kvs.map (·.2) := by rw [List.map_map]; rfl
    have rd : Reads s.heap (.ref a) (dicP kvs) (a :: [] ++ []) := .dict g1 g2.1 g3 (hm1 ▸ ra) (hm2 ▸ rb)
    have hno : sysModules ∉ a :: [] ++ [] := fun z => by
      have z : sysModules = a := by simpa using z
      rw [← z] at ns
      exact absurd ns (by simp)
    obtain ⟨bs, b1, b2⟩ := ReprK.of_reads (prog := X.prog) (w := X.w) rd hs (fun _ => hno) hz
    exact ⟨_, bs, rd, b1, b2⟩
theorem hrds_no (I : Inv X pins σ H s) : ∀ {xs : List V} {us : List Value} {ds : List PyData}, Vals xs us → Paired (HRd X.K H) xs ds → Paired (RdNo X.prog X.w s.heap) us ds
  | _, _, _, .nil, .nil => .nil
  | _, _, _, .cons r t, .cons h u => .cons (hrd_no I r h) (hrds_no I t u)
end
theorem call_rpN {X : Cx} (hg : X.A.guards = some []) (hu : X.A.units + 64 < cLine) : CallR X (.builtin "repr") (rRpN X.K) := by
  intro pins s σ H xs us Q I r h
  obtain ⟨a, vs, ds, rfl, hl, hp, ⟨h1, h2, h3⟩, q⟩ := h
  obtain ⟨u, rfl, ru⟩ := vals1 r
  cases (show u = Value.ref a from ru)
  obtain ⟨z, its, n, rv, hlen, e⟩ := I.lstM hl
  have hp2 := hrds_no I rv hp
  simp only [PyData.shown] at h2 q
  obtain ⟨⟨as, ra⟩, bs, hb, hk⟩ := reprs_of (prog := X.prog) (w := X.w) hp2 (by simpa [PyData.showable] using h1) (fun t ht => Nat.le_trans (PySem.listText_mem_le ht) h2)
  have r0 : Reads s.heap (.ref a) (.list ds) (a :: as) := .list e rfl rfl (by simpa using ra)
  have hna : a ∉ bs := not_mem_of_deeper r0 (by simp only [PyData.depth]; omega) hb
  simp only [PyData.depth] at h3
  refine call_repr_slot (T := "list") (by omega) ⟨_, e, rfl⟩ F.slot_list_repr.toG ?_
  cases its with
  | nil =>
    cases ra
    simp only [PyData.shownAll, listText_nil] at q
    exact call_list_repr_empty ⟨_, e, rfl⟩ e rfl ⟨_, _, rfl, .str _, H, I.tok _, ⟨_, rfl⟩, q⟩
  | cons x l => exact call_list_reprK e rfl rfl hna (by simpa using hk.length_eq) (fun i y e => hk.item i y (by simpa using e)) hg (fun b _ => Clear.nil b) (by show X.A.units + 1 + (PyData.depthAll ds + 1) < cLine; omega) (fun _ _ e => e) (fun h' u tk hk => ⟨_, _, rfl, .str _, H, I.kept hk, ⟨_, rfl⟩, q⟩) h2
theorem call_rpNK {K : PySem.W.Frag} {X : Cx} (hK : X.K = K) (hg : X.A.guards = some []) (hu : X.A.units + 64 < cLine) : CallR X (.builtin "repr") (rRpN K) := hK ▸ call_rpN hg hu
section
variable {K : PySem.W.Frag} {He Fr Hd H H' Hf : Hp} {ps : List Addr} {m : Env'} {ow ow1 ow2 : List OC} {ts ks ks1 ks2 : List Knd} {σ : L2.St} {xs : List V} {k : Knd} {n : Nat} {d : PyData} {ds : List PyData} {kvs : List (Key × PyData)}
def NdOk (ow : List OC) (k : Knd) (d : PyData) : Prop := ad ow k = some d ∨ ∃ kvs, dicOf ow k = some kvs ∧ (∀ kv ∈ kvs, imm kv.2 = true) ∧ d = dicP kvs
theorem nd_dic (h : dicOf ow k = some kvs) (hi : ∀ kv ∈ kvs, imm kv.2 = true) : NdOk ow k (dicP kvs) := .inr ⟨kvs, h, hi, rfl⟩
theorem nd_ad (h : ad ow k = some d) : NdOk ow k d := .inl h
theorem cc_reprN (h : ow[n]? = some (.gen (fun _ vs => HO.lst vs) ks)) (hk : Paired (NdOk ow) ks ds) (hr : repOk (.list ds)) : CC K (rRpN K) m ow [.own n] (.v (.str (PyData.list ds).shown)) ow := by
  rintro He Fr ts σ ys xs H Q hl ⟨Hd, ps, S⟩ q
  obtain ⟨y, rfl⟩ := one hl
  obtain ⟨p, vs, e1, rfl, e2, e3, _, e5⟩ := S.ownG S.pop.1 h
  refine ⟨p, vs, ds, rfl, e3, prd_comp (fun x k d hx hd => ?_) e5 hk, hr, q _ H ⟨Hd, ps, S.pop.2.push rfl⟩⟩
  rcases hd with hd | ⟨kvs, h1, h2, rfl⟩
  · exact .inl (ad_ok S hx hd)
  · obtain ⟨p, vs, rfl, g1, g2⟩ := dic_ok S hx h1
    exact .inr ⟨p, vs, kvs, rfl, g1, kp_mono S.sub g2, h2, rfl⟩
end
/-! ### defs that hand out new lists and dicts, one within the other -/
def renK (f : Nat → Nat) : Knd → Knd
  | .own j => .own (f j)
  | .v x => .v x
  | .arg d => .arg d
  | .dat d => .dat d
def renC (f : Nat → Nat) : OC → OC
  | .gen φ ks => .gen φ (ks.map (renK f))
  | c => c
def inK (n : Nat) : Knd → Prop
  | .own j => j < n
  | .v _ => True
  | _ => False
def okG (n : Nat) : OC → Prop
  | .lst _ => True
  | .dic _ => True
  | .gen _ ks => ∀ k ∈ ks, inK n k
  | _ => False
theorem okG_kid {n : Nat} {c : OC} (h : okG n c) (f : Nat → Nat) : kidC (renC f c) = [] := by cases c <;> first | rfl | exact h.elim
def GOk (K : PySem.W.Frag) (Hf : Hp) (qs : List Addr) (H' : Hp) (p : Addr) : OC → Prop
  | .lst ds => ∃ vs, H' p = some (.lst vs) ∧ DpAll K Hf vs ds
  | .dic kvs => ∃ vs, H' p = some (.dK vs) ∧ KP K Hf vs kvs
  | .gen φ ks => ∃ vs, H' p = some (φ p vs) ∧ tupy (φ p vs) = false ∧ Paired (fun x k => match k with | .own j => ∃ q, qs[j]? = some q ∧ x = .ref q | .v y => x = y | _ => False) vs ks
  | _ => False
def RsG (K : PySem.W.Frag) (H H' Hf : Hp) (qs : List Addr) (cs : List OC) : Prop :=
  qs.length = cs.length ∧ qs.Nodup ∧ (∀ q ∈ qs, H q = none ∧ Hf q = none) ∧ (∀ c ∈ cs, okG cs.length c) ∧ ∀ (n : Nat) (p : Addr) (c : OC), qs[n]? = some p → cs[n]? = some c → GOk K Hf qs H' p c
def spG {α : Type} (args : α → List PyData) (pre : α → Prop) (out : α → List OC) (K : PySem.W.Frag) : Sp := fun vs H Q _ => ∃ a, DpAll K H vs (args a) ∧ pre a ∧ ∀ p qs H' Hf, Same H H' → Frs H Hf H' → qs[(out a).length - 1]? = some p → RsG K H H' Hf qs (out a) → Q (.ref p) H'
def PretG (cs : List OC) : Post := { nx := fun _ _ => False, rt := fun k ow => ∃ js : List Nat, js.Nodup ∧ js.length = cs.length ∧ (∃ r, js[cs.length - 1]? = some r ∧ k = .own r) ∧ (∀ c ∈ cs, okG cs.length c) ∧ ∀ (i j : Nat) (c : OC), js[i]? = some j → cs[i]? = some c → ow[j]? = some (renC (fun x => js.getD x 0) c) }
theorem nd_at {α : Type} : ∀ {l : List α}, l.Nodup → ∀ {i j : Nat} {p : α}, l[i]? = some p → l[j]? = some p → i = j
  | [], _, _, _, _, h, _ => by cases h
  | a :: r, _, 0, 0, _, _, _ => rfl
  | a :: r, h, 0, j + 1, _, h1, h2 => by cases h1; exact absurd (List.mem_of_getElem? (l := r) (i := j) h2) (List.nodup_cons.mp h).1
  | a :: r, h, i + 1, 0, _, h1, h2 => by cases h2; exact absurd (List.mem_of_getElem? (l := r) (i := i) h1) (List.nodup_cons.mp h).1
  | a :: r, h, i + 1, j + 1, _, h1, h2 => by rw [nd_at (List.nodup_cons.mp h).2 (i := i) (j := j) h1 h2]
theorem nd_inj {α : Type} : ∀ {l : List α}, (∀ (i j : Nat) (p : α), l[i]? = some p → l[j]? = some p → i = j) → l.Nodup
  | [], _ => List.nodup_nil
  | a :: r, h => List.nodup_cons.mpr ⟨fun hm => by
      obtain ⟨i, hi⟩ := List.mem_iff_getElem?.mp hm
      have := h 0 (i + 1) a rfl hi
      omega, nd_inj fun i j p h1 h2 => by
      have := h (i + 1) (j + 1) p h1 h2
      omega⟩
section
variable {K : PySem.W.Frag} {He Fr Hd H H' Hf : Hp} {ps : List Addr} {m : Env'} {ow ow1 ow2 cs : List OC} {ts ks ks1 ks2 : List Knd} {σ : L2.St} {xs : List V} {α : Type} {args : α → List PyData} {pre : α → Prop} {out : α → List OC} {ar tk : TA} {E : XK} {p : Addr} {qs : List Addr}
theorem fin_G {t : TS} {N : List Str} {vs : List V} {Q : VK} (h : spG args pre out K vs H Q E) (hS : ∀ a, pre a → SS K t (mst N (args a)) [] (PretG (out a))) : t { nx := fun _ H' => Q .non H', rt := Q } (start N vs) H := by
  obtain ⟨a, hd, hp, q⟩ := h
  have S0 : SB K H (fun _ => none) H [] (mst N (args a)) [] [] (start N vs) [] H :=
    ⟨Same.refl H, Same.refl H, fun _ _ z => (by cases z), fun _ _ z => (by cases z), fun _ z => (by cases z), List.nodup_nil, rfl, fun _ _ _ z => (by cases z), start_ok hd, .nil⟩
  refine hS a hp H _ [] _ [] H _ ⟨_, _, S0⟩ ⟨fun m ow σ H' e _ => e.elim, fun k m ow σ x H' hr ⟨Hd, ps, S⟩ => ?_, fun _ _ _ _ z => z.elim, fun _ _ _ _ z => z.elim, fun _ z => (by cases z)⟩
  obtain ⟨js, hnd, hlen, ⟨r, hr, rfl⟩, hokg, hj⟩ := hr
  have none_ : ∀ r, Hd r = none → H r = none ∧ port H Hd r = none := fun r hr => by
    constructor
    · cases z : H r with
      | none => rfl
      | some u => rw [S.eh _ _ z] at hr; cases hr
    · cases z : port H Hd r with
      | none => rfl
      | some o => rw [port_sub _ _ _ _ z] at hr; cases hr
  have spot : ∀ {i j : Nat}, js[i]? = some j → ∃ c p, (out a)[i]? = some c ∧ ow[j]? = some (renC (fun x => js.getD x 0) c) ∧ ps[j]? = some p := fun {i j} h => by
    have hi : i < (out a).length := by rw [← hlen]; exact (List.getElem?_eq_some_iff.mp h).1
    have hc := hj i j _ h (List.getElem?_eq_getElem hi)
    have hl : j < ps.length := by rw [S.pl]; exact (List.getElem?_eq_some_iff.mp hc).1
    exact ⟨_, _, List.getElem?_eq_getElem hi, hc, List.getElem?_eq_getElem hl⟩
  let qs : List Addr := js.map fun j => (ps[j]?).getD 0
  have qat : ∀ {i j : Nat} {p : Addr}, js[i]? = some j → ps[j]? = some p → qs[i]? = some p := fun {i j p} h1 h2 => by
    show (js.map fun j => (ps[j]?).getD 0)[i]? = _
    rw [List.getElem?_map, h1]
    show some ((ps[j]?).getD 0) = _
    rw [h2]; rfl
  have qof : ∀ {i : Nat} {p : Addr}, qs[i]? = some p → ∃ j c, js[i]? = some j ∧ ps[j]? = some p ∧ (out a)[i]? = some c ∧ ow[j]? = some (renC (fun x => js.getD x 0) c) := fun {i p} h => by
    have h : (js.map fun j => (ps[j]?).getD 0)[i]? = some p := h
    rw [List.getElem?_map] at h
    obtain ⟨j, h1, h2⟩ := Option.map_eq_some_iff.mp h
    obtain ⟨c, p', g1, g2, g3⟩ := spot h1
    rw [g3] at h2
    exact ⟨j, c, h1, by rw [g3]; exact congrArg some h2, g1, g2⟩
  have pnd : ps.Nodup := (List.nodup_append.mp S.nk).1
  have free : ∀ {i : Nat} {p : Addr}, qs[i]? = some p → Hd p = none := fun {i p} h => by
    obtain ⟨j, c, h1, h2, h3, h4⟩ := qof h
    have q := S.ok j p _ h2 h4
    have hg := hokg c (List.mem_of_getElem? h3)
    cases c with
    | lst _ => exact q.1
    | dic _ => exact q.1
    | gen _ _ => exact q.1
    | ldic _ _ _ => exact hg.elim
    | tpl _ => exact hg.elim
    | tr _ _ => exact hg.elim
    | jl _ => exact hg.elim
    | dead => exact hg.elim
  obtain ⟨c, p, g1, g2, g3⟩ := spot hr
  obtain ⟨p', hp', ex⟩ := S.pop.1
  rw [g3] at hp'
  cases hp'
  subst ex
  refine q p qs _ (port H Hd) (S.eh.trans S.dh) ⟨S.sub, fun c o hc => (of_port hc).2⟩ (qat hr g3) ⟨by show (js.map _).length = _; rw [List.length_map, hlen], nd_inj fun i i' p h1 h2 => ?_, fun q hq => ?_, hokg, fun n p c h1 h2 => ?_⟩
  · obtain ⟨j, c, a1, a2, _, _⟩ := qof h1
    obtain ⟨j', c', b1, b2, _, _⟩ := qof h2
    have := nd_at pnd a2 b2
    subst this
    exact nd_at hnd a1 b1
  · obtain ⟨i, hi⟩ := List.mem_iff_getElem?.mp hq
    exact none_ q (free hi)
  · obtain ⟨j, c', a1, a2, a3, a4⟩ := qof h1
    rw [h2] at a3
    cases a3
    have q := S.ok j p _ a2 a4
    have hg := hokg c (List.mem_of_getElem? h2)
    cases c with
    | lst _ => exact q.2
    | dic _ => exact q.2
    | gen φ ks =>
      obtain ⟨_, vs, e1, e2, e3⟩ := q
      refine ⟨vs, e1, e2, ?_⟩
      have go : ∀ {vs : List V} {ks : List Knd}, (∀ k ∈ ks, inK (out a).length k) → Paired (KOk K (port H Hd) Hd ps) vs (ks.map (renK fun x => js.getD x 0)) → Paired (fun x k => match k with | .own j => ∃ q, qs[j]? = some q ∧ x = .ref q | .v y => x = y | _ => False) vs ks := by
        intro vs ks hin hp
        induction ks generalizing vs with
        | nil => cases hp; exact .nil
        | cons k ks ih =>
          cases hp with
          | cons h t =>
          refine .cons ?_ (ih (fun k hk => hin k (List.mem_cons_of_mem _ hk)) t)
          have hk := hin k (List.mem_cons_self ..)
          cases k with
          | own i =>
            obtain ⟨r, hr, hx⟩ := h
            have hi : i < js.length := by rw [hlen]; exact hk
            have e : js[i]? = some js[i] := List.getElem?_eq_getElem hi
            have hr : ps[js.getD i 0]? = some r := hr
            rw [List.getD_eq_getElem?_getD, e] at hr
            exact ⟨r, qat e hr, hx⟩
          | v y => exact h
          | arg _ => exact hk.elim
          | dat _ => exact hk.elim
      exact go hg e3
    | ldic _ _ _ => exact hg.elim
    | tpl _ => exact hg.elim
    | tr _ _ => exact hg.elim
    | jl _ => exact hg.elim
    | dead => exact hg.elim
theorem SB.resG (S : SB K He Fr Hd ps m ow ts σ xs H) (e : Same H H') (f : Frs H Hf H') (hp : qs[cs.length - 1]? = some p) (r : RsG K H H' Hf qs cs) : SA K He Fr m (ow ++ cs.map (renC (· + ow.length))) (.own (cs.length - 1 + ow.length) :: ts) σ (.ref p :: xs) H' := by
  obtain ⟨r1, r2, r3, r4, r5⟩ := r
  obtain ⟨Hd', S', _, e2, e3⟩ := frs_ext S e f
  have nP : ∀ x ∈ qs, x ∉ ps ++ kids ow := fun x hx h => by obtain ⟨o, w⟩ := S.inH h; rw [(r3 x hx).1] at w; cases w
  have ek0 : ∀ (l : List OC), (∀ c ∈ l, okG cs.length c) → kids (l.map (renC (· + ow.length))) = [] := by
    intro l h
    induction l with
    | nil => rfl
    | cons c l ih =>
      show kidC (renC _ c) ++ kids (l.map _) = []
      rw [okG_kid (h c (List.mem_cons_self ..)), ih fun c hc => h c (List.mem_cons_of_mem _ hc)]; rfl
  have ek : kids (ow ++ cs.map (renC (· + ow.length))) = kids ow := by rw [kids_app, ek0 cs r4, List.append_nil]
  have lpo : ps.length = ow.length := S.pl
  have pq : ∀ {j : Nat} {q : Addr}, qs[j]? = some q → (ps ++ qs)[j + ow.length]? = some q := fun {j q} h => by
    rw [List.getElem?_append_right (by omega), lpo, Nat.add_sub_cancel]; exact h
  refine ⟨Hd', ps ++ qs, S'.eh, S'.dh, S'.fh, S'.fd, fun x hx => ?_, ?_, ?_, fun n q c hq hc => ?_, L2.Paired.mapP S'.sv fun x k h => h.mono _ (Same.refl _) (Same.refl _), .cons ⟨p, pq hp, rfl⟩ (L2.Paired.mapP S'.tv fun x k h => h.mono _ (Same.refl _) (Same.refl _))⟩
  · rw [ek] at hx
    rcases List.mem_append.mp hx with hx | hx
    · rcases List.mem_append.mp hx with hx | hx
      · exact S'.fp x hx
      · exact S.noF (r3 x hx).1
    · exact S'.fk x (List.mem_append_right _ hx)
  · rw [ek]
    have perm : ((ps ++ qs) ++ kids ow).Perm (qs ++ (ps ++ kids ow)) := by
      have h1 : ((ps ++ qs) ++ kids ow).Perm ((qs ++ ps) ++ kids ow) := List.Perm.append_right _ List.perm_append_comm
      rwa [List.append_assoc qs] at h1
    refine perm.nodup_iff.mpr (List.nodup_append.mpr ⟨r2, S.nk, fun a ha b hb e => nP a ha (e ▸ hb)⟩)
  · rw [List.length_append, List.length_append, S'.pl, List.length_map, r1]
  · by_cases hn : n < ps.length
    · rw [List.getElem?_append_left hn] at hq
      rw [List.getElem?_append_left (by rw [← S.pl]; exact hn)] at hc
      exact (S'.ok n q c hq hc).more qs
    · obtain ⟨i, rfl⟩ : ∃ i, n = i + ow.length := ⟨n - ow.length, by omega⟩
      rw [List.getElem?_append_right (by omega), lpo, Nat.add_sub_cancel] at hq
      rw [List.getElem?_append_right (by omega), Nat.add_sub_cancel, List.getElem?_map] at hc
      obtain ⟨c0, h0, rfl⟩ := Option.map_eq_some_iff.mp hc
      have g := r5 i q c0 hq h0
      have hqm := r3 q (List.mem_of_getElem? hq)
      have nd := e3 q hqm.1 hqm.2
      cases c0 with
      | lst ds => exact ⟨nd, g.imp fun vs h => ⟨h.1, dpa_mono e2 h.2⟩⟩
      | dic kvs => exact ⟨nd, g.imp fun vs h => ⟨h.1, kp_mono e2 h.2⟩⟩
      | gen φ ks =>
        obtain ⟨vs, g1, g2, g3⟩ := g
        refine ⟨nd, vs, g1, g2, ?_⟩
        clear h0 hc g1 g2
        induction ks generalizing vs with
        | nil => cases g3; exact .nil
        | cons k ks ih =>
          cases g3 with
          | cons h t =>
          refine .cons ?_ (ih _ t)
          cases k with
          | own j => obtain ⟨r, hr, hx⟩ := h; exact ⟨r, pq hr, hx⟩
          | v y => exact h
          | arg _ => exact h.elim
          | dat _ => exact h.elim
      | ldic _ _ _ => exact g.elim
      | tpl _ => exact g.elim
      | tr _ _ => exact g.elim
      | jl _ => exact g.elim
      | dead => exact g.elim
theorem ee_callG (a : α) (h : EA K ar m ow ks ow1) (ha : ads ow1 ks = some (args a)) (hp : pre a) : EE K (tCall (spG args pre out K) [] E ar) m ow (.own ((out a).length - 1 + ow1.length)) (ow1 ++ (out a).map (renC (· + ow1.length))) := fun He Fr ts σ xs H Q S q =>
  h He Fr ts σ xs H _ S fun ys H1 hl ⟨Hd, ps, S1⟩ => by
    obtain ⟨h1, S2⟩ := S1.args hl
    exact ⟨a, by rw [List.append_nil]; exact ads_ok S2 h1 ha, hp, fun p qs H' Hf e f hl r => q _ _ (S2.resG e f hl r)⟩
end
section
variable {P : Program} {w : World} {K : PySem.W.Frag} {mg : Str → Option Value} {base : Heap} {x qual : Str} {st : Stmt} {f : Addr} {fd : FuncData} {N ps : List Str} {k : Nat}
theorem ok_G {α : Type} {args : α → List PyData} {pre : α → Prop} {out : α → List OC} (F : Fun K x qual st f fd) (S : FnScope N ps (defScope st)) (hl : ∀ a, (args a).length = ps.length)
    (body : ∀ (cdv : Value) (A : Around) (outer : List Env) (s : Shared) (H : Hp) (E : XK), Rm k (A.deeper (envOfC qual (defScope st) s.heap.objs.size f cdv)) →
      ∃ t, PSs (cxOf CX0 P w K mg base N qual (defScope st) f cdv A outer s H E).nox (defBody st) t ∧ ∀ a, pre a → SS K t (mst N (args a)) [] (PretG (out a))) : FnG P w K mg base CX0 (k + 1) f fd ps (spG args pre out K) := by
  refine fnG_of F S (fun vs H Q E h => ?_) fun cdv A outer s H vs Q E hr h => ?_
  · obtain ⟨a, h1, _⟩ := h
    rw [dpa_len h1, hl]
  · obtain ⟨t, h1, h2⟩ := body cdv A outer s H E hr
    exact ⟨t, h1.nox, fin_G h h2⟩
end
end LD

/-! xs[:] = ys -/
namespace LD
open PySem PySem.Spec PyProof.Rows L2 HT
section
variable {prog : Program} {w : World} {A : Around} {E : Value → Shared → Prop} {s : Shared}
theorem bounds_whole (n : Nat) : sliceBounds none none none n = (0, (n : Int), 1) := by
  have h := sliceBounds_plain none none n
  simpa using h
theorem setItem_whole {l b sl : Addr} {items new : Array Value} {n n2 : Nat} {Q : Unit → Shared → Prop}
    (e : s.heap.get? l = some { cls := .type "list", data := .seq items n }) (e2 : s.heap.get? b = some { cls := .type "list", data := .seq new n2 }) (hne : l ≠ b)
    (hs : s.heap.IsSliceOf sl .none .none .none) (hsz : items.size + new.size ≤ sizeLine)
    (h : Q () { s with heap := s.heap.update l (Obj.mapSeq fun xs => xs.extract 0 0 ++ new ++ xs.extract items.size xs.size) }) :
    wpAny (model prog w) A (setItem (.ref l) (.ref sl) (.ref b)) Q E s := by
  have hl : s.heap.IsList l items := PySem.IsL.isList e
  have hb : s.heap.IsList b new := PySem.IsL.isList e2
  obtain ⟨os, hos, hcs, hds⟩ := id hs
  have hTs : s.TypeIs (.ref sl) "slice" := ⟨os, hos, hcs⟩
  have hstep : ¬ ((rawPart none == rawInt 0) = true) := Bool.false_ne_true
  have hsame : Builtin.List.listSameRef (.ref l) (.ref b) = false := beq_eq_false_iff_ne.mpr hne
  have hmax : (max (0 : Int) (items.size : Int)).toNat = items.size := by omega
  have hz' : ((fun xs : Array Value => xs.extract 0 0 ++ new ++ xs.extract items.size xs.size) items).size ≤ sizeLine + 1 := by
    simp only [Array.size_append, Array.size_extract]
    omega
  unfold setItem
  try with_reducible refine wpAny_holding ?_
  first | refine wpAny_bind (wpAny_pure ?_) | skip
  refine wpAny_bind (wpAny_sequenceKey hl.typeIs (by decide) ?_)
  refine wpAny_bind (wpAny_callSpecial?_slot (name := Str.ofString "__setitem__") hl.typeIs slot_list_setitem
    (wpAny_call_entry slot_list_setitem hl.typeIs entry_list_setitem ?_ (args_list_setitem _ _ _)))
  show wpAny _ _ (Builtin.List.listSubscript? (.ref sl) >>= _) _ _ s
  refine wpAny_bind ?_
  unfold Builtin.List.listSubscript?
  refine wpAny_bind (wpAny_specialOf hTs slice_no_index ?_)
  simp only [Option.isNone_none, if_true]
  refine wpAny_pure ?_
  show wpAny _ _ (typeOf (.ref sl) >>= _) _ _ s
  refine wpAny_bind (wpAny_typeOf hTs ?_)
  first
    | rw [if_neg (by decide)]
    | refine PySem.W.KFB.if_not (by decide) ?_
  rw [listSliceParts_eq]
  refine wpAny_bind (wpAny_bind (wpAny_field hos hds (x := .none) rfl (wpAny_bind (wpAny_listPart .none ?_))))
  rw [if_neg hstep]
  refine wpAny_bind (wpAny_field hos hds (x := .none) rfl (wpAny_bind (wpAny_listPart .none ?_)))
  refine wpAny_bind (wpAny_field hos hds (x := .none) rfl (wpAny_bind (wpAny_listPart .none (wpAny_pure ?_))))
  first
    | simp only [hsame, Bool.false_eq_true, if_false]
    | refine PySem.W.KFB.if_not hsame ?_
    | (dsimp only
       rw [if_neg (by rw [hsame]; exact Bool.false_ne_true)])
  refine wpAny_bind (m := Builtin.List.listAllItems (.ref b) "must assign iterable to extended slice") ?_
  unfold Builtin.List.listAllItems
  refine wpAny_bind (wpAny_typeOf hb.typeIs ?_)
  first
    | refine PySem.W.KFB.if_so (by decide) ?_
    | rw [if_pos (by decide)]
    | simp only [beq_self_eq_true, Bool.true_or, if_true]
  unfold Builtin.List.listItems
  refine wpAny_bind (wpAny_seqItems e2 rfl (wpAny_pure ?_))
  refine wpAny_bind (wpAny_bind (wpAny_seqItems e rfl (wpAny_pure ?_)))
  refine wpAny_bind (wpAny_of_eq ((sliceIndices_raw none none none items.size (by simp)).trans (congrArg (pure : Int × Int × Int → Sem (Int × Int × Int)) (bounds_whole _))) ?_)
  show wpAny _ _ (if ((1 : Int) == 1) = true then _ else _) _ _ s
  rw [if_pos (by decide)]
  refine wpAny_bind (wpAny_rule ?_)
  first
    | simp only [notLongL hsz, Bool.false_eq_true, if_false]
    | refine PySem.W.KFB.if_not (notLongL hsz) ?_
  first | refine wpAny_bind (wpAny_pure ?_) | skip
  show wpAny _ _ (updateSeq l (fun xs => xs.extract 0 ((0 : Int)).toNat ++ new ++ xs.extract (max (0 : Int) (items.size : Int)).toNat xs.size) >>= _) _ _ s
  rw [hmax]
  refine wpAny_bind (wpAny_updateSeq (hz := Nat.le_trans (Nat.le_add_right _ _) hsz) (_hz' := hz') e rfl ?_)
  refine wpAny_bind (wpAny_letGo ?_)
  first
    | exact wpAny_bind (wpAny_pure (wpAny_pure ⟨.none, rfl, wpAny_pure h⟩))
    | exact wpAny_pure ⟨.none, rfl, wpAny_pure h⟩
end
section
variable {X : Cx}
def gWhole (to : TE) : TG := fun v σ H Q => to σ H fun o H1 => ∃ (l b : Addr) (xs ys : List V), o = .ref l ∧ v = .ref b ∧ H1 l = some (.lst xs) ∧ H1 b = some (.lst ys) ∧ l ≠ b ∧ xs.length + ys.length ≤ sizeLine ∧ Q σ (upd H1 l (.lst ys))
theorem pg_whole {o : Expr} {p2 pos : Pos} {to : TE} (ho : PE X o to)
    (ha : ∀ v, assign (.Subscript o (.Slice none none none p2) pos) X.env v = (do
      let ov ← holding [v] (eval o X.env)
      let iv ← holding [v, ov] (eval (.Slice none none none p2) X.env)
      standAt pos
      holding [v, ov, iv] (setItem ov iv v)
      release [iv, v, ov] []) := by intro _; rfl) : PG X (.Subscript o (.Slice none none none p2) pos) (gWhole to) := by
  refine ⟨fun pins s σ H v u Q I r h => ?_⟩
  rw [ha]
  refine wpAny_bind (wpAny_holding (thn (ho.run pins s σ H _ I h) fun ov s1 ⟨x, H1, I1, r1, q1⟩ => ?_))
  obtain ⟨l, b, xs, ys, rfl, rfl, hl, hb, hne, hz, q⟩ := q1
  cases (show ov = Value.ref l from r1)
  cases (show u = Value.ref b from r)
  refine wpAny_bind (wpAny_holding (wpAny_Slice ?_))
  rw [evalPart_none]
  refine wpAny_pure (wpAny_pure (wpAny_pure ?_))
  have I4 : Inv X pins σ H1 { s1 with heap := s1.heap.push { cls := .type "slice", data := .fields #[.none, .none, .none] } } := I1.kept (t' := s1.toks) fun b ob q => Heap.get?_push_of_some _ q
  obtain ⟨z, its, n, rv, hlen, e⟩ := I4.lstM hl
  obtain ⟨z2, its2, n2, r2, hlen2, e2⟩ := I4.lstM hb
  refine wpAny_bind (wpAny_standAt (wpAny_bind (wpAny_holding (setItem_whole e e2 hne (Heap.IsSliceOf.new ..) (by rw [List.size_toArray, List.size_toArray]; omega) ?_))))
  refine wpAny_release ⟨σ, _, I4.lset (its' := its2) (ys := ys) (t' := _) hl e ?_ r2 (by omega), q⟩
  have := splice_eq its its2 0 its.length
  rw [List.take_zero, List.nil_append, List.drop_length, List.append_nil] at this
  rw [List.size_toArray]
  simpa using this
end
section
variable {K : PySem.W.Frag} {m : Env'} {ow ow1 ow2 : List OC} {te to : TE} {ds ds0 : List PyData} {P : Post} {n j : Nat}
theorem ss_whole (h : EE K te m ow (.own j) ow1) (ho : EE K to m ow1 (.own n) ow2) (hn : ow2[n]? = some (.lst ds0)) (hj : ow2[j]? = some (.lst ds)) (hne : n ≠ j) (hz : ds0.length + ds.length ≤ 1000000) (q : P.nx m (ow2.set n (.lst ds))) : SS K (tAsg te (gWhole to)) m ow P := fun He Fr ts σ xs H D S F =>
  h He Fr ts σ xs H _ S fun x H1 S1 => ho He Fr _ σ _ H1 _ S1 fun y H2 ⟨Hd, ps, S2⟩ => by
    obtain ⟨p, vs, e1, rfl, e2, e3, e4⟩ := S2.own S2.pop.1 hn
    obtain ⟨p2, vs2, f1, rfl, f2, f3, f4⟩ := S2.own S2.pop.2.pop.1 hj
    refine ⟨p, p2, vs, vs2, rfl, rfl, e3, f3, fun e => ?_, by rw [dpa_len e4, dpa_len f4, sizeLine_eq]; omega, F.nx _ _ _ _ q ⟨Hd, ps, S2.pop.2.pop.2.writeC (o := .lst vs2) (c1 := .lst ds) e1 hn e2 ⟨e2, _, upd_same, f4⟩⟩⟩
    exact S2.apart e1 f1 hne e.symm
end
section
variable {K : PySem.W.Frag} {m : Env'} {ow ow1 : List OC} {ta : TA} {ks : List Knd}
/-- [e, ..] of objects of one's own, too -/
theorem ee_lstG (h : EA K ta m ow ks ow1) (hs : ks.length ≤ 1000) : EE K (tLst ta) m ow (.own ow1.length) (ow1 ++ [.gen (fun _ vs => HO.lst vs) ks]) := fun He Fr ts σ xs H Q S q =>
  h He Fr ts σ xs H _ S fun ys H1 hl ⟨Hd, ps, S1⟩ => by
    obtain ⟨h1, S2⟩ := S1.args hl
    refine ⟨by rw [hl, sizeLine_eq]; omega, fun p hp => q _ _ ?_⟩
    have e : Same H1 (upd H1 p (.lst ys)) := fun a o z => by rw [upd_ne (ne_of_none z hp)]; exact z
    have nD : Hd p = none := by
      cases z : Hd p with
      | none => rfl
      | some o => rw [S2.dh _ _ z] at hp; cases hp
    have nP : p ∉ ps ++ kids ow1 := fun h => by obtain ⟨o, w⟩ := S2.inH h; rw [hp] at w; cases w
    exact ⟨Hd, _, (S2.grow e).pushC (c0 := .gen (fun _ vs => HO.lst vs) ks) (S2.noF hp) nP ⟨nD, ys, upd_same, rfl, h1⟩⟩
theorem ren_same {n : Nat} {c : OC} (h : okG n c) (f : Nat → Nat) (hf : ∀ j, j < n → f j = j) : renC f c = c := by
  cases c with
  | gen φ ks =>
    have : ks.map (renK f) = ks := by
      have h : ∀ k ∈ ks, inK n k := h
      induction ks with
      | nil => rfl
      | cons k ks ih =>
        rw [List.map_cons, ih (fun k hk => h k (List.mem_cons_of_mem _ hk)) fun k hk => h k (List.mem_cons_of_mem _ hk)]
        have := h k (List.mem_cons_self ..)
        cases k with
        | own j => show Knd.own (f j) :: ks = _; rw [hf j this]
        | v x => rfl
        | arg _ => exact this.elim
        | dat _ => exact this.elim
    show OC.gen φ (ks.map (renK f)) = _
    rw [this]
  | _ => rfl
/-- all that stands is handed out, the last one in front -/
theorem ret_all {cs : List OC} {n : Nat} (hn : cs.length = n + 1) (ho : ∀ c ∈ cs, okG cs.length c) : (PretG cs).rt (.own n) cs := by
  refine ⟨List.range cs.length, List.nodup_range, List.length_range, ⟨n, by rw [hn, Nat.add_sub_cancel, List.getElem?_range (Nat.lt_succ_self n)], rfl⟩, ho, fun i j c h1 h2 => ?_⟩
  have hi := (List.getElem?_eq_some_iff.mp h2).1
  rw [List.getElem?_range hi] at h1
  cases h1
  rw [h2, ren_same (ho c (List.mem_of_getElem? h2)) _ fun j hj => ?_]
  rw [List.getD_eq_getElem?_getD, List.getElem?_range hj]; rfl
end
end LD

/-! list(d.values()), sorted(xs, reverse=True) -/
namespace LD
open PySem PySem.Spec PyProof.Rows L2
section
variable {X : Cx} {o : Expr} {p pos apos mpos : Pos} {td : TE}
def tListVals (td : TE) : TE := fun σ H Q => td σ H fun x H1 => ∃ (a : Addr) (kvs : List (Key × V)), x = V.ref a ∧ H1 a = some (.dK kvs) ∧ ∀ q, H1 q = none → Q (.ref q) (upd H1 q (.lst (kvs.map (·.2))))
theorem pe_listVals (hc : X.calm = true) (hg : Gl X "list") (hm : X.mg "list" = none) (hd : PE X o td) (hbase : attributeBase o "values" X.env (eval o X.env) = eval o X.env := by rfl) (hline : (apos.endLine == mpos.line) = true := by rfl)
    (na : starEach [Expr.Call (.Attribute o "values" apos) [] [] mpos] X.env = (false, eval (Expr.Call (.Attribute o "values" apos) [] [] mpos) X.env) :: starEach [] X.env := by rfl) :
    PE X (.Call (.Name "list" p) [.Call (.Attribute o "values" apos) [] [] mpos] [] pos) (tListVals td) := by
  refine ⟨fun pins s σ H Q I h => ?_⟩
  refine Call_ (ld_blt I hg hm boot_list (PyProof.Rows.callWith_type1 (args_cons (wpAny_Call_method0_late hbase hline (thn (hd.run pins s σ H _ I h) fun v s1 ⟨x, H1, I1, r1, a, kvs, ex, ha, q⟩ => ?_)) na) na))
  subst ex
  obtain rfl : v = Value.ref a := r1
  obtain ⟨z, hsys, vs, rel, dof⟩ := dk_of I1.hok ha
  obtain ⟨ep, dat⟩ := dof.dictAt
  have dat' := dat
  obtain ⟨ob, es, ho, ex, hdat, hko, hpr, hnd⟩ := dat'
  refine ⟨"dict", "dict.values", F.plainAttrs_dict, F.slot_dict_values, F.type_dict_values, ⟨ob, ho, ex.1⟩, fun b e => ?_, Calls.callWith_builtin rfl (PySem.evalArgs_none ?_)⟩
  · cases e
    exact ⟨ob, ho, ex.2.1⟩
  refine call_meetsIn F.slot_dict_values ⟨ob, ho, ex.1⟩ F.entry_dict_values (F.args_dict_values_1 _) (meets_dict_values (mixKind X.prog X.w) a hsys) ⟨⟨vs, dof⟩, args_nil ?_⟩
  have k1 : ∀ b u, s1.heap.get? b = some u → (s1.heap.push { cls := .type "dict_values", data := .fields #[.ref a] }).get? b = some u := fun b u e => Heap.get?_push_of_some _ e
  have dat1 : (s1.heap.push { cls := .type "dict_values", data := .fields #[.ref a] }).DictAt (mixKind X.prog X.w) a vs ep := dat.keep k1
  have I2 : Inv X pins σ H1 { s1 with heap := s1.heap.push { cls := .type "dict_values", data := .fields #[.ref a] } } := I1.kept (t' := s1.toks) k1
  have hl : kvs.length = vs.length := PySem.Paired.length rel
  refine PySem.W.kdl_call (s := { s1 with heap := s1.heap.push { cls := .type "dict_values", data := .fields #[.ref a] } }) (PySem.W.kdl_values (knd := mixKind X.prog X.w) (r := s1.heap.objs.size) (d := a) (kvs := vs) (ep := ep)) (I.ok.hd hc) ⟨⟨_, Heap.get?_push_size _ rfl, rfl, rfl⟩, dat1⟩ (by rw [← hl]; exact z) fun h' tk acc' c' hkeep hS hacc => ?_
  refine ⟨V.ref (s1.heap.push { cls := .type "dict_values", data := .fields #[.ref a] }).objs.size, _, I2.laid hkeep (Nat.le_refl _) (show ObjOk X.prog X.w _ _ _ (.lst (kvs.map (·.2))) from ⟨?_, acc'.toList, c', ?_, ?_⟩), rfl, q _ (I2.hok.fresh (Nat.le_refl _))⟩
  · rw [List.length_map]; exact z
  · have el : acc'.toList.length = acc'.size := by simp
    refine vals_of_at (by rw [List.length_map, el, hacc.1, hl]) fun j x w h1 h2 => ?_
    obtain ⟨k, hk⟩ := hacc.2 j w (by rw [← Array.getElem?_toList]; exact h2)
    obtain ⟨y, g1, g2⟩ := KV.at' rel hk
    rw [List.getElem?_map, g1] at h1
    cases h1
    exact g2
  · rw [Array.toArray_toList]; exact hS
end
section
variable {K : PySem.W.Frag} {m : Env'} {ow ow1 : List OC} {td : TE} {n : Nat} {kvs : List (Key × PyData)}
theorem kp_vals {K : PySem.W.Frag} {Hq : Hp} : ∀ {vs : List (Key × V)} {kvs : List (Key × PyData)}, KP K Hq vs kvs → DpAll K Hq (vs.map (·.2)) (kvs.map (·.2))
  | _, _, .nil => .nil
  | _, _, .cons h t => .cons h.2 (kp_vals t)
theorem ee_listVals (b : Bool) (h : EE K td m ow (.own n) ow1) (hn : ow1[n]? = some (.dic kvs)) : EE K (tListVals td) m ow (newK b ow1 (kvs.map (·.2))) (newO b ow1 (kvs.map (·.2))) := fun He Fr ts σ xs H Q S q =>
  h He Fr ts σ xs H _ S fun x H1 ⟨Hd, ps, S1⟩ => by
    obtain ⟨p, vs, e1, rfl, e0, e2, e3⟩ := S1.ownD S1.pop.1 hn
    exact ⟨p, vs, rfl, e2, fun r hr => q _ _ (S1.pop.2.made b hr (kp_vals e3))⟩
end
section
variable {K : PySem.W.Frag} {m : Env'} {ow ow1 ow2 : List OC} {k : Knd} {ar tk : TA} {fl : Bool} {ns us : List Int}
theorem down_eq {as bs : List Int} (p : as.Perm bs) (h1 : as.Pairwise (· ≥ ·)) (h2 : bs.Pairwise (· ≥ ·)) : as = bs :=
  perm_sorted (le := fun a b : Int => a ≥ b) (fun a b h h' => Int.le_antisymm h' h) p h1 h2
/-- sorted(xs, reverse=True) -/
theorem ee_sortR (b : Bool) (h : EA K ar m ow [k] ow1) (hk : EA K tk m ow1 [.v (.bl true)] ow2) (hs : seqOf ow2 k = some (fl, ns.map PyData.int)) (hp : us.Perm ns) (ho : us.Pairwise (· ≥ ·)) :
    EE K (tCKw (rSortedKw K true [.bl true]) ar tk) m ow (newK b ow2 (us.map PyData.int)) (newO b ow2 (us.map PyData.int)) := fun He Fr ts σ xs H Q S q =>
  h He Fr ts σ xs H _ S fun ys H1 hl S1 => hk He Fr _ σ _ H1 _ S1 fun zs H2 hl2 ⟨Hd, ps, S2⟩ => by
    obtain ⟨y, rfl⟩ := one hl
    obtain ⟨z, rfl⟩ := one hl2
    have hz : z = .bl true := S2.pop.1
    subst hz
    obtain ⟨p, vs, rfl, h1, h2⟩ := seq_ok S2.pop.2 S2.pop.2.pop.1 hs
    rw [of_dpa_ints h2] at h1
    refine ⟨p, ns, rfl, rfl, h1, fun ns' r e1 e2 hr => ?_⟩
    rw [show ns' = us from down_eq (e1.trans hp.symm) e2 ho]
    exact q _ _ (S2.pop.2.pop.2.made b hr (dpa_ints _))
end
end LD

/-! Defs that read a dict (plain values) they are given first. -/
namespace LD
open PySem PySem.Spec PyProof.Rows L2
def spV {α : Type} (inp : α → List (Key × PyData)) (args : α → List PyData) (pre : α → Prop) (out : α → V) (K : PySem.W.Frag) : Sp := fun vs H Q _ => ∃ (a : α) (p : Addr) (us : List (Key × V)) (rest : List V), vs = .ref p :: rest ∧ H p = some (.dK us) ∧ KP K (hid H p) us (inp a) ∧ DpAll K (hid H p) rest (args a) ∧ pre a ∧ ∀ H', Same H H' → Q (out a) H'
def PretV (kvs : List (Key × PyData)) (v : V) : Post := { nx := fun _ _ => False, rt := fun k ow => k = .v v ∧ ow[0]? = some (.dic kvs), n0 := 1 }
section
variable {K : PySem.W.Frag} {He Fr Hd H H' Hf : Hp} {ps : List Addr} {m : Env'} {ow ow1 : List OC} {ts ks : List Knd} {σ : L2.St} {xs : List V} {α : Type} {inp : α → List (Key × PyData)} {args : α → List PyData} {pre : α → Prop} {out : α → V} {ar : TA} {E : XK}
theorem kp_flat {Hq : Hp} : ∀ {us ws : List (Key × V)} {kvs : List (Key × PyData)}, KP K Hq us kvs → KP K Hq ws kvs → (∀ kv ∈ kvs, flD2 kv.2 = true) → us = ws
  | _, _, _, .nil, .nil, _ => rfl
  | u :: us, w :: ws, kv :: kvs, .cons h t, .cons h2 t2, hf => by
    rw [kp_flat t t2 fun kv hk => hf kv (List.mem_cons_of_mem _ hk)]
    have e := (flat_dp h.2 h2.2 (hf kv (List.mem_cons_self ..))).1
    have e1 : u.1 = w.1 := h.1.trans h2.1.symm
    rw [show u = w from Prod.ext e1 e]
theorem fin_V {t : TS} {N : List Str} {vs : List V} {Q : VK} (h : spV inp args pre out K vs H Q E) (hf : ∀ a, pre a → ∀ kv ∈ inp a, flD2 kv.2 = true) (hS : ∀ a, pre a → SS K t (mstM N (args a)) [.dic (inp a)] (PretV (inp a) (out a))) : t { nx := fun _ H' => Q .non H', rt := Q } (start N vs) H := by
  obtain ⟨a, p, us, rest, rfl, hH, hk, hd, hp, q⟩ := h
  have S0 : SB K (hid H p) (fun _ => none) (hid H p) [p] (mstM N (args a)) [.dic (inp a)] [] (start N (.ref p :: rest)) [] H := by
    refine ⟨Same.refl _, hid_sub H p, fun _ _ z => (by cases z), fun _ _ z => (by cases z), fun _ _ => rfl, by simp [kids, kidC], rfl, fun n r c h1 h2 => ?_, ?_, .nil⟩
    · match n, h1, h2 with
      | 0, h1, h2 =>
        cases h1
        cases h2
        refine ⟨hid_at, us, hH, ?_⟩
        have go : ∀ {us : List (Key × V)} {kvs : List (Key × PyData)}, KP K (hid H p) us kvs → (∀ kv ∈ kvs, flD2 kv.2 = true) → KP K (port (hid H p) (hid H p)) us kvs := by
          intro us kvs hk hf
          induction hk with
          | nil => exact .nil
          | @cons u kv us kvs h t ih =>
            refine .cons ⟨h.1, ?_⟩ (ih fun kv hk => hf kv (List.mem_cons_of_mem _ hk))
            have hfl := hf kv (List.mem_cons_self ..)
            have hd := h.2
            generalize kv.2 = d at hfl hd
            generalize u.2 = x at hd
            cases hd with
            | non => exact .non
            | bl b => exact .bl b
            | int i => exact .int i
            | str z => exact .str z
            | lst _ _ => cases hfl
            | tup _ _ => cases hfl
            | dic _ => cases hfl
        exact go hk (hf a hp)
      | _ + 1, h1, _ => cases h1
    · unfold L2.start mstM
      rw [List.length_cons, dpa_len hd]
      exact prd_app (.cons ⟨_, rfl, p, rfl, rfl⟩ (start_prd (N := N) hd)) (repl_prd _)
  have S1 : SA K (hid H p) (fun _ => none) (mstM N (args a)) [.dic (inp a)] [.own 0] (start N (.ref p :: rest)) [.ref p] H := ⟨_, _, S0.push ⟨p, rfl, rfl⟩⟩
  refine hS a hp _ _ _ _ _ H _ S1 ⟨fun m ow σ H' e _ => e.elim, fun k m ow σ x H' hr ⟨Hd, ps, S⟩ => ?_, fun _ _ _ _ z => z.elim, fun _ _ _ _ z => z.elim, fun k hk => by rw [List.mem_singleton.mp hk]; exact Nat.zero_lt_one⟩
  obtain ⟨rfl, hn⟩ := hr
  obtain ⟨hx, S'⟩ := S.pop
  cases (show x = out a from hx)
  obtain ⟨r, ws, e1, e2, e3, e4, e5⟩ := S'.ownD S'.pop.1 hn
  cases e2
  have sm : Same (hid H p) H' := S.eh.trans S.dh
  have e : us = ws := kp_flat (kp_mono sm hk) (kp_mono S.sub e5) (hf a hp)
  refine q _ fun c o hc => ?_
  by_cases z : c = p
  · subst z; rw [hH] at hc; cases hc; rw [e]; exact e4
  · exact sm _ _ (by rw [hid_ne z]; exact hc)
/-- a call of such a def -/
theorem ee_callV (a : α) (n : Nat) (h : EA K ar m ow (.own n :: ks) ow1) (hn : ow1[n]? = some (.dic (inp a))) (ha : adxs n ow1 ks = some (args a)) (hp : pre a) : EE K (tCall (spV inp args pre out K) [] E ar) m ow (.v (out a)) ow1 := fun He Fr ts σ xs H Q S q =>
  h He Fr ts σ xs H _ S fun ys H1 hl ⟨Hd, ps, S1⟩ => by
    obtain ⟨h1, S2⟩ := S1.args hl
    rw [List.append_nil]
    cases h1 with
    | cons hy ht =>
    obtain ⟨p, us, e1, rfl, e2, e3, e4⟩ := S2.ownD hy hn
    have sh : Same (port He Hd) (hid H1 p) := fun c o hc => by
      have hc' := port_sub _ _ _ _ hc
      rw [hid_ne (fun z => by rw [z, e2] at hc'; cases hc')]
      exact S2.dh _ _ hc'
    exact ⟨a, p, us, _, rfl, e3, kp_mono sh e4, adxs_ok S2 e1 e2 ht ha, hp, fun H' e => q _ _ ⟨Hd, ps, (S2.grow e).push rfl⟩⟩
end
section
variable {P : Program} {w : World} {K : PySem.W.Frag} {mg : Str → Option Value} {base : Heap} {x qual : Str} {st : Stmt} {f : Addr} {fd : FuncData} {N ps : List Str} {k : Nat}
theorem ok_V {α : Type} {inp : α → List (Key × PyData)} {args : α → List PyData} {pre : α → Prop} {out : α → V} (F : Fun K x qual st f fd) (S : FnScope N ps (defScope st)) (hl : ∀ a, (args a).length + 1 = ps.length) (hf : ∀ a, pre a → ∀ kv ∈ inp a, flD2 kv.2 = true)
    (body : ∀ (cdv : Value) (A : Around) (outer : List Env) (s : Shared) (H : Hp) (E : XK), Rm k (A.deeper (envOfC qual (defScope st) s.heap.objs.size f cdv)) →
      ∃ t, PSs (cxOf CX0 P w K mg base N qual (defScope st) f cdv A outer s H E).nox (defBody st) t ∧ ∀ a, pre a → SS K t (mstM N (args a)) [.dic (inp a)] (PretV (inp a) (out a))) : FnG P w K mg base CX0 (k + 1) f fd ps (spV inp args pre out K) := by
  refine fnG_of F S (fun vs H Q E h => ?_) fun cdv A outer s H vs Q E hr h => ?_
  · obtain ⟨a, p, us, rest, rfl, _, _, h1, _⟩ := h
    rw [List.length_cons, dpa_len h1, hl]
  · obtain ⟨t, h1, h2⟩ := body cdv A outer s H E hr
    exact ⟨t, h1.nox, fin_V h hf h2⟩
end
end LD

/-! zip in a for; a pair of which the first part has outcomes. -/
namespace LD
open PySem PySem.Spec PyProof.Rows L2
section
variable {K : PySem.W.Frag} {m : Env'} {ow ow1 : List OC} {P : Post} {k1 k2 : Knd} {ar : TA} {R : List Knd → List OC → Prop} {i j : Nat}
/-- a, b = e, f with outcomes -/
theorem ss_parX (h : EXA K ar m ow R) (q : ∀ ks ow', R ks ow' → ∃ k k1, ks = [k, k1] ∧ P.nx ((m.set i (some k)).set j (some k1)) ow') : SS K (tPar i j ar) m ow P := fun He Fr ts σ xs H D S F =>
  h He Fr ts σ xs H _ S fun ks ys H1 ow1 hr hl ⟨Hd, ps, S1⟩ => by
    obtain ⟨k, k1, rfl, q1⟩ := q ks ow1 hr
    obtain ⟨y, z, rfl⟩ := two hl
    exact ⟨y, z, rfl, F.nx _ _ _ _ q1 ⟨Hd, ps, (S1.pop.2.pop.2.store S1.pop.2.pop.1 i).store S1.pop.1 j⟩⟩
/-- for a, b in zip(xs, ys), two lists of one length -/
theorem ss_zip {j1 j2 : Nat} {tbd : TS} (I : Nat → Env' → List OC → Prop) (fl1 fl2 : Bool) (ds es : List PyData) (h : EA K ar m ow [k1, k2] ow1) (h0 : I 0 m ow1) (hl : ds.length = es.length) (hs : ∀ i m ow, i ≤ ds.length → I i m ow → seqOf ow k1 = some (fl1, ds) ∧ seqOf ow k2 = some (fl2, es))
    (ht : ∀ i d e m ow, ds[i]? = some d → es[i]? = some e → I i m ow → SS K tbd ((m.set j1 (some (ek fl1 d))).set j2 (some (ek fl2 e))) ow { nx := I (i + 1), rt := P.rt, bk := P.nx, ct := I (i + 1), n0 := ow1.length }) (he : ∀ m ow, I ds.length m ow → P.nx m ow) :
    SS K (tFor (iZip K ar) (gTup K 2 (gNs [j1, j2])) tbd) m ow P := fun He Fr ts σ xs H D S F =>
  h He Fr ts σ xs H _ S fun ys H1 hyl ⟨Hd, ps, S1⟩ => by
    obtain ⟨y, z, rfl⟩ := two hyl
    have S1 : SB K He Fr Hd ps m ow1 (k2 :: k1 :: ts) σ (z :: y :: xs) H1 := S1
    obtain ⟨p, us, rfl, hsq, hd⟩ := seq_ok S1 S1.pop.2.pop.1 (hs 0 _ _ (Nat.zero_le _) h0).1
    obtain ⟨p', us', rfl, hsq', hd'⟩ := seq_ok S1 S1.pop.1 (hs 0 _ _ (Nat.zero_le _) h0).2
    refine ⟨p, p', us, us', rfl, hsq, hsq', fun i n σ H => n = ds.length - i ∧ i ≤ ds.length ∧ ∃ m ow, I i m ow ∧ SA K He Fr m ow (k2 :: k1 :: ts) σ (.ref p' :: .ref p :: xs) H, ⟨_, rfl, Nat.zero_le _, _, _, h0, _, _, S1⟩, ?_⟩
    rintro i n σ2 H2 ⟨rfl, hi, m2, ow2, I2, Hd2, ps2, S2⟩
    obtain ⟨p2, us2, e, hsq2, hd2⟩ := seq_ok S2 S2.pop.2.pop.1 (hs i _ _ hi I2).1
    cases e
    obtain ⟨p3, us3, e, hsq3, hd3⟩ := seq_ok S2 S2.pop.1 (hs i _ _ hi I2).2
    cases e
    have hlen := dpa_len hd2
    have hlen3 := dpa_len hd3
    by_cases hlt : i < ds.length
    · refine .inr ⟨⟨us2, us3, us2[i]'(by omega), us3[i]'(by omega), hsq2, hsq3, List.getElem?_eq_getElem (by omega), List.getElem?_eq_getElem (by omega)⟩, _, fun σ' H' h => ⟨ds.length - (i + 1), by omega, rfl, hlt, h⟩, fun x H' hy => ?_⟩
      obtain ⟨T, x, x', rfl, hT, rfl, hy, hy'⟩ := hy
      obtain ⟨d, h1, h2⟩ := dpa_at hd2 (hy us2 hsq2)
      obtain ⟨d', h1', h2'⟩ := dpa_at hd3 (hy' us3 hsq3)
      have e : Same H2 (upd H2 T (.tup [x, x'])) := fun a o q => by rw [upd_ne (ne_of_none q hT)]; exact q
      have S3 := S2.grow e
      refine ⟨T, [x, x'], rfl, .inl (.inl upd_same), rfl, _, _, rfl, ?_⟩
      refine ⟨_, _, rfl, rfl, ?_⟩
      exact ht i d d' m2 ow2 h1 h1' I2 He Fr (k2 :: k1 :: ts) _ (.ref p' :: .ref p :: xs) _ _ ⟨Hd2, ps2, (S3.store (ek_ok h2) j1).store (ek_ok h2') j2⟩ ⟨fun m ow σ H q S => ⟨m, ow, q, S⟩, fun k' m ow σ x H q S => F.rt _ _ _ _ _ _ q ((S.drop2 rfl).drop2 rfl), fun m ow σ H q S => F.nx _ _ _ _ q S.drop.drop, fun m ow σ H q S => ⟨m, ow, q, S⟩, S1.inT⟩
    · have e : i = ds.length := by omega
      subst e
      exact .inl ⟨⟨us2, us3, hsq2, hsq3, by omega⟩, F.nx _ _ _ _ (he _ _ I2) ⟨Hd2, ps2, S2.pop.2.pop.2⟩⟩
end
section
variable {X : Cx} {K : PySem.W.Frag}
theorem pi_zipK {e e2 : Expr} {ta : TA} {p pos tpos : Pos} {elts : List Expr} {kk : Nat} (hK : X.K = K) (hg : Gl X "zip") (hm : X.mg "zip" = none) (ha : PA X [e, e2] ta)
    (hs : starEach [e, e2] X.env = (false, eval e X.env) :: starEach [e2] X.env := by rfl) (hpl : (backTo pos (starEach [e2] X.env)).any (·.1) = false := by rfl) :
    PI X (.Tuple elts kk tpos) (.Call (.Name "zip" p) [e, e2] [] pos) (iZip K ta) := hK ▸ pi_zip hg hm ha hs hpl
end
end LD

/-! for a, b in a list of tuples; xs[a:b]. -/
namespace LD
open PySem PySem.Spec PyProof.Rows L2
section
variable {K : PySem.W.Frag} {m : Env'} {ow ow1 : List OC} {P : Post} {k : Knd} {tl te : TE}
/-- for a, b in xs, xs a list of tuples -/
theorem ss_forU {tb : TS} (is : List Nat) (I : Nat → Env' → List OC → Prop) (fl : Bool) (ds : List (List PyData)) (h : EE K tl m ow k ow1) (hn : ∀ d ∈ ds, d.length = is.length) (h0 : I 0 m ow1) (hs : ∀ i m ow, i ≤ ds.length → I i m ow → seqOf ow k = some (fl, ds.map PyData.tuple))
    (ht : ∀ i d m ow, ds[i]? = some d → I i m ow → SS K tb (setAll m is (d.map (ek fl))) ow { nx := I (i + 1), rt := P.rt, bk := P.nx, ct := I (i + 1), n0 := ow1.length }) (he : ∀ m ow, I ds.length m ow → P.nx m ow) :
    SS K (tFor (iList K tl) (gTup K is.length (gNs is)) tb) m ow P := fun He Fr ts σ xs H D S F =>
  h He Fr ts σ xs H _ S fun x H1 ⟨Hd, ps, S1⟩ => by
    obtain ⟨p, us, rfl, hsq, _⟩ := seq_ok S1 S1.pop.1 (hs 0 _ _ (Nat.zero_le _) h0)
    refine ⟨p, rfl, ⟨us, hsq⟩, fun i n σ H => n = ds.length - i ∧ i ≤ ds.length ∧ ∃ m ow, I i m ow ∧ SA K He Fr m ow (k :: ts) σ (.ref p :: xs) H, ⟨_, rfl, Nat.zero_le _, _, _, h0, _, _, S1⟩, ?_⟩
    rintro i n σ2 H2 ⟨rfl, hi, m2, ow2, I2, Hd2, ps2, S2⟩
    obtain ⟨p2, us2, e, hsq2, hd2⟩ := seq_ok S2 S2.pop.1 (hs i _ _ hi I2)
    cases e
    have hlen := dpa_len hd2
    rw [List.length_map] at hlen
    by_cases hlt : i < ds.length
    · refine .inr ⟨⟨us2, us2[i]'(by omega), hsq2, List.getElem?_eq_getElem (by omega)⟩, _, fun σ' H' h => ⟨ds.length - (i + 1), by omega, rfl, hlt, h⟩, fun x H' hy => ?_⟩
      obtain ⟨rfl, hy⟩ := hy
      have hx := hy us2 hsq2
      obtain ⟨d, h1, h2⟩ := dpa_at hd2 hx
      rw [List.getElem?_map] at h1
      obtain ⟨d', h3, rfl⟩ := Option.map_eq_some_iff.mp h1
      obtain ⟨pt, vs, rfl, t1, t2⟩ := tup_ok S2 (ek_ok h2) (b := fl) (ds := d') (by cases fl <;> rfl)
      have hdl := hn d' (List.mem_of_getElem? h3)
      refine ⟨pt, vs, rfl, t1, by rw [dpa_len t2, hdl], ?_⟩
      exact store_all is (by rw [List.length_map]; exact hdl.symm) (prd_ek t2) S2 fun σ' S' => ht i d' m2 ow2 h3 I2 He Fr (k :: ts) _ (.ref p :: xs) _ _ ⟨Hd2, ps2, S'⟩ ⟨fun m ow σ H q S => ⟨m, ow, q, S⟩, fun k' m ow σ x H q S => F.rt _ _ _ _ _ _ q (S.drop2 rfl), fun m ow σ H q S => F.nx _ _ _ _ q S.drop, fun m ow σ H q S => ⟨m, ow, q, S⟩, S1.inT⟩
    · have e : i = ds.length := by omega
      subst e
      exact .inl ⟨⟨us2, hsq2, by omega⟩, F.nx _ _ _ _ (he _ _ I2) ⟨Hd2, ps2, S2.pop.2⟩⟩
theorem cut_both (ds : List PyData) {a b : Nat} (h : a ≤ b) (hb : b ≤ ds.length) : cutD ds (some (a : Int)) (some (b : Int)) = (ds.drop a).take (b - a) := by
  unfold cutD
  rw [HT.sIx_nat, HT.sIx_nat, Nat.min_eq_left hb, Nat.min_eq_left (Nat.le_trans h hb)]
theorem ee_mid (b : Bool) {fl : Bool} {t1 t2 : TO} {ow2 ow3 : List OC} (ns : List Int) (i j : Nat) (h : EE K te m ow k ow1) (h1 : EO K t1 m ow1 (some (i : Int)) ow2) (h2 : EO K t2 m ow2 (some (j : Int)) ow3) (hs : seqOf ow3 k = some (fl, ns.map PyData.int)) (hij : i ≤ j) (hj : j ≤ ns.length) :
    EE K (tSl (rSlL K) te t1 t2) m ow (newK b ow3 (((ns.drop i).take (j - i)).map PyData.int)) (newO b ow3 (((ns.drop i).take (j - i)).map PyData.int)) := by
  have e : cutD (ns.map PyData.int) (some (i : Int)) (some (j : Int)) = ((ns.drop i).take (j - i)).map PyData.int := by rw [cut_both _ hij (by rw [List.length_map]; exact hj), List.map_take, List.map_drop]
  rw [← e]
  exact ee_slice b h h1 h2 hs (by rw [e, imms_int]; exact Bool.or_true _)
end
section
variable {K : PySem.W.Frag} {m : Env'} {ow ow1 ow2 : List OC} {P : Post} {k1 k2 : Knd} {ar : TA} {to : TE} {n n2 : Nat} {ds es : List PyData}
/-- xs.extend(ys), two lists of one's own -/
theorem ee_extend {ds0 : List PyData} (h : EE K to m ow (.own n) ow1) (h0 : ow1[n]? = some (.lst ds0)) (ha : EA K ar m ow1 [.own n2] ow2) (hn : ow2[n]? = some (.lst ds)) (hn2 : ow2[n2]? = some (.lst es)) (hz : ds.length + es.length ≤ 1000000) :
    EE K (tBM K "list" rExtend to ar) m ow (.v .non) (ow2.set n (.lst (ds ++ es))) := fun He Fr ts σ xs H Q S q =>
  h He Fr ts σ xs H _ S fun x H1 ⟨Hd, ps, S1⟩ => ⟨S1.isL h0, ha He Fr _ σ _ H1 _ ⟨Hd, ps, S1⟩ fun ys H2 hl ⟨Hd2, ps2, S2⟩ => by
    obtain ⟨hp, S3⟩ := S2.args hl
    obtain ⟨y, rfl⟩ : ∃ y, ys = [y] := by match ys, hl with | [y], _ => exact ⟨y, rfl⟩
    cases hp with
    | cons hy _ =>
      obtain ⟨p, vs, e1, rfl, _, e2, e3⟩ := S3.own S3.pop.1 hn
      obtain ⟨p', vs', _, rfl, _, g2, g3⟩ := S3.own hy hn2
      exact ⟨p, p', vs, vs', rfl, rfl, e2, g2, by rw [dpa_len e3, dpa_len g3, sizeLine_eq]; omega, q _ _ ⟨Hd2, ps2, ((S3.pop.2.write e1 hn (dpa_app e3 g3)).push rfl)⟩⟩⟩
/-- for a, b in zip(xs, ys), the second list no longer than the first -/
theorem ss_zip2 {j1 j2 : Nat} {tbd : TS} (I : Nat → Env' → List OC → Prop) (fl1 fl2 : Bool) (ds es : List PyData) (h : EA K ar m ow [k1, k2] ow1) (h0 : I 0 m ow1) (hl : es.length ≤ ds.length) (hs : ∀ i m ow, i ≤ es.length → I i m ow → seqOf ow k1 = some (fl1, ds) ∧ seqOf ow k2 = some (fl2, es))
    (ht : ∀ i d e m ow, ds[i]? = some d → es[i]? = some e → I i m ow → SS K tbd ((m.set j1 (some (ek fl1 d))).set j2 (some (ek fl2 e))) ow { nx := I (i + 1), rt := P.rt, bk := P.nx, ct := I (i + 1), n0 := ow1.length }) (he : ∀ m ow, I es.length m ow → P.nx m ow) :
    SS K (tFor (iZip K ar) (gTup K 2 (gNs [j1, j2])) tbd) m ow P := fun He Fr ts σ xs H D S F =>
  h He Fr ts σ xs H _ S fun ys H1 hyl ⟨Hd, ps, S1⟩ => by
    obtain ⟨y, z, rfl⟩ := two hyl
    have S1 : SB K He Fr Hd ps m ow1 (k2 :: k1 :: ts) σ (z :: y :: xs) H1 := S1
    obtain ⟨p, us, rfl, hsq, hd⟩ := seq_ok S1 S1.pop.2.pop.1 (hs 0 _ _ (Nat.zero_le _) h0).1
    obtain ⟨p', us', rfl, hsq', hd'⟩ := seq_ok S1 S1.pop.1 (hs 0 _ _ (Nat.zero_le _) h0).2
    refine ⟨p, p', us, us', rfl, hsq, hsq', fun i n σ H => n = es.length - i ∧ i ≤ es.length ∧ ∃ m ow, I i m ow ∧ SA K He Fr m ow (k2 :: k1 :: ts) σ (.ref p' :: .ref p :: xs) H, ⟨_, rfl, Nat.zero_le _, _, _, h0, _, _, S1⟩, ?_⟩
    rintro i n σ2 H2 ⟨rfl, hi, m2, ow2, I2, Hd2, ps2, S2⟩
    obtain ⟨p2, us2, e, hsq2, hd2⟩ := seq_ok S2 S2.pop.2.pop.1 (hs i _ _ hi I2).1
    cases e
    obtain ⟨p3, us3, e, hsq3, hd3⟩ := seq_ok S2 S2.pop.1 (hs i _ _ hi I2).2
    cases e
    have hlen := dpa_len hd2
    have hlen3 := dpa_len hd3
    by_cases hlt : i < es.length
    · refine .inr ⟨⟨us2, us3, us2[i]'(by omega), us3[i]'(by omega), hsq2, hsq3, List.getElem?_eq_getElem (by omega), List.getElem?_eq_getElem (by omega)⟩, _, fun σ' H' h => ⟨es.length - (i + 1), by omega, rfl, hlt, h⟩, fun x H' hy => ?_⟩
      obtain ⟨T, x, x', rfl, hT, rfl, hy, hy'⟩ := hy
      obtain ⟨d, h1, h2⟩ := dpa_at hd2 (hy us2 hsq2)
      obtain ⟨d', h1', h2'⟩ := dpa_at hd3 (hy' us3 hsq3)
      have e : Same H2 (upd H2 T (.tup [x, x'])) := fun a o q => by rw [upd_ne (ne_of_none q hT)]; exact q
      have S3 := S2.grow e
      refine ⟨T, [x, x'], rfl, .inl (.inl upd_same), rfl, _, _, rfl, ?_⟩
      refine ⟨_, _, rfl, rfl, ?_⟩
      exact ht i d d' m2 ow2 h1 h1' I2 He Fr (k2 :: k1 :: ts) _ (.ref p' :: .ref p :: xs) _ _ ⟨Hd2, ps2, (S3.store (ek_ok h2) j1).store (ek_ok h2') j2⟩ ⟨fun m ow σ H q S => ⟨m, ow, q, S⟩, fun k' m ow σ x H q S => F.rt _ _ _ _ _ _ q ((S.drop2 rfl).drop2 rfl), fun m ow σ H q S => F.nx _ _ _ _ q S.drop.drop, fun m ow σ H q S => ⟨m, ow, q, S⟩, S1.inT⟩
    · have e : i = es.length := by omega
      subst e
      exact .inl ⟨⟨us2, us3, hsq2, hsq3, by omega⟩, F.nx _ _ _ _ (he _ _ I2) ⟨Hd2, ps2, S2.pop.2.pop.2⟩⟩
end
section
variable {K : PySem.W.Frag} {m : Env'} {ow : List OC} {P : Post} {te te2 : TE} {t u : TS} {X : Knd → List OC → Prop}
/-- if not e or not f: .. -/
theorem ss_ifNX2 (h : EX K te m ow X) (hX : ∀ k ow1, X k ow1 → k = .v (.bl true) ∧ ∃ Y : Knd → List OC → Prop, EX K te2 m ow1 Y ∧ ∀ k2 ow2, Y k2 ow2 → k2 = .v (.bl true) ∧ SS K u m ow2 P) : SS K (tIfS (tOr (tNot (tB te)) (tNot (tB te2))) t u) m ow P := fun He Fr ts σ xs H D S F =>
  h He Fr ts σ xs H _ S fun k ow1 x H1 hx S1 => by
    obtain ⟨rfl, Y, h2, hY⟩ := hX k ow1 hx
    refine ⟨true, S1.top, ?_⟩
    show (if (!true) = true then _ else _)
    rw [if_neg (by decide)]
    refine h2 He Fr ts σ xs H1 _ S1.drop fun k2 ow2 x2 H2 hx2 S2 => ?_
    obtain ⟨rfl, hu⟩ := hY k2 ow2 hx2
    refine ⟨true, S2.top, ?_⟩
    show (if (!true) = true then _ else _)
    rw [if_neg (by decide)]
    exact hu He Fr ts σ xs H2 D S2.drop F
end
section
variable {K : PySem.W.Frag} {m : Env'} {ow ow1 : List OC} {P : Post} {te : TE} {tc : TT} {t u : TS} {X : Knd → List OC → Prop}
/-- if t or not e: .. -/
theorem ss_ifONX (h0 : EB K tc m ow false ow1) (h : EX K te m ow1 X) (hX : ∀ k ow2, X k ow2 → k = .v (.bl true) ∧ SS K u m ow2 P) : SS K (tIfS (tOr tc (tNot (tB te))) t u) m ow P := fun He Fr ts σ xs H D S F =>
  h0 He Fr ts σ xs H _ S fun H1 S1 => by
    show (if false = true then _ else _)
    rw [if_neg Bool.false_ne_true]
    refine h He Fr ts σ xs H1 _ S1 fun k2 ow2 x2 H2 hx2 S2 => ?_
    obtain ⟨rfl, hu⟩ := hX k2 ow2 hx2
    refine ⟨true, S2.top, ?_⟩
    show (if (!true) = true then _ else _)
    rw [if_neg (by decide)]
    exact hu He Fr ts σ xs H2 D S2.drop F
end
section
variable {K : PySem.W.Frag} {m : Env'} {ow : List OC} {te : TE} {X Y : Knd → List OC → Prop} {tl th : TO}
/-- e[a:b], e with outcomes -/
theorem ex_slice (b : Bool) (h : EX K te m ow X) (hY : ∀ k ow1, X k ow1 → ∃ lo hi ow2 ow3 fl ds, EO K tl m ow1 lo ow2 ∧ EO K th m ow2 hi ow3 ∧ seqOf ow3 k = some (fl, ds) ∧ (fl || imms (cutD ds lo hi)) = true ∧ Y (newK b ow3 (cutD ds lo hi)) (newO b ow3 (cutD ds lo hi))) :
    EX K (tSl (rSlL K) te tl th) m ow Y := fun He Fr ts σ xs H Q S q =>
  h He Fr ts σ xs H _ S fun k ow1 x H1 hX S1 => by
    obtain ⟨lo, hi, ow2, ow3, fl, ds, h1, h2, hs, hp, hy⟩ := hY k ow1 hX
    exact h1 He Fr _ σ _ H1 _ S1 fun H2 S2 => h2 He Fr _ σ _ H2 _ S2 fun H3 ⟨Hd, ps, S3⟩ => by
      obtain ⟨p, vs, rfl, a, c⟩ := seq_ok S3 S3.pop.1 hs
      refine ⟨p, vs, rfl, a, fun q' hq => q _ _ _ _ hy (S3.pop.2.made b hq (prt (b := fl) ?_ hp))⟩
      unfold cutV cutD
      rw [dpa_len c]
      exact dpa_take _ (dpa_drop _ c)
end
end LD

/-! min of a list of pairs of whole numbers. -/
namespace LD
open PySem PySem.Spec PyProof.Rows L2 PySem.W
def pD (p : Int × Int) : PyData := .tuple [.int p.1, .int p.2]
def lessP (p q : Int × Int) : Bool := decide (p.1 < q.1 ∨ (p.1 = q.1 ∧ p.2 < q.2))
def minP (x : Int × Int) (xs : List (Int × Int)) : Int × Int := xs.foldl (fun a y => if lessP y a then y else a) x
theorem minD_pairs (xs : List (Int × Int)) : ∀ x : Int × Int, minD (pD x) (xs.map pD) = pD (minP x xs) := by
  unfold minD minP
  induction xs with
  | nil => intro x; rfl
  | cons y r ih =>
    intro x
    rw [List.map_cons, List.foldl_cons, List.foldl_cons, ← ih]
    have : dataLt (pD y) (pD x) = lessP y x := dataLt_ii ..
    rw [this]
    cases lessP y x <;> rfl
theorem minP_mem (xs : List (Int × Int)) : ∀ x, minP x xs ∈ x :: xs := by
  unfold minP
  induction xs with
  | nil => intro x; exact List.mem_cons_self ..
  | cons y r ih =>
    intro x
    rw [List.foldl_cons]
    have := ih (if lessP y x then y else x)
    rcases List.mem_cons.mp this with h | h
    · rw [h]
      split
      · exact List.mem_cons_of_mem _ (List.mem_cons_self ..)
      · exact List.mem_cons_self ..
    · exact List.mem_cons_of_mem _ (List.mem_cons_of_mem _ h)
theorem minP_le (xs : List (Int × Int)) : ∀ x, ∀ y ∈ x :: xs, (minP x xs).1 ≤ y.1 := by
  unfold minP
  induction xs with
  | nil => intro x y h; rw [List.mem_singleton.mp h]; exact Int.le_refl _
  | cons z r ih =>
    intro x y h
    rw [List.foldl_cons]
    have key : (if lessP z x = true then z else x).1 ≤ x.1 ∧ (if lessP z x = true then z else x).1 ≤ z.1 := by
      by_cases c : lessP z x = true
      · rw [if_pos c]
        have := of_decide_eq_true c
        omega
      · rw [if_neg c]
        have c : lessP z x = false := by simpa using c
        have := of_decide_eq_false c
        omega
    have hx := ih (if lessP z x = true then z else x) _ (List.mem_cons_self ..)
    rcases List.mem_cons.mp h with h | h
    · rw [h]; omega
    · rcases List.mem_cons.mp h with h | h
      · rw [h]; omega
      · exact ih _ y (List.mem_cons_of_mem _ h)
theorem alike_pairs (xs : List (Int × Int)) : AlikeAll (xs.map pD) := by
  refine ⟨fun x hx y hy => ?_, fun x hx => ?_⟩
  · obtain ⟨p, _, rfl⟩ := List.mem_map.mp hx
    obtain ⟨q, _, rfl⟩ := List.mem_map.mp hy
    simp [pD, alike, alikeAll]
  · obtain ⟨p, _, rfl⟩ := List.mem_map.mp hx
    intro z; cases z
theorem depth_pairs : ∀ xs : List (Int × Int), PyData.depthAll (xs.map pD) ≤ 2
  | [] => by rw [List.map_nil, PyData.depthAll]; decide
  | x :: r => by
    have := depth_pairs r
    rw [List.map_cons, PyData.depthAll]
    have : (pD x).depth ≤ 2 := by simp [pD, PyData.depth, PyData.depthAll]
    omega
def rMinT (K : PySem.W.Frag) : List V → Hp → VK → Prop := fun vs H Q => ∃ (a : Addr) (xs : List V) (p : Int × Int) (ps : List (Int × Int)), vs = [.ref a] ∧ SqL K H a xs ∧ DpAll K H xs ((p :: ps).map pD) ∧
  ∀ (i : Nat) (x : V), xs[i]? = some x → ((p :: ps).map pD)[i]? = some (pD (minP p ps)) → Q x H
theorem cr_minT {X : Cx} (hc : X.calm = true) (hu : X.A.units + 65 < cLine) : CallR X (.builtin "min") (rMinT X.K) := by
  intro pins s σ H vs us Q I r h
  obtain ⟨a, xs, p, ps, rfl, hs, hd, q⟩ := h
  obtain ⟨its, rv, hl, _⟩ := I.list hs
  rw [Vals.ref1 r]
  obtain ⟨as, hr⟩ := Dp.readsAll I _ xs its hd rv
  have hdep := depth_pairs (p :: ps)
  refine min_list_data (x := pD p) (xs := ps.map pD) (I.ok.hd hc) hl.isList (by simpa using hr) (alike_pairs (p :: ps)) (by show X.A.units + 1 + PyData.depthAll ((p :: ps).map pD) < cLine; omega) fun i v h' tk bs hv hrd hk => ?_
  have hv : its[i]? = some v := by simpa using hv
  have hlen := rv.length
  obtain ⟨hi, e⟩ := List.getElem?_eq_some_iff.mp hv
  have hx : xs[i]? = some (xs[i]'(by omega)) := List.getElem?_eq_getElem (by omega)
  obtain ⟨u, g1, g2⟩ := rv.get hx
  rw [hv] at g1
  cases g1
  have hld := dpa_len hd
  have hdi : ((p :: ps).map pD)[i]? = some (((p :: ps).map pD)[i]'(by omega)) := List.getElem?_eq_getElem (by omega)
  obtain ⟨y, k1, k2⟩ := dpa_get hd hdi
  rw [hx] at k1
  cases k1
  obtain ⟨cs, hrd2⟩ := Dp.reads I _ _ v k2 g2
  have hdet := (reads_det (fun b o h _ => hk b o h) hrd2 hrd).1
  refine ⟨_, H, I.kept hk, g2, q i _ hx ?_⟩
  rw [hdi, ← hdet]
  exact congrArg some (minD_pairs ps p)
section
variable {X : Cx} {K : PySem.W.Frag} {m : Env'} {ow : List OC} {k : Knd}
theorem cr_minTK (hK : X.K = K) (hc : X.calm = true) (hu : X.A.units + 65 < cLine) : CallR X (.builtin "min") (rMinT K) := hK ▸ cr_minT hc hu
theorem cc_minT {p : Int × Int} {ps : List (Int × Int)} (h : seqOf ow k = some (true, (p :: ps).map pD)) : CC K (rMinT K) m ow [k] (.dat (pD (minP p ps))) ow := by
  rintro He Fr ts σ ys xs H Q hl ⟨Hd, qs, S⟩ q
  obtain ⟨y, rfl⟩ := one hl
  obtain ⟨a, us, rfl, h1, h2⟩ := seq_ok S S.pop.1 h
  refine ⟨a, us, p, ps, rfl, h1, dpa_mono ((reg_sub true).trans S.dh) h2, fun i x hx hi => q x H ⟨Hd, qs, S.pop.2.push ?_⟩⟩
  obtain ⟨y, k1, k2⟩ := dpa_get h2 hi
  rw [hx] at k1
  cases k1
  exact ek_ok (b := true) k2
end
section
variable {K : PySem.W.Frag} {m : Env'} {ow ow1 : List OC} {P : Post} {ar : TA} {i l : Int}
/-- for x in range(a, b, -1) -/
theorem ss_forRD {tb : TS} {j : Nat} (I : Nat → Env' → List OC → Prop) (n : Nat) (h : EA K ar m ow [.v (.int i), .v (.int l), .v (.int (-1))] ow1) (hn : (i - l).toNat = n) (b1 : -10000000 < i) (b2 : i < 10000000) (b3 : -10000000 < l) (b4 : l < 10000000) (h0 : I 0 m ow1)
    (ht : ∀ a m ow, a < n → I a m ow → SS K tb (m.set j (some (.v (.int (i - (a : Int)))))) ow { nx := I (a + 1), rt := P.rt, bk := P.nx, ct := I (a + 1), n0 := ow1.length }) (he : ∀ m ow, I n m ow → P.nx m ow) :
    SS K (tFor (iRng3 ar) (gName j) tb) m ow P := fun He Fr ts σ xs H D S F =>
  h He Fr ts σ xs H _ S fun ys H1 hyl ⟨Hd, ps, S0⟩ => by
    obtain ⟨hp, S1⟩ := S0.args hyl
    obtain ⟨y, z, w, rfl⟩ : ∃ y z w, ys = [y, z, w] := by match ys, hyl with | [y, z, w], _ => exact ⟨y, z, w, rfl⟩
    cases hp with
    | cons hy hp => cases hp with
      | cons hz hp => cases hp with
        | cons hw _ =>
        cases (show y = .int i from hy)
        cases (show z = .int l from hz)
        cases (show w = .int (-1) from hw)
        refine ⟨i, l, -1, n, rfl, by rw [← hn]; exact RgC.neg (by omega) (by omega) (by omega) (by omega), fun a k σ H => k = n - a ∧ a ≤ n ∧ ∃ m ow, I a m ow ∧ SA K He Fr m ow ts σ xs H, ⟨_, rfl, Nat.zero_le _, _, _, h0, _, _, S1⟩, ?_⟩
        rintro a k σ2 H2 ⟨rfl, hi, m2, ow2, I2, Hd2, ps2, S2⟩
        by_cases hlt : a < n
        · refine .inr ⟨hlt, _, fun σ' H' h => ⟨n - (a + 1), by omega, rfl, hlt, h⟩, fun x H' hy => ?_⟩
          obtain ⟨rfl, e⟩ := hy
          have e : x = V.int (i - (a : Int)) := by rw [e]; congr 1; omega
          subst e
          exact ht a m2 ow2 hlt I2 He Fr ts _ xs _ _ ⟨Hd2, ps2, S2.store (x := .int (i - (a : Int))) (k := .v (.int (i - (a : Int)))) rfl j⟩ ⟨fun m ow σ H q S => ⟨m, ow, q, S⟩, F.rt, fun m ow σ H q S => F.nx _ _ _ _ q S, fun m ow σ H q S => ⟨m, ow, q, S⟩, S1.inT⟩
        · have e : a = n := by omega
          subst e
          exact .inl ⟨Nat.le_refl _, F.nx _ _ _ _ (he _ _ I2) ⟨Hd2, ps2, S2⟩⟩
end
section
variable {K : PySem.W.Frag} {He Fr H : Hp} {m : Env'} {ow ow1 : List OC} {ts : List Knd} {σ : L2.St} {xs : List V} {ar : TA} {te : TE} {tt : TT} {k1 k2 : Knd} {fl1 fl2 : Bool}
/-- [.. for a, b in zip(xs, ys) if t] -/
theorem ee_lcZ {α β : Type} (b : Bool) {vs : List Nat} {j1 j2 : Nat} (as : List α) (bs : List β) (em1 : α → PyData) (em2 : β → PyData) (c : α × β → Bool) (f : α × β → PyData) (hl : EA K ar m ow [k1, k2] ow1) (hs1 : seqOf ow1 k1 = some (fl1, as.map em1)) (hs2 : seqOf ow1 k2 = some (fl2, bs.map em2)) (hlen2 : bs.length ≤ as.length)
    (hT : ∀ (a : α) (e : β), (a, e) ∈ as.zip bs → EB K tt ((((wipeM m vs).set j1 (some (ek fl1 (em1 a))))).set j2 (some (ek fl2 (em2 e)))) ow1 (c (a, e)) ow1 ∧ (c (a, e) = true → ∃ k', pd k' = some (f (a, e)) ∧ EE K te ((((wipeM m vs).set j1 (some (ek fl1 (em1 a))))).set j2 (some (ek fl2 (em2 e)))) ow1 k' ow1))
    (h1 : j1 ∈ vs) (h2 : j2 ∈ vs) (hz : bs.length < 10000000) :
    EE K (tLc (iZip K ar) (gTup K 2 (gNs [j1, j2])) tt te vs) m ow (newK b ow1 (((as.zip bs).filter c).map f)) (newO b ow1 (((as.zip bs).filter c).map f)) := fun He Fr ts σ xs H Q S q =>
  hl He Fr ts σ xs H _ S fun ys H1 hyl ⟨Hd, ps, S1⟩ => by
    obtain ⟨y, z, rfl⟩ := two hyl
    have S1 : SB K He Fr Hd ps m ow1 (k2 :: k1 :: ts) σ (z :: y :: xs) H1 := S1
    obtain ⟨p, us, rfl, hsq, _⟩ := seq_ok S1 S1.pop.2.pop.1 hs1
    obtain ⟨p', us', rfl, hsq', _⟩ := seq_ok S1 S1.pop.1 hs2
    refine ⟨p, p', us, us', rfl, hsq, hsq', fun D hD => ?_⟩
    have hF := S1.noF hD
    have zl : (as.zip bs).length = bs.length := by rw [List.length_zip]; omega
    refine ⟨fun i n H => n = bs.length - i ∧ i ≤ bs.length ∧ SoFar K He Fr m ow1 (k2 :: k1 :: ts) σ (.ref p' :: .ref p :: xs) D ((((as.zip bs).take i).filter c).map f) H, ⟨_, rfl, Nat.zero_le _, lc_begin S1 hD⟩, ?_⟩
    rintro i n H2 ⟨rfl, hi, S2⟩
    obtain ⟨Hd2, ps2, acc, hD2, S3, hacc⟩ := id S2
    obtain ⟨p2, us2, e, hsq2, hd2⟩ := seq_ok S3 S3.pop.2.pop.1 hs1
    cases e
    obtain ⟨p3, us3, e, hsq3, hd3⟩ := seq_ok S3 S3.pop.1 hs2
    cases e
    have hsq2 := (hid_sub H2 D).seq hsq2
    have hsq3 := (hid_sub H2 D).seq hsq3
    have hlen : us2.length = as.length := by rw [dpa_len hd2, List.length_map]
    have hlen3 : us3.length = bs.length := by rw [dpa_len hd3, List.length_map]
    by_cases hlt : i < bs.length
    · have ha : as[i]? = some (as[i]'(by omega)) := List.getElem?_eq_getElem (by omega)
      have hb : bs[i]? = some bs[i] := List.getElem?_eq_getElem hlt
      have hzi : (as.zip bs)[i]? = some (as[i]'(by omega), bs[i]) := by rw [List.getElem?_zip_eq_some]; exact ⟨ha, hb⟩
      refine .inr ⟨⟨us2, us3, us2[i]'(by omega), us3[i]'(by omega), hsq2, hsq3, List.getElem?_eq_getElem (by omega), List.getElem?_eq_getElem (by omega)⟩, _, fun H' h => ⟨bs.length - (i + 1), by omega, rfl, hlt, h⟩, fun x H' hy => ?_⟩
      obtain ⟨T, x, x', rfl, hTn, rfl, hy, hy'⟩ := hy
      obtain ⟨d, g1, g2⟩ := dpa_at hd2 (hy us2 hsq2)
      rw [List.getElem?_map, ha] at g1
      cases g1
      obtain ⟨d', g3, g4⟩ := dpa_at hd3 (hy' us3 hsq3)
      rw [List.getElem?_map, hb] at g3
      cases g3
      refine ⟨T, [x, x'], rfl, .inl (.inl upd_same), rfl, _, _, rfl, ?_⟩
      refine ⟨_, _, rfl, rfl, ?_⟩
      have S4 := S3.grow (hid_grow (D := D) (o := .tup [x, x']) hTn)
      have hDT : D ≠ T := fun z => by rw [← z, hD2] at hTn; cases hTn
      have hD3 : upd H2 T (.tup [x, x']) D = some (.lst acc) := by rw [upd_ne hDT]; exact hD2
      obtain ⟨zs, hz1, hz2⟩ := hold S4.sv
      have S5 := (S4.lock hD3 rfl).tvs (prd_app (dpa_prd (ps := ps2) hacc) (prd_app hz1 S4.tv))
      have lz := PySem.Paired.length hz1
      have la := dpa_len hacc
      have S6 := ((S5.wipe vs).store (ek_ok g2) j1).store (ek_ok g4) j2
      obtain ⟨ht, he⟩ := hT _ _ (List.mem_of_getElem? hzi)
      refine ⟨by rw [wipe_set _ h2, wipe_set _ h1, wipe_wipe], ht He _ _ _ _ _ _ ⟨_, _, S6⟩ fun H3 ⟨Hd3, ps3, S7⟩ => ?_⟩
      have back : ∀ {Hd4 : Hp} {ps4 : List Addr} {m4 : Env'} {σ4 : L2.St} {H4 : Hp}, SB K He (upd Fr D (.lst acc)) Hd4 ps4 m4 ow1 (((((as.zip bs).take i).filter c).map f).map Knd.dat ++ (known m ++ (k2 :: k1 :: ts))) σ4 (acc ++ (zs ++ (.ref p' :: .ref p :: xs))) H4 →
          H4 D = some (.lst acc) ∧ SB K He Fr Hd4 ps4 m ow1 (k2 :: k1 :: ts) σ (.ref p' :: .ref p :: xs) (hid H4 D) ∧ DpAll K (port He Hd4) acc ((((as.zip bs).take i).filter c).map f) := by
        intro Hd4 ps4 m4 σ4 H4 S4
        obtain ⟨e, S5⟩ := S4.unlock hF
        obtain ⟨t1, t2⟩ := prd_split (by rw [List.length_map]; exact la) S5.tv
        obtain ⟨t3, t4⟩ := prd_split lz t2
        exact ⟨e, (S5.svs (hz2 _ _ _ t3)).tvs t4, of_dpa_prd t1⟩
      cases hc : c (as[i]'(by omega), bs[i]) with
      | false =>
        rw [if_neg Bool.false_ne_true]
        rw [filt_step hzi, hc, if_neg Bool.false_ne_true]
        obtain ⟨e, S8, h5⟩ := back S7
        exact ⟨_, _, acc, e, S8, h5⟩
      | true =>
        rw [if_pos rfl]
        obtain ⟨k', hk', he⟩ := he hc
        refine he He _ _ _ _ _ _ ⟨_, _, S7⟩ fun y H4 ⟨Hd4, ps4, S9⟩ => ?_
        obtain ⟨hy, S9⟩ := S9.pop
        obtain ⟨e, S8, h5⟩ := back S9
        have hlz : ((((as.zip bs).take i).filter c).map f).length < 10000000 := by
          rw [List.length_map]
          refine Nat.lt_of_le_of_lt (List.length_filter_le ..) ?_
          rw [List.length_take, zl]; omega
        refine ⟨acc, e, by rw [la, sizeLine_eq]; omega, ?_⟩
        rw [filt_step hzi, hc, if_pos rfl]
        exact ⟨Hd4, ps4, acc ++ [y], upd_same, by rw [hid_upd]; exact S8, dpa_app h5 (.cons (pd_ok hy hk') .nil)⟩
    · have e : i = bs.length := by omega
      subst e
      refine .inl ⟨⟨us2, us3, hsq2, hsq3, by omega⟩, q _ _ ?_⟩
      rw [List.take_of_length_le (by rw [zl]; exact Nat.le_refl _)] at S2
      obtain ⟨Hd5, ps5, S5⟩ := lc_end b S2
      obtain ⟨g1, g2⟩ := S5.pop
      exact ⟨Hd5, ps5, g2.pop.2.pop.2.push g1⟩
def mnL (ns : List Int) : Int := ns.foldl (fun a y => if y < a then y else a) (ns.headD 0)
theorem mnL_mem {ns : List Int} (h : ns ≠ []) : mnL ns ∈ ns ∧ ∀ y ∈ ns, mnL ns ≤ y := by
  have go : ∀ (l : List Int) (x : Int), l.foldl (fun a y => if y < a then y else a) x ∈ x :: l ∧ ∀ y ∈ x :: l, l.foldl (fun a y => if y < a then y else a) x ≤ y := by
    intro l
    induction l with
    | nil => intro x; exact ⟨List.mem_cons_self .., fun y h => by rw [List.mem_singleton.mp h]; exact Int.le_refl _⟩
    | cons z r ih =>
      intro x
      rw [List.foldl_cons]
      obtain ⟨a, b⟩ := ih (if z < x then z else x)
      have hb := b _ (List.mem_cons_self ..)
      refine ⟨?_, fun y h => ?_⟩
      · rcases List.mem_cons.mp a with h | h
        · rw [h]; split
          · exact List.mem_cons_of_mem _ (List.mem_cons_self ..)
          · exact List.mem_cons_self ..
        · exact List.mem_cons_of_mem _ (List.mem_cons_of_mem _ h)
      · rcases List.mem_cons.mp h with h | h
        · rw [h]; split at hb <;> split <;> omega
        · rcases List.mem_cons.mp h with h | h
          · rw [h]; split at hb <;> split <;> omega
          · exact b y (List.mem_cons_of_mem _ h)
  cases ns with
  | nil => exact absurd rfl h
  | cons x r =>
    obtain ⟨a, b⟩ := go r x
    have e : mnL (x :: r) = r.foldl (fun a y => if y < a then y else a) x := by
      unfold mnL
      rw [List.foldl_cons]
      show r.foldl _ (if x < x then x else x) = _
      rw [if_neg (by omega)]
    rw [e]
    exact ⟨a, b⟩
theorem mnL_eq {ns : List Int} {M : Int} (h1 : M ∈ ns) (h2 : ∀ y ∈ ns, M ≤ y) : M = mnL ns := by
  obtain ⟨a, b⟩ := mnL_mem (List.ne_nil_of_mem h1)
  have := b M h1
  have := h2 _ a
  omega
theorem cc_min {ns : List Int} {k : Knd} {fl : Bool} (h : seqOf ow k = some (fl, ns.map PyData.int)) (hne : ns ≠ []) : CC K (rMin K) m ow [k] (.v (.int (mnL ns))) ow := by
  rintro He Fr ts σ ys xs H Q hl ⟨Hd, ps, S⟩ q
  obtain ⟨y, rfl⟩ := one hl
  obtain ⟨p, vs, rfl, h1, h2⟩ := seq_ok S S.pop.1 h
  rw [of_dpa_ints h2] at h1
  refine ⟨p, ns, rfl, h1, List.length_pos_iff.mpr hne, fun M h3 h4 => ?_⟩
  rw [mnL_eq h3 h4]
  exact q _ H ⟨Hd, ps, S.pop.2.push rfl⟩
end
end LD

/-! Targets of any shape: for (a, b), c in zip(xs, ys); [.. for a, (_, b) in zip(xs, ys)]; [.. for _, b in xs]. -/
namespace LD
open PySem PySem.Spec PyProof.Rows L2
/-- the target g, with the slots js, takes an item of data -/
def ST (K : PySem.W.Frag) (g : TG) (js : List Nat) (fl : Bool) (d : PyData) (m m' : Env') : Prop := ∀ (He Fr Hd : Hp) (ps : List Addr) (ow : List OC) (ts : List Knd) (σ : L2.St) (xs : List V) (H : Hp) (x : V) (Q : L2.St → Hp → Prop), SB K He Fr Hd ps m ow ts σ xs H → Dp K (reg fl He Hd) x d →
  (∀ σ', SB K He Fr Hd ps m' ow ts σ' xs H → (∀ vs : List Nat, (∀ j ∈ js, j ∈ vs) → wipe σ' vs = wipe σ vs) → Q σ' H) → g x σ H Q
section
variable {K : PySem.W.Frag} {fl : Bool} {d d1 d2 : PyData} {m m1 m2 : Env'} {g1 g2 : TG} {js1 js2 : List Nat}
theorem st_name (j : Nat) : ST K (gName j) [j] fl d m (m.set j (some (ek fl d))) := fun He Fr Hd ps ow ts σ xs H x Q S h q =>
  q _ (S.store (ek_ok h) j) fun vs hv => wipe_set _ (hv j (List.mem_singleton.mpr rfl))
theorem st_pair (h1 : ST K g1 js1 fl d1 m m1) (h2 : ST K g2 js2 fl d2 m1 m2) : ST K (gTup K 2 (gCons g1 (gCons g2 gNil))) (js1 ++ js2) fl (.tuple [d1, d2]) m m2 := fun He Fr Hd ps ow ts σ xs H x Q S h q => by
  obtain ⟨pt, vs, rfl, t1, t2⟩ := tup_ok S (ek_ok h) (b := fl) (ds := [d1, d2]) (by cases fl <;> rfl)
  cases t2 with
  | cons ha t => cases t with
    | cons hb t =>
      cases t
      exact ⟨pt, _, rfl, t1, rfl, _, _, rfl, h1 He Fr Hd ps ow ts σ xs H _ _ S ha fun σ1 S1 w1 => ⟨_, _, rfl, h2 He Fr Hd ps ow ts σ1 xs H _ _ S1 hb fun σ2 S2 w2 => ⟨rfl, q σ2 S2 fun vs hv => (w2 vs fun j hj => hv j (List.mem_append_right _ hj)).trans (w1 vs fun j hj => hv j (List.mem_append_left _ hj))⟩⟩⟩
end
section
variable {K : PySem.W.Frag} {m : Env'} {ow ow1 : List OC} {P : Post} {k k1 k2 : Knd} {tl : TE} {ar : TA} {g g1 g2 : TG} {js js1 js2 : List Nat} {fl fl1 fl2 : Bool}
/-- for (..) in xs -/
theorem ss_forG {tb : TS} (I : Nat → Env' → List OC → Prop) (fl : Bool) (ds : List PyData) (h : EE K tl m ow k ow1) (h0 : I 0 m ow1) (hs : ∀ i m ow, i ≤ ds.length → I i m ow → seqOf ow k = some (fl, ds))
    (ht : ∀ i d m ow, ds[i]? = some d → I i m ow → ∃ m', ST K g js fl d m m' ∧ SS K tb m' ow { nx := I (i + 1), rt := P.rt, bk := P.nx, ct := I (i + 1), n0 := ow1.length }) (he : ∀ m ow, I ds.length m ow → P.nx m ow) :
    SS K (tFor (iList K tl) g tb) m ow P := fun He Fr ts σ xs H D S F =>
  h He Fr ts σ xs H _ S fun x H1 ⟨Hd, ps, S1⟩ => by
    obtain ⟨p, us, rfl, hsq, _⟩ := seq_ok S1 S1.pop.1 (hs 0 _ _ (Nat.zero_le _) h0)
    refine ⟨p, rfl, ⟨us, hsq⟩, fun i n σ H => n = ds.length - i ∧ i ≤ ds.length ∧ ∃ m ow, I i m ow ∧ SA K He Fr m ow (k :: ts) σ (.ref p :: xs) H, ⟨_, rfl, Nat.zero_le _, _, _, h0, _, _, S1⟩, ?_⟩
    rintro i n σ2 H2 ⟨rfl, hi, m2, ow2, I2, Hd2, ps2, S2⟩
    obtain ⟨p2, us2, e, hsq2, hd2⟩ := seq_ok S2 S2.pop.1 (hs i _ _ hi I2)
    cases e
    have hlen := dpa_len hd2
    by_cases hlt : i < ds.length
    · refine .inr ⟨⟨us2, us2[i]'(by omega), hsq2, List.getElem?_eq_getElem (by omega)⟩, _, fun σ' H' h => ⟨ds.length - (i + 1), by omega, rfl, hlt, h⟩, fun x H' hy => ?_⟩
      obtain ⟨rfl, hy⟩ := hy
      obtain ⟨d, h1, h2⟩ := dpa_at hd2 (hy us2 hsq2)
      obtain ⟨m', hS, hB⟩ := ht i d m2 ow2 h1 I2
      exact hS He Fr Hd2 ps2 ow2 _ _ _ _ _ _ S2 h2 fun σ' S' _ => hB He Fr (k :: ts) _ (.ref p :: xs) _ _ ⟨Hd2, ps2, S'⟩ ⟨fun m ow σ H q S => ⟨m, ow, q, S⟩, fun k' m ow σ x H q S => F.rt _ _ _ _ _ _ q (S.drop2 rfl), fun m ow σ H q S => F.nx _ _ _ _ q S.drop, fun m ow σ H q S => ⟨m, ow, q, S⟩, S1.inT⟩
    · have e : i = ds.length := by omega
      subst e
      exact .inl ⟨⟨us2, hsq2, by omega⟩, F.nx _ _ _ _ (he _ _ I2) ⟨Hd2, ps2, S2.pop.2⟩⟩
/-- for (..), (..) in zip(xs, ys), the second list no longer than the first -/
theorem ss_zipG {tbd : TS} (I : Nat → Env' → List OC → Prop) (fl1 fl2 : Bool) (ds es : List PyData) (h : EA K ar m ow [k1, k2] ow1) (h0 : I 0 m ow1) (hl : es.length ≤ ds.length) (hs : ∀ i m ow, i ≤ es.length → I i m ow → seqOf ow k1 = some (fl1, ds) ∧ seqOf ow k2 = some (fl2, es))
    (ht : ∀ i d e m ow, ds[i]? = some d → es[i]? = some e → I i m ow → ∃ m1 m2, ST K g1 js1 fl1 d m m1 ∧ ST K g2 js2 fl2 e m1 m2 ∧ SS K tbd m2 ow { nx := I (i + 1), rt := P.rt, bk := P.nx, ct := I (i + 1), n0 := ow1.length }) (he : ∀ m ow, I es.length m ow → P.nx m ow) :
    SS K (tFor (iZip K ar) (gTup K 2 (gCons g1 (gCons g2 gNil))) tbd) m ow P := fun He Fr ts σ xs H D S F =>
  h He Fr ts σ xs H _ S fun ys H1 hyl ⟨Hd, ps, S1⟩ => by
    obtain ⟨y, z, rfl⟩ := two hyl
    have S1 : SB K He Fr Hd ps m ow1 (k2 :: k1 :: ts) σ (z :: y :: xs) H1 := S1
    obtain ⟨p, us, rfl, hsq, hd⟩ := seq_ok S1 S1.pop.2.pop.1 (hs 0 _ _ (Nat.zero_le _) h0).1
    obtain ⟨p', us', rfl, hsq', hd'⟩ := seq_ok S1 S1.pop.1 (hs 0 _ _ (Nat.zero_le _) h0).2
    refine ⟨p, p', us, us', rfl, hsq, hsq', fun i n σ H => n = es.length - i ∧ i ≤ es.length ∧ ∃ m ow, I i m ow ∧ SA K He Fr m ow (k2 :: k1 :: ts) σ (.ref p' :: .ref p :: xs) H, ⟨_, rfl, Nat.zero_le _, _, _, h0, _, _, S1⟩, ?_⟩
    rintro i n σ2 H2 ⟨rfl, hi, m2, ow2, I2, Hd2, ps2, S2⟩
    obtain ⟨p2, us2, e, hsq2, hd2⟩ := seq_ok S2 S2.pop.2.pop.1 (hs i _ _ hi I2).1
    cases e
    obtain ⟨p3, us3, e, hsq3, hd3⟩ := seq_ok S2 S2.pop.1 (hs i _ _ hi I2).2
    cases e
    have hlen := dpa_len hd2
    have hlen3 := dpa_len hd3
    by_cases hlt : i < es.length
    · refine .inr ⟨⟨us2, us3, us2[i]'(by omega), us3[i]'(by omega), hsq2, hsq3, List.getElem?_eq_getElem (by omega), List.getElem?_eq_getElem (by omega)⟩, _, fun σ' H' h => ⟨es.length - (i + 1), by omega, rfl, hlt, h⟩, fun x H' hy => ?_⟩
      obtain ⟨T, x, x', rfl, hT, rfl, hy, hy'⟩ := hy
      obtain ⟨d, h1, h2⟩ := dpa_at hd2 (hy us2 hsq2)
      obtain ⟨d', h1', h2'⟩ := dpa_at hd3 (hy' us3 hsq3)
      have e : Same H2 (upd H2 T (.tup [x, x'])) := fun a o q => by rw [upd_ne (ne_of_none q hT)]; exact q
      have S3 := S2.grow e
      obtain ⟨m3, m4, hA, hB, hC⟩ := ht i d d' m2 ow2 h1 h1' I2
      exact ⟨T, [x, x'], rfl, .inl (.inl upd_same), rfl, x, [x'], rfl, hA He Fr Hd2 ps2 ow2 _ _ _ _ _ _ S3 h2 fun σ3 S4 _ => ⟨x', [], rfl, hB He Fr Hd2 ps2 ow2 _ _ _ _ _ _ S4 h2' fun σ4 S5 _ => ⟨rfl, hC He Fr (k2 :: k1 :: ts) _ (.ref p' :: .ref p :: xs) _ _ ⟨Hd2, ps2, S5⟩ ⟨fun m ow σ H q S => ⟨m, ow, q, S⟩, fun k' m ow σ x H q S => F.rt _ _ _ _ _ _ q ((S.drop2 rfl).drop2 rfl), fun m ow σ H q S => F.nx _ _ _ _ q S.drop.drop, fun m ow σ H q S => ⟨m, ow, q, S⟩, S1.inT⟩⟩⟩⟩
    · have e : i = es.length := by omega
      subst e
      exact .inl ⟨⟨us2, us3, hsq2, hsq3, by omega⟩, F.nx _ _ _ _ (he _ _ I2) ⟨Hd2, ps2, S2.pop.2.pop.2⟩⟩
end
section
variable {K : PySem.W.Frag} {He Fr H : Hp} {m : Env'} {ow ow1 : List OC} {ts : List Knd} {σ : L2.St} {xs : List V} {ar : TA} {te tl : TE} {tt : TT} {k k1 k2 : Knd} {fl fl1 fl2 : Bool} {g g1 g2 : TG} {js js1 js2 : List Nat}
/-- [.. for (..) in xs if t] -/
theorem ee_lcG {α : Type} (b : Bool) {vs : List Nat} (as : List α) (em : α → PyData) (c : α → Bool) (f : α → PyData) (hl : EE K tl m ow k ow1) (hs : seqOf ow1 k = some (fl, as.map em)) (hj : ∀ j ∈ js, j ∈ vs)
    (hT : ∀ a ∈ as, ∃ m', ST K g js fl (em a) (wipeM m vs) m' ∧ EB K tt m' ow1 (c a) ow1 ∧ (c a = true → ∃ k', pd k' = some (f a) ∧ EE K te m' ow1 k' ow1)) (hz : as.length < 10000000) :
    EE K (tLc (iList K tl) g tt te vs) m ow (newK b ow1 ((as.filter c).map f)) (newO b ow1 ((as.filter c).map f)) := fun He Fr ts σ xs H Q S q =>
  hl He Fr ts σ xs H _ S fun x H1 ⟨Hd, ps, S1⟩ => by
    obtain ⟨p, us, rfl, hsq, _⟩ := seq_ok S1 S1.pop.1 hs
    refine ⟨p, rfl, ⟨us, hsq⟩, fun D hD => ?_⟩
    have hF := S1.noF hD
    refine ⟨fun i n H => n = as.length - i ∧ i ≤ as.length ∧ SoFar K He Fr m ow1 (k :: ts) σ (.ref p :: xs) D (((as.take i).filter c).map f) H, ⟨_, rfl, Nat.zero_le _, lc_begin S1 hD⟩, ?_⟩
    rintro i n H2 ⟨rfl, hi, S2⟩
    obtain ⟨Hd2, ps2, acc, hD2, S3, hacc⟩ := id S2
    obtain ⟨p2, us2, e, hsq2, hd2⟩ := seq_ok S3 S3.pop.1 hs
    cases e
    have hsq2 := (hid_sub H2 D).seq hsq2
    have hlen : us2.length = as.length := by rw [dpa_len hd2, List.length_map]
    by_cases hlt : i < as.length
    · have ha : as[i]? = some as[i] := List.getElem?_eq_getElem hlt
      refine .inr ⟨⟨us2, us2[i]'(by omega), hsq2, List.getElem?_eq_getElem (by omega)⟩, _, fun H' h => ⟨as.length - (i + 1), by omega, rfl, hlt, h⟩, fun x H' hy => ?_⟩
      obtain ⟨rfl, hy⟩ := hy
      obtain ⟨d, g1, g2⟩ := dpa_at hd2 (hy us2 hsq2)
      rw [List.getElem?_map, ha] at g1
      cases g1
      obtain ⟨zs, hz1, hz2⟩ := hold S3.sv
      have S5 := (S3.lock hD2 rfl).tvs (prd_app (dpa_prd (ps := ps2) hacc) (prd_app hz1 S3.tv))
      have lz := PySem.Paired.length hz1
      have la := dpa_len hacc
      obtain ⟨m', hS, ht, he⟩ := hT _ (List.mem_of_getElem? ha)
      refine hS He _ _ _ _ _ _ _ _ _ _ (S5.wipe vs) g2 fun σ1 S6 w1 => ⟨(w1 vs hj).trans (wipe_wipe σ vs), ht He _ _ _ _ _ _ ⟨_, _, S6⟩ fun H3 ⟨Hd3, ps3, S7⟩ => ?_⟩
      have back : ∀ {Hd4 : Hp} {ps4 : List Addr} {m4 : Env'} {σ4 : L2.St} {H4 : Hp}, SB K He (upd Fr D (.lst acc)) Hd4 ps4 m4 ow1 ((((as.take i).filter c).map f).map Knd.dat ++ (known m ++ (k :: ts))) σ4 (acc ++ (zs ++ (.ref p :: xs))) H4 →
          H4 D = some (.lst acc) ∧ SB K He Fr Hd4 ps4 m ow1 (k :: ts) σ (.ref p :: xs) (hid H4 D) ∧ DpAll K (port He Hd4) acc (((as.take i).filter c).map f) := by
        intro Hd4 ps4 m4 σ4 H4 S4
        obtain ⟨e, S5⟩ := S4.unlock hF
        obtain ⟨t1, t2⟩ := prd_split (by rw [List.length_map]; exact la) S5.tv
        obtain ⟨t3, t4⟩ := prd_split lz t2
        exact ⟨e, (S5.svs (hz2 _ _ _ t3)).tvs t4, of_dpa_prd t1⟩
      cases hc : c as[i] with
      | false =>
        rw [if_neg Bool.false_ne_true]
        rw [filt_step ha, hc, if_neg Bool.false_ne_true]
        obtain ⟨e, S8, h5⟩ := back S7
        exact ⟨_, _, acc, e, S8, h5⟩
      | true =>
        rw [if_pos rfl]
        obtain ⟨k', hk', he⟩ := he hc
        refine he He _ _ _ _ _ _ ⟨_, _, S7⟩ fun y H4 ⟨Hd4, ps4, S9⟩ => ?_
        obtain ⟨hy, S9⟩ := S9.pop
        obtain ⟨e, S8, h5⟩ := back S9
        have hlz : (((as.take i).filter c).map f).length < 10000000 := by
          rw [List.length_map]
          refine Nat.lt_of_le_of_lt (List.length_filter_le ..) ?_
          rw [List.length_take]; omega
        refine ⟨acc, e, by rw [la, sizeLine_eq]; omega, ?_⟩
        rw [filt_step ha, hc, if_pos rfl]
        exact ⟨Hd4, ps4, acc ++ [y], upd_same, by rw [hid_upd]; exact S8, dpa_app h5 (.cons (pd_ok hy hk') .nil)⟩
    · have e : i = as.length := by omega
      subst e
      refine .inl ⟨⟨us2, hsq2, by omega⟩, q _ _ ?_⟩
      rw [List.take_length] at S2
      obtain ⟨Hd5, ps5, S5⟩ := lc_end b S2
      obtain ⟨g1, g2⟩ := S5.pop
      exact ⟨Hd5, ps5, g2.pop.2.push g1⟩
/-- [.. for (..), (..) in zip(xs, ys) if t] -/
theorem ee_lcZG {α β : Type} (b : Bool) {vs : List Nat} (as : List α) (bs : List β) (em1 : α → PyData) (em2 : β → PyData) (c : α × β → Bool) (f : α × β → PyData) (hl : EA K ar m ow [k1, k2] ow1) (hs1 : seqOf ow1 k1 = some (fl1, as.map em1)) (hs2 : seqOf ow1 k2 = some (fl2, bs.map em2)) (hlen2 : bs.length ≤ as.length)
    (hj1 : ∀ j ∈ js1, j ∈ vs) (hj2 : ∀ j ∈ js2, j ∈ vs)
    (hT : ∀ (a : α) (e : β), (a, e) ∈ as.zip bs → ∃ m1 m2, ST K g1 js1 fl1 (em1 a) (wipeM m vs) m1 ∧ ST K g2 js2 fl2 (em2 e) m1 m2 ∧ EB K tt m2 ow1 (c (a, e)) ow1 ∧ (c (a, e) = true → ∃ k', pd k' = some (f (a, e)) ∧ EE K te m2 ow1 k' ow1)) (hz : bs.length < 10000000) :
    EE K (tLc (iZip K ar) (gTup K 2 (gCons g1 (gCons g2 gNil))) tt te vs) m ow (newK b ow1 (((as.zip bs).filter c).map f)) (newO b ow1 (((as.zip bs).filter c).map f)) := fun He Fr ts σ xs H Q S q =>
  hl He Fr ts σ xs H _ S fun ys H1 hyl ⟨Hd, ps, S1⟩ => by
    obtain ⟨y, z, rfl⟩ := two hyl
    have S1 : SB K He Fr Hd ps m ow1 (k2 :: k1 :: ts) σ (z :: y :: xs) H1 := S1
    obtain ⟨p, us, rfl, hsq, _⟩ := seq_ok S1 S1.pop.2.pop.1 hs1
    obtain ⟨p', us', rfl, hsq', _⟩ := seq_ok S1 S1.pop.1 hs2
    refine ⟨p, p', us, us', rfl, hsq, hsq', fun D hD => ?_⟩
    have hF := S1.noF hD
    have zl : (as.zip bs).length = bs.length := by rw [List.length_zip]; omega
    refine ⟨fun i n H => n = bs.length - i ∧ i ≤ bs.length ∧ SoFar K He Fr m ow1 (k2 :: k1 :: ts) σ (.ref p' :: .ref p :: xs) D ((((as.zip bs).take i).filter c).map f) H, ⟨_, rfl, Nat.zero_le _, lc_begin S1 hD⟩, ?_⟩
    rintro i n H2 ⟨rfl, hi, S2⟩
    obtain ⟨Hd2, ps2, acc, hD2, S3, hacc⟩ := id S2
    obtain ⟨p2, us2, e, hsq2, hd2⟩ := seq_ok S3 S3.pop.2.pop.1 hs1
    cases e
    obtain ⟨p3, us3, e, hsq3, hd3⟩ := seq_ok S3 S3.pop.1 hs2
    cases e
    have hsq2 := (hid_sub H2 D).seq hsq2
    have hsq3 := (hid_sub H2 D).seq hsq3
    have hlen : us2.length = as.length := by rw [dpa_len hd2, List.length_map]
    have hlen3 : us3.length = bs.length := by rw [dpa_len hd3, List.length_map]
    by_cases hlt : i < bs.length
    · have ha : as[i]? = some (as[i]'(by omega)) := List.getElem?_eq_getElem (by omega)
      have hb : bs[i]? = some bs[i] := List.getElem?_eq_getElem hlt
      have hzi : (as.zip bs)[i]? = some (as[i]'(by omega), bs[i]) := by rw [List.getElem?_zip_eq_some]; exact ⟨ha, hb⟩
      refine .inr ⟨⟨us2, us3, us2[i]'(by omega), us3[i]'(by omega), hsq2, hsq3, List.getElem?_eq_getElem (by omega), List.getElem?_eq_getElem (by omega)⟩, _, fun H' h => ⟨bs.length - (i + 1), by omega, rfl, hlt, h⟩, fun x H' hy => ?_⟩
      obtain ⟨T, x, x', rfl, hTn, rfl, hy, hy'⟩ := hy
      obtain ⟨d, g1, g2⟩ := dpa_at hd2 (hy us2 hsq2)
      rw [List.getElem?_map, ha] at g1
      cases g1
      obtain ⟨d', g3, g4⟩ := dpa_at hd3 (hy' us3 hsq3)
      rw [List.getElem?_map, hb] at g3
      cases g3
      have S4 := S3.grow (hid_grow (D := D) (o := .tup [x, x']) hTn)
      have hDT : D ≠ T := fun z => by rw [← z, hD2] at hTn; cases hTn
      have hD3 : upd H2 T (.tup [x, x']) D = some (.lst acc) := by rw [upd_ne hDT]; exact hD2
      obtain ⟨zs, hz1, hz2⟩ := hold S4.sv
      have S5 := (S4.lock hD3 rfl).tvs (prd_app (dpa_prd (ps := ps2) hacc) (prd_app hz1 S4.tv))
      have lz := PySem.Paired.length hz1
      have la := dpa_len hacc
      obtain ⟨m1, m2, hA, hB, ht, he⟩ := hT _ _ (List.mem_of_getElem? hzi)
      refine ⟨T, [x, x'], rfl, .inl (.inl upd_same), rfl, x, [x'], rfl, hA He _ _ _ _ _ _ _ _ _ _ (S5.wipe vs) g2 fun σ1 S6 w1 => ⟨x', [], rfl, hB He _ _ _ _ _ _ _ _ _ _ S6 g4 fun σ2 S6' w2 => ⟨rfl, ((w2 vs hj2).trans (w1 vs hj1)).trans (wipe_wipe σ vs), ht He _ _ _ _ _ _ ⟨_, _, S6'⟩ fun H3 ⟨Hd3, ps3, S7⟩ => ?_⟩⟩⟩
      have back : ∀ {Hd4 : Hp} {ps4 : List Addr} {m4 : Env'} {σ4 : L2.St} {H4 : Hp}, SB K He (upd Fr D (.lst acc)) Hd4 ps4 m4 ow1 (((((as.zip bs).take i).filter c).map f).map Knd.dat ++ (known m ++ (k2 :: k1 :: ts))) σ4 (acc ++ (zs ++ (.ref p' :: .ref p :: xs))) H4 →
          H4 D = some (.lst acc) ∧ SB K He Fr Hd4 ps4 m ow1 (k2 :: k1 :: ts) σ (.ref p' :: .ref p :: xs) (hid H4 D) ∧ DpAll K (port He Hd4) acc ((((as.zip bs).take i).filter c).map f) := by
        intro Hd4 ps4 m4 σ4 H4 S4
        obtain ⟨e, S5⟩ := S4.unlock hF
        obtain ⟨t1, t2⟩ := prd_split (by rw [List.length_map]; exact la) S5.tv
        obtain ⟨t3, t4⟩ := prd_split lz t2
        exact ⟨e, (S5.svs (hz2 _ _ _ t3)).tvs t4, of_dpa_prd t1⟩
      cases hc : c (as[i]'(by omega), bs[i]) with
      | false =>
        rw [if_neg Bool.false_ne_true]
        rw [filt_step hzi, hc, if_neg Bool.false_ne_true]
        obtain ⟨e, S8, h5⟩ := back S7
        exact ⟨_, _, acc, e, S8, h5⟩
      | true =>
        rw [if_pos rfl]
        obtain ⟨k', hk', he⟩ := he hc
        refine he He _ _ _ _ _ _ ⟨_, _, S7⟩ fun y H4 ⟨Hd4, ps4, S9⟩ => ?_
        obtain ⟨hy, S9⟩ := S9.pop
        obtain ⟨e, S8, h5⟩ := back S9
        have hlz : ((((as.zip bs).take i).filter c).map f).length < 10000000 := by
          rw [List.length_map]
          refine Nat.lt_of_le_of_lt (List.length_filter_le ..) ?_
          rw [List.length_take, zl]; omega
        refine ⟨acc, e, by rw [la, sizeLine_eq]; omega, ?_⟩
        rw [filt_step hzi, hc, if_pos rfl]
        exact ⟨Hd4, ps4, acc ++ [y], upd_same, by rw [hid_upd]; exact S8, dpa_app h5 (.cons (pd_ok hy hk') .nil)⟩
    · have e : i = bs.length := by omega
      subst e
      refine .inl ⟨⟨us2, us3, hsq2, hsq3, by omega⟩, q _ _ ?_⟩
      rw [List.take_of_length_le (by rw [zl]; exact Nat.le_refl _)] at S2
      obtain ⟨Hd5, ps5, S5⟩ := lc_end b S2
      obtain ⟨g1, g2⟩ := S5.pop
      exact ⟨Hd5, ps5, g2.pop.2.pop.2.push g1⟩
end
end LD

/-! e is not True; a builtin of an argument with outcomes; slices of lists of data. -/
namespace LD
open PySem PySem.Spec PyProof.Rows L2
/-- e is not True -/
def tNotT (ta : TE) : TE := fun σ H Q => ta σ H fun x H1 => ∃ b, x = V.bl b ∧ Q (.bl (!b)) H1
theorem pc_notT {X : Cx} {a : Expr} {ta : TE} {j pos'} (ha : PE X a ta) : PC X .IsNot a (.Constant (.bool true) j pos') (tNotT ta) := by
  refine ⟨fun pins s σ H Q I h => ?_⟩
  refine thn (ha.run pins s σ H _ I h) fun v s1 ⟨x, H1, I1, r1, q1⟩ => ?_
  obtain ⟨b, rfl, q⟩ := q1
  cases r1
  exact Constant_bool (isnot_bool ⟨.bl (!b), H1, I1, by cases b <;> rfl, q⟩)
section
variable {K : PySem.W.Frag} {m : Env'} {ow ow1 ow2 ow3 : List OC} {k : Knd} {te : TE} {b fl : Bool} {X Y : Knd → List OC → Prop} {r : List V → Hp → VK → Prop} {t1 t2 : TO}
theorem ee_notT (h : EE K te m ow (.v (.bl b)) ow1) : EE K (tNotT te) m ow (.v (.bl (!b))) ow1 := fun He Fr ts σ xs H Q S q =>
  h He Fr ts σ xs H _ S fun x H1 S1 => ⟨b, S1.top, by have := S1.top; subst this; exact q _ H1 (S1.drop.pushV _)⟩
/-- f(e), f a builtin, e with one of several outcomes -/
theorem ex_cb (h : EX K te m ow X) (hY : ∀ k ow1, X k ow1 → ∃ k2 ow2, CC K r m ow1 [k] k2 ow2 ∧ Y k2 ow2) : EX K (tCB r (tCons te tNil)) m ow Y := fun He Fr ts σ xs H Q S q =>
  h He Fr ts σ xs H _ S fun k ow1 x H1 hX S1 => by
    obtain ⟨k2, ow2, hc, hy⟩ := hY k ow1 hX
    exact hc He Fr ts σ [x] xs H1 Q rfl S1 fun y H2 S2 => q k2 ow2 y H2 hy S2
theorem ee_toQ (bb : Bool) (ds : List PyData) (n : Nat) (h : EE K te m ow k ow1) (h2 : EO K t2 m ow1 (some (n : Int)) ow2) (hs : seqOf ow2 k = some (fl, ds)) (hp : (fl || imms (ds.take n)) = true) :
    EE K (tSl (rSlL K) te tNoPart t2) m ow (newK bb ow2 (ds.take n)) (newO bb ow2 (ds.take n)) := by
  have e := cut_to ds n
  rw [← e] at hp ⊢
  exact ee_slice bb h eo_no h2 hs hp
theorem ee_fromQ (bb : Bool) (ds : List PyData) (n : Nat) (h : EE K te m ow k ow1) (h1 : EO K t1 m ow1 (some (n : Int)) ow2) (hs : seqOf ow2 k = some (fl, ds)) (hp : (fl || imms (ds.drop n)) = true) :
    EE K (tSl (rSlL K) te t1 tNoPart) m ow (newK bb ow2 (ds.drop n)) (newO bb ow2 (ds.drop n)) := by
  have e := cut_from ds n
  rw [← e] at hp ⊢
  exact ee_slice bb h h1 eo_no hs hp
theorem ee_midQ (bb : Bool) (ds : List PyData) (i j : Nat) (h : EE K te m ow k ow1) (h1 : EO K t1 m ow1 (some (i : Int)) ow2) (h2 : EO K t2 m ow2 (some (j : Int)) ow3) (hs : seqOf ow3 k = some (fl, ds)) (hij : i ≤ j) (hj : j ≤ ds.length) (hp : (fl || imms ((ds.drop i).take (j - i))) = true) :
    EE K (tSl (rSlL K) te t1 t2) m ow (newK bb ow3 ((ds.drop i).take (j - i))) (newO bb ow3 ((ds.drop i).take (j - i))) := by
  have e := cut_both ds hij hj
  rw [← e] at hp ⊢
  exact ee_slice bb h h1 h2 hs hp
end
end LD

/-! name = {k: v for x in xs} on one line, the name a local. -/
namespace LD
open PySem PySem.Spec PyProof.Rows L2
variable {X : Cx}
theorem sw_dic {kx vx : Expr} {gs : List Comprehension} {scope : Scope} {pos py : Pos} {y : Str} {l : Nat} {env : Env} (hk : env.scope.kind = .function) (hy : env.scope.names.lookup y = some .local) (hl : (py.line == pos.line) = true)
    (ha : (scope.names.any fun (n, k) => n == y && (k == .local || k == .cell)) = false) : swapsWith (.DictComp kx vx gs scope pos) (some (.Name y py)) l env = pure true := by
  have ky : env.kindOf y = some .local := hy
  have hb : env.blockKind = .function := by unfold Env.blockKind; rw [hk]; rfl
  unfold swapsWith
  simp only [hb, ky, ha, Expr.pos, hl]
  rfl
theorem ps_setDc {i : Nat} {y : Str} {py : Pos} {kx vx tg iter : Expr} {ifs : List Expr} {scope : Scope} {own : List (Str × Nat)} {pos spos : Pos} {wi : TI} {g : TG} {tt : TT} {tk tv : TE} (hc : X.calm = true) (hN : X.N.Nodup) (hy : X.N[i]? = some y) (hyl : X.env.scope.names.lookup y = some .local)
    (hsw : swapsWith (.DictComp kx vx [⟨tg, iter, ifs, 0⟩] scope pos) (some (.Name y py)) spos.line X.env = pure true) (hi : PI X tg iter wi) (ok : BlkOk X.N X.env.scope scope own)
    (hg : ∀ (s : Shared) (H : Hp) (C : Addr) (cl : List (Str × Addr)) (fp : List Addr), PG (X.blk s H scope (compEnvC scope cl C X.env) fp) tg g) (ht : ∀ (s : Shared) (H : Hp) (C : Addr) (cl : List (Str × Addr)) (fp : List Addr), PTs (X.blk s H scope (compEnvC scope cl C X.env) fp) ifs tt)
    (hk : ∀ (s : Shared) (H : Hp) (C : Addr) (cl : List (Str × Addr)) (fp : List Addr), PE (X.blk s H scope (compEnvC scope cl C X.env) fp) kx tk)
    (he : ∀ (s : Shared) (H : Hp) (C : Addr) (cl : List (Str × Addr)) (fp : List Addr), PE (X.blk s H scope (compEnvC scope cl C X.env) fp) vx tv) (hs : ∀ x, foldedSetIterable iter X.env x = pure x := by intro _; rfl) :
    PS X (.Assign [.Name y py] (.DictComp kx vx [⟨tg, iter, ifs, 0⟩] scope pos) spos) (tAsg (tDc wi g tt tk tv (own.map (·.2))) (gName i)) := by
  refine ⟨fun pins s σ H D I h => ?_⟩
  rw [exec_Assign_Name_used _ _ _ _ hsw]
  refine wpAny_bind (wpAny_standAt (wpAny_bind ?_))
  show wpAny _ X.A (do let _ ← comprehension (.DictComp kx vx [⟨tg, iter, ifs, 0⟩] scope pos) scope X.env (firstIterPos [⟨tg, iter, ifs, 0⟩] pos) newDict false (eval iter X.env) (some (assign (.Name y py) X.env))) _ _ s
  have h : tDc wi g tt tk tv (own.map (·.2)) σ H (fun x H1 => gName i x σ H1 D.nx) := h
  refine wpAny_bind (thn (dc_core (Qf := fun _ s' => SP X pins D .next s') hc hN I hi ok hg ht hk he hs h fun L C s' m H' I' q hn f => ?_) fun _ s' hq => wpAny_pure (wpAny_pure hq))
  show wpAny _ _ (assign (.Name y py) X.env (.ref L)) _ _ _
  refine wpAny_assign_Name (store_ok2 (v := V.ref L) I' hN hy (.inl hyl) rfl (fun s2 I2 ⟨a, sb, ha⟩ => ?_) (.inr hyl))
  obtain ⟨f0, f1, f2, f3, f4, f5⟩ := f
  have haC : C ≠ a := by
    rcases ha with z | z
    · rw [z]; exact f1
    · exact fun e => f4 y a z e.symm
  refine ⟨m, hn.sameBut sb haC, fun h3 sb3 => ?_⟩
  exact ⟨_, H', I2.turned (t' := s2.toks) (fun b o hb e => (sb3.2 b hb).trans e) f0 f1 f3 f4 f5, q⟩
end LD

/-! [e for x in range(n) if t], t changes one's own objects. -/
namespace LD
open PySem PySem.Spec PyProof.Rows L2
section
variable {K : PySem.W.Frag} {He Fr H : Hp} {m : Env'} {ow ow1 ow2 : List OC} {ts : List Knd} {σ : L2.St} {xs : List V} {P : Post} {ar : TA} {te : TE} {tt : TT} {i : Int} {n : Nat}
theorem lc_turnT {D : Addr} {ds : List PyData} {x : V} {kx : Knd} {vs : List Nat} {j : Nat} {b : Bool} {Nx : Hp → Prop} (hj : j ∈ vs) (hF : Fr D = none) (ht : EB K tt ((wipeM m vs).set j (some kx)) ow b ow2) (hz : ds.length < 10000000)
    (hx : ∀ Hd ps, SB K He Fr Hd ps m ow ts σ xs (hid H D) → KOk K (port He Hd) Hd ps x kx)
    (S : SoFar K He Fr m ow ts σ xs D ds H)
    (h1 : b = true → ∃ k' d, pd k' = some d ∧ EE K te ((wipeM m vs).set j (some kx)) ow2 k' ow2 ∧ ∀ H', SoFar K He Fr m ow2 ts σ xs D (ds ++ [d]) H' → Nx H')
    (h2 : b = false → ∀ H', SoFar K He Fr m ow2 ts σ xs D ds H' → Nx H') :
    gName j x (wipe σ vs) H fun σ2 H2 => wipe σ2 vs = wipe σ vs ∧ tt σ2 H2 fun b H3 => if b = true then te σ2 H3 fun y H4 => ∃ acc, H4 D = some (.lst acc) ∧ acc.length < sizeLine ∧ Nx (upd H4 D (.lst (acc ++ [y]))) else Nx H3 := by
  obtain ⟨Hd, ps, acc, hD, S, hacc⟩ := S
  obtain ⟨zs, hz1, hz2⟩ := hold S.sv
  have hx := hx Hd ps S
  have S1 := (S.lock hD rfl).tvs (prd_app (dpa_prd (ps := ps) hacc) (prd_app hz1 S.tv))
  have lz := PySem.Paired.length hz1
  have la := dpa_len hacc
  have S2 := (S1.wipe vs).store hx j
  refine ⟨wipe_again σ vs j _ hj, ht He _ _ _ _ _ _ ⟨_, _, S2⟩ fun H3 ⟨Hd3, ps3, S3⟩ => ?_⟩
  have back : ∀ {Hd4 : Hp} {ps4 : List Addr} {m4 : Env'} {σ4 : L2.St} {H4 : Hp}, SB K He (upd Fr D (.lst acc)) Hd4 ps4 m4 ow2 (ds.map Knd.dat ++ (known m ++ ts)) σ4 (acc ++ (zs ++ xs)) H4 →
      H4 D = some (.lst acc) ∧ SB K He Fr Hd4 ps4 m ow2 ts σ xs (hid H4 D) ∧ DpAll K (port He Hd4) acc ds := by
    intro Hd4 ps4 m4 σ4 H4 S4
    obtain ⟨e, S5⟩ := S4.unlock hF
    obtain ⟨t1, t2⟩ := prd_split (by rw [List.length_map]; exact la) S5.tv
    obtain ⟨t3, t4⟩ := prd_split lz t2
    exact ⟨e, (S5.svs (hz2 _ _ _ t3)).tvs t4, of_dpa_prd t1⟩
  cases hc : b with
  | false =>
    rw [if_neg Bool.false_ne_true]
    obtain ⟨e, S7, h5⟩ := back S3
    exact h2 hc _ ⟨_, _, acc, e, S7, h5⟩
  | true =>
    rw [if_pos rfl]
    obtain ⟨k', d, hk', he, q⟩ := h1 hc
    refine he He _ _ _ _ _ _ ⟨_, _, S3⟩ fun y H4 ⟨Hd4, ps4, S4⟩ => ?_
    obtain ⟨hy, S4⟩ := S4.pop
    obtain ⟨e, S5, h5⟩ := back S4
    exact ⟨acc, e, by rw [la, sizeLine_eq]; omega, q _ ⟨Hd4, ps4, acc ++ [y], upd_same, by rw [hid_upd]; exact S5, dpa_app h5 (.cons (pd_ok hy hk') .nil)⟩⟩
theorem ee_lcRT (b : Bool) {vs : List Nat} {j : Nat} (c : Nat → Bool) (oW : Nat → List OC) (dS : Nat → List PyData) (hl : EA K ar m ow [.v (.int i)] (oW 0)) (hn : i = (n : Int)) (h0 : dS 0 = [])
    (hT : ∀ a, a < n → EB K tt ((wipeM m vs).set j (some (.v (.int (a : Int))))) (oW a) (c a) (oW (a + 1)) ∧
      (c a = true → ∃ k' d, pd k' = some d ∧ EE K te ((wipeM m vs).set j (some (.v (.int (a : Int))))) (oW (a + 1)) k' (oW (a + 1)) ∧ dS (a + 1) = dS a ++ [d]) ∧ (c a = false → dS (a + 1) = dS a))
    (hj : j ∈ vs) (hz : ∀ a, a ≤ n → (dS a).length < 10000000) (hz2 : n < 10000000) :
    EE K (tLc (iRng1 ar) (gName j) tt te vs) m ow (newK b (oW n) (dS n)) (newO b (oW n) (dS n)) := fun He Fr ts σ xs H Q S q =>
  hl He Fr ts σ xs H _ S fun ys H1 hyl ⟨Hd, ps, S0⟩ => by
    obtain ⟨hp, S1⟩ := S0.args hyl
    obtain ⟨y, rfl⟩ := one hyl
    subst hn
    cases hp with
    | cons hy _ =>
    have hy : y = .int n := hy
    subst hy
    refine ⟨n, rfl, by omega, by omega, fun D hD => ?_⟩
    have hF := S1.noF hD
    refine ⟨fun a k H => k = n - a ∧ a ≤ n ∧ SoFar K He Fr m (oW a) ts σ xs D (dS a) H, ⟨_, rfl, Nat.zero_le _, by rw [h0]; exact lc_begin S1 hD⟩, ?_⟩
    rintro a k H2 ⟨rfl, hi, S2⟩
    by_cases hlt : a < n
    · obtain ⟨g1, g2, g3⟩ := hT a hlt
      refine .inr ⟨by show a < (n : Int).toNat; omega, _, fun H' h => ⟨n - (a + 1), by omega, rfl, hlt, h⟩, fun x H' hy => ?_⟩
      obtain ⟨rfl, rfl⟩ := hy
      refine lc_turnT hj hF g1 (hz a hi) (fun Hd4 ps4 S4 => ?_) S2 (fun hc => ?_) (fun hc H' h => ?_)
      · show V.int (0 + (a : Int)) = V.int (a : Int)
        rw [Int.zero_add]
      · obtain ⟨k', d, q1, q2, q3⟩ := g2 hc
        exact ⟨k', d, q1, q2, fun H' h => by rw [q3]; exact h⟩
      · rw [g3 hc]; exact h
    · have e : a = n := by omega
      subst e
      exact .inl ⟨by show (a : Int).toNat ≤ a; omega, q _ _ (lc_end b S2)⟩
end
end LD

/-! {e for (..) in xs if t}, e an int; the number of a set's members. -/
namespace LD
open PySem PySem.Spec PyProof.Rows L2

/-- {e for target in iter if t}: D is where the set stands -/
def tSn (w : World) (wi : TI) (g : TG) (tt : TT) (te : TE) (vs : List Nat) : TE := fun σ H Q => wi σ H fun J Ha => ∀ D, Ha D = none →
  ∃ W : Nat → Nat → Hp → Prop, (∃ m, W 0 m (upd Ha D (SetO w D (fun _ => false) 0))) ∧ ∀ i m H, W i m H →
    (J.stop i H ∧ Q (.ref D) H) ∨
    (J.go i H ∧ ∃ Nx : Hp → Prop, (∀ H', Nx H' → ∃ m', m' < m ∧ W (i + 1) m' H') ∧
      ∀ x H', J.yld i H x H' → g x (wipe σ vs) H' fun σ2 H2 => wipe σ2 vs = wipe σ vs ∧
        tt σ2 H2 fun b H3 => if b = true then te σ2 H3 fun y H4 => rSAdd w (.ref D) [y] H4 fun _ H5 => Nx H5 else Nx H3)
section
variable {X : Cx} {elt tg iter : Expr} {ifs : List Expr} {scope : Scope} {own : List (PySem.Str × Nat)} {pos : Pos} {wi : TI} {g : TG} {tt : TT} {te : TE}
theorem pe_sn (calm : X.calm = true) (nd : X.N.Nodup) (pi : PI X tg iter wi) (bo : BlkOk X.N X.env.scope scope own)
    (rg : ∀ (s : Shared) (H : Hp) (C : Addr) (cl : List (PySem.Str × Addr)) (fp : List Addr), PG (X.blk s H scope (compEnvC scope cl C X.env) fp) tg g)
    (rt : ∀ (s : Shared) (H : Hp) (C : Addr) (cl : List (PySem.Str × Addr)) (fp : List Addr), PTs (X.blk s H scope (compEnvC scope cl C X.env) fp) ifs tt)
    (re : ∀ (s : Shared) (H : Hp) (C : Addr) (cl : List (PySem.Str × Addr)) (fp : List Addr), PE (X.blk s H scope (compEnvC scope cl C X.env) fp) elt te)
    (fold : ∀ x, foldedSetIterable iter X.env x = pure x := by intro _; rfl) :
    PE X (.SetComp elt [⟨tg, iter, ifs, 0⟩] scope pos) (tSn X.w wi g tt te (own.map (·.2))) := by
  refine ⟨fun pins s σ H Q I hw => ?_⟩
  rw [PpSet.eval_SetComp]
  have caps : ∀ y ∈ scope.names, y.2 = .free → ∃ c, X.env.cells.lookup y.1 = some c := fun y hy e => (bo.free y hy e).elim (fun k => I.ok.has _ (.inl k)) fun k => I.ok.has _ (.inr k)
  refine wpAny_comprehension_free (use := none) rfl fold (closure_ok caps) bo.kind (fun y hy e => by rw [bo.uniq y hy, e]) ?_
  refine thn (pi.run pins s σ H _ I hw) fun xv sa ha => thn ha fun itv sb hb => ?_
  obtain ⟨it, fp, tn, J, Hb, e, Ib, T, stb, fb, hq⟩ := hb
  subst e
  refine PpSet.newSet_ok (newEnv_comp ?_)
  obtain ⟨D, hD⟩ : ∃ D, sb.heap.objs.size = D := ⟨_, rfl⟩
  rw [hD]
  have noD : Hb D = none := Ib.hok.fresh (Nat.le_of_eq hD)
  obtain ⟨W, ⟨m0, w0⟩, turn⟩ := hq D noD
  obtain ⟨sc, hsc⟩ : ∃ sc : Shared, ({ sb with heap := sb.heap.push { cls := .type "set", dict := none, data := .set #[] 0 (.fresh 0 0 (!X.w.params.followText "set-order")) } } : Shared) = sc := ⟨_, rfl⟩
  have hpc : sc.heap = sb.heap.push { cls := .type "set", dict := none, data := .set #[] 0 (.fresh 0 0 (!X.w.params.followText "set-order")) } := by rw [← hsc]
  have keepc : ∀ b o, sb.heap.get? b = some o → sc.heap.get? b = some o := fun b o e => by rw [hpc]; exact Heap.get?_push_of_some _ e
  obtain ⟨Hc, hHc⟩ : ∃ Hc, upd Hb D (SetO X.w D (fun _ => false) 0) = Hc := ⟨_, rfl⟩
  rw [hHc] at w0
  have Ic : Inv X pins σ Hc sc := by
    rw [← hHc, ← hsc]
    refine Ib.laid (t' := sb.toks) (fun b o e => Heap.get?_push_of_some _ e) (Nat.le_of_eq hD) ?_
    rw [← hD]
    exact setO_new (setR_fresh X.w)
  have ltb : ∀ b ∈ fp, b < sb.heap.objs.size := fun b hb => (T.obj _ _ stb b hb).elim fun o h => Heap.lt_size h.1
  have fc : ∀ b ∈ fp, FpOk X pins Hc b ∧ b < sc.heap.objs.size := fun b hb => by
    have lt := ltb b hb
    have ne : b ≠ D := fun z => by rw [z, ← hD] at lt; exact Nat.lt_irrefl _ lt
    exact ⟨⟨by rw [← hHc, upd_ne ne]; exact (fb b hb).1, (fb b hb).2⟩, by rw [hpc, Heap.size_push]; exact Nat.lt_succ_of_lt lt⟩
  have stc : tn 0 sc.heap := T.keep _ _ _ stb fun b _ o e => keepc b o e
  have Id := block_start Ic bo nd fc
  have gd := rg sc Hc sc.heap.objs.size (cellsFrom (sc.heap.objs.size + 1) scope.names (cloFrom X.env.cells scope.names [])) fp
  have td := rt sc Hc sc.heap.objs.size (cellsFrom (sc.heap.objs.size + 1) scope.names (cloFrom X.env.cells scope.names [])) fp
  have ed := re sc Hc sc.heap.objs.size (cellsFrom (sc.heap.objs.size + 1) scope.names (cloFrom X.env.cells scope.names [])) fp
  rw [hsc]
  obtain ⟨ce, hce⟩ : ∃ ce, compEnvC scope (cellsFrom (sc.heap.objs.size + 1) scope.names (cloFrom X.env.cells scope.names [])) sc.heap.objs.size X.env = ce := ⟨_, rfl⟩
  have cl : ce.locals = sc.heap.objs.size := by rw [← hce]; rfl
  rw [hce] at Id gd td ed
  show codeAny _ _ (.compStart (.SetComp elt [⟨tg, iter, ifs, 0⟩] scope pos) 0 (.ref it) (.ref D) (compEnvC scope (cellsFrom (sc.heap.objs.size + 1) scope.names (cloFrom X.env.cells scope.names [])) sc.heap.objs.size X.env)) (compPost (model X.prog X.w) X.A X.xe none _ (.ref D) sc.heap.objs.size) { sc with heap := pushCells (sc.heap.push { cls := .type "dict", data := .dict #[] }) scope.names }
  rw [hce]
  obtain ⟨sd, hsd⟩ : ∃ sd : Shared, ({ sc with heap := pushCells (sc.heap.push { cls := .type "dict", data := .dict #[] }) scope.names } : Shared) = sd := ⟨_, rfl⟩
  rw [hsd] at Id ⊢
  have std : tn 0 sd.heap := T.keep _ _ _ stc fun b _ o e => by rw [← hsd]; exact pushCells_keeps _ _ _ _ (Heap.get?_push_of_some _ e)
  have inb : ∀ {σ' : L2.St} {H' : Hp} {s' : Shared}, Inv (X.blk sc Hc scope ce fp) [] σ' H' s' → (∀ b ∈ fp, H' b = none) → ∀ b ∈ fp, FpOk (X.blk sc Hc scope ce fp) [] H' b := by
    intro σ' H' s' I' no b hb
    exact ⟨no b hb, (I'.ok.exf b hb).1, I'.ok.exfs b hb, .inl hb, fun x c e => (I'.ok.exf b hb).2 x c e, fun p hp => by simp at hp⟩
  have loop : codeAny (model X.prog X.w) X.A (.compLoop (.SetComp elt [⟨tg, iter, ifs, 0⟩] scope pos) 0 (.ref it) (.ref D) ce) (compPost (model X.prog X.w) X.A X.xe none (EP X pins σ Q) (.ref D) sc.heap.objs.size) sd := by
    refine PpSet.compLoopS_any (fun n s' => ∃ i H', Inv (X.blk sc Hc scope ce fp) [] (wipe σ (own.map (·.2))) H' s' ∧ tn i s'.heap ∧ (∀ b ∈ fp, H' b = none) ∧ W i n H') ?_ m0 ⟨0, Hc, Id, std, fun b hb => (fc b hb).1.1, w0⟩
    rintro n s5 ⟨i, H5, I5, st5, no5, w5⟩
    rcases turn i n H5 w5 with ⟨stop, last⟩ | ⟨go, Nx, less, step⟩
    · refine thnF (T.done (X.blk sc Hc scope ce fp) rfl rfl rfl calm i [] s5 _ H5 (fun _ _ => False) I5 (inb I5 no5) st5 stop) fun r s6 ⟨er, I6⟩ => ?_
      subst er
      have I7 : Inv X pins σ H5 s6 := Ic.call' (ch := fp) I6.os I6.base I6.hok I6.bare fun b hb => ⟨(fc b hb).1.2.2.2.1, (fc b hb).1.2.1, (fc b hb).1.2.2.2.2.1, (fc b hb).1.2.2.2.2.2⟩
      have noC : H5 sc.heap.objs.size = none := by
        have z : H5 ce.locals = none := I6.free
        rwa [cl] at z
      obtain ⟨m, hn, _⟩ := I6.loc
      have hn : s6.heap.Ns ce.locals m := hn
      rw [cl] at hn
      obtain ⟨f0, f1, f2, f3, f4, f5⟩ := Ic.fpOk (Nat.le_refl _) noC
      exact ⟨m, hn, fun h'' sb'' => ⟨.ref D, H5, I7.turned (t' := s6.toks) (fun b o hb e => (sb''.2 b hb).trans e) f0 f1 f3 f4 f5, rfl, last⟩⟩
    · refine thnF (T.item (X.blk sc Hc scope ce fp) rfl rfl rfl calm i [] s5 _ H5 (fun _ _ => False) I5 (inb I5 no5) st5 go) fun r s6 ⟨u, er, h6⟩ => ?_
      subst er
      refine thnF h6 fun _ s7 ⟨x, H7, I7, rx, yx, st7, no7⟩ => ?_
      have J7 := I7.pinned (inb I7 no7) (T.obj _ _ st7)
      refine thnF (gd.run _ s7 _ H7 x u _ J7 rx (step x H7 yx)) fun _ s8 ⟨σ8, H8, I8, ws, q8⟩ => ?_
      refine thnF (td.run _ s8 σ8 H8 _ I8 q8) fun b s9 ⟨H9, I9, q9⟩ => ?_
      have back : ∀ {s' : Shared} {H' : Hp}, Inv (X.blk sc Hc scope ce fp) ([] ++ pinsAt fp s7.heap) σ8 H' s' → Nx H' → ∃ m, m < n ∧ ∃ i H', Inv (X.blk sc Hc scope ce fp) [] (wipe σ (own.map (·.2))) H' s' ∧ tn i s'.heap ∧ (∀ b ∈ fp, H' b = none) ∧ W i m H' := by
        intro s' H' I' nx
        obtain ⟨m', lt, w'⟩ := less H' nx
        have pin : ∀ b ∈ fp, ∀ o, s7.heap.get? b = some o → s'.heap.get? b = some o ∧ H' b = none := fun b hb o e => by
          have z := I'.pin (b, o) (List.mem_append_right _ (List.mem_append_right _ (mem_pinsAt hb e)))
          exact ⟨z.1, z.2.1⟩
        have sl : (wipe σ (own.map (·.2))).length = σ8.length := by rw [← ws, wipe_length]
        refine ⟨m', lt, i + 1, H', (I'.unpinned (pins := [])).weak sl (fun j v e => (wipe_some (by rw [ws]; exact e : (wipe σ8 (own.map (·.2)))[j]? = _)).1), T.keep _ _ _ st7 fun b hb o e => (pin b hb o e).1, fun b hb => ?_, w'⟩
        obtain ⟨o, e, _⟩ := T.obj _ _ st7 b hb
        exact (pin b hb o e).2
      cases b with
      | false => exact back I9 (by simpa using q9)
      | true =>
        simp only [if_true] at q9 ⊢
        refine thnF (ed.run _ s9 σ8 H9 _ I9 q9) fun z s10 ⟨yv, H10, I10, rz, q10⟩ => ?_
        refine thnF (mt_sadd _ s10 σ8 H10 (.ref D) [yv] (.ref D) [z] _ I10 rfl (.cons rz .nil) q10) fun _ s11 ⟨yy, H11, I11, _, nx⟩ => back I11 nx
  exact PpSet.codeAny_compStart_set loop (T.self X.A 0 _ _ _ std loop)
theorem pe_snK {w : World} (hw : X.w = w) (calm : X.calm = true) (nd : X.N.Nodup) (pi : PI X tg iter wi) (bo : BlkOk X.N X.env.scope scope own)
    (rg : ∀ (s : Shared) (H : Hp) (C : Addr) (cl : List (PySem.Str × Addr)) (fp : List Addr), PG (X.blk s H scope (compEnvC scope cl C X.env) fp) tg g)
    (rt : ∀ (s : Shared) (H : Hp) (C : Addr) (cl : List (PySem.Str × Addr)) (fp : List Addr), PTs (X.blk s H scope (compEnvC scope cl C X.env) fp) ifs tt)
    (re : ∀ (s : Shared) (H : Hp) (C : Addr) (cl : List (PySem.Str × Addr)) (fp : List Addr), PE (X.blk s H scope (compEnvC scope cl C X.env) fp) elt te)
    (fold : ∀ x, foldedSetIterable iter X.env x = pure x := by intro _; rfl) :
    PE X (.SetComp elt [⟨tg, iter, ifs, 0⟩] scope pos) (tSn w wi g tt te (own.map (·.2))) := hw ▸ pe_sn calm nd pi bo rg rt re fold
/-- len(s) -/
def rLenO (w : World) : List V → Hp → VK → Prop := fun xs H Q => ∃ (a : Addr) (S : Int → Bool) (n : Nat), xs = [.ref a] ∧ H a = some (SetO w a S n) ∧ Q (.int (n : Int)) H
theorem cr_lenO : CallR X (.builtin "len") (rLenO X.w) := by
  intro pins s σ H xs us Q I r h
  obtain ⟨a, S, n, rfl, ha, q⟩ := h
  obtain ⟨u, rfl, ru⟩ := vals1 r
  cases (show u = Value.ref a from ru)
  obtain ⟨o, es, ep, t, ho, hx, hd, _, _, _, hb, hf, hn, _⟩ := setO_get I ha
  exact call_len_set ho hx hd hf (by rw [hn]; have := fits_of_scanBound hb; rw [sizeLine_eq] at this; omega) ⟨.int (n : Int), H, I.tok _, ⟨_, by rw [hn]⟩, q⟩
end
theorem cr_lenOK {X : Cx} {w : World} (hw : X.w = w) : CallR X (.builtin "len") (rLenO w) := hw ▸ cr_lenO
section
variable {K : PySem.W.Frag} {He Fr H : Hp} {m : Env'} {ow ow1 : List OC} {ts : List Knd} {σ : L2.St} {xs : List V} {te tl : TE} {tt : TT} {k : Knd} {fl : Bool} {g : TG} {js : List Nat} {w : World}
theorem cc_lenO {S : Int → Bool} {i n : Nat} (h : ow[i]? = some (cSet w S n)) : CC K (rLenO w) m ow [.own i] (.v (.int (n : Int))) ow := by
  rintro He Fr ts σ ys xs H Q hl ⟨Hd, ps, S1⟩ q
  obtain ⟨y, rfl⟩ := one hl
  have S1 : SB K He Fr Hd ps m ow (.own i :: ts) σ (y :: xs) H := S1
  obtain ⟨p, vs, _, rfl, _, e3, _, _⟩ := S1.ownG S1.pop.1 h
  exact ⟨p, S, n, rfl, e3, q _ H ⟨Hd, ps, S1.pop.2.push rfl⟩⟩
/-- how many different ones -/
def dcnt : List Int → Nat
  | [] => 0
  | n :: r => if n ∈ r then dcnt r else dcnt r + 1
theorem dcnt_snoc (l : List Int) (n : Int) : dcnt (l ++ [n]) = if n ∈ l then dcnt l else dcnt l + 1 := by
  induction l with
  | nil => simp [dcnt]
  | cons a r ih =>
    show (if a ∈ r ++ [n] then dcnt (r ++ [n]) else dcnt (r ++ [n]) + 1) = if n ∈ a :: r then (if a ∈ r then dcnt r else dcnt r + 1) else (if a ∈ r then dcnt r else dcnt r + 1) + 1
    rw [ih]
    by_cases e : n = a
    · subst e
      rw [if_pos (by simp), if_pos (List.mem_cons_self ..)]
    · have e' : ¬ a = n := fun z => e z.symm
      by_cases h : n ∈ r <;> by_cases h2 : a ∈ r <;> simp [h, h2, e, e']
theorem dcnt_nd : ∀ {l : List Int}, l.Nodup → dcnt l = l.length
  | [], _ => rfl
  | a :: r, h => by
    obtain ⟨h1, h2⟩ := List.nodup_cons.mp h
    show (if a ∈ r then dcnt r else dcnt r + 1) = r.length + 1
    rw [if_neg h1, dcnt_nd h2]
theorem dcnt_le : ∀ l : List Int, dcnt l ≤ l.length
  | [] => Nat.le_refl 0
  | a :: r => by
    have := dcnt_le r
    show (if a ∈ r then dcnt r else dcnt r + 1) ≤ r.length + 1
    split <;> omega
/-- the set so far stands at D -/
def SnFar (K : PySem.W.Frag) (w : World) (He Fr : Hp) (m : Env') (ow : List OC) (ts : List Knd) (σ : L2.St) (xs : List V) (D : Addr) (ns : List Int) (H : Hp) : Prop :=
  ∃ Hd ps, H D = some (SetO w D (fun j => decide (j ∈ ns)) (dcnt ns)) ∧ SB K He Fr Hd ps m ow ts σ xs (hid H D)
/-- {e for (..) in xs if t} -/
theorem ee_sn {α : Type} {vs : List Nat} (as : List α) (em : α → PyData) (c : α → Bool) (f : α → Int) (hl : EE K tl m ow k ow1) (hs : seqOf ow1 k = some (fl, as.map em)) (hj : ∀ j ∈ js, j ∈ vs)
    (hT : ∀ a ∈ as, ∃ m', ST K g js fl (em a) (wipeM m vs) m' ∧ EB K tt m' ow1 (c a) ow1 ∧ (c a = true → EE K te m' ow1 (.v (.int (f a))) ow1)) (hz : as.length < 4000) :
    EE K (tSn w (iList K tl) g tt te vs) m ow (.own ow1.length) (ow1 ++ [cSet w (fun j => decide (j ∈ (as.filter c).map f)) (dcnt ((as.filter c).map f))]) := fun He Fr ts σ xs H Q S q =>
  hl He Fr ts σ xs H _ S fun x H1 ⟨Hd, ps, S1⟩ => by
    obtain ⟨p, us, rfl, hsq, _⟩ := seq_ok S1 S1.pop.1 hs
    refine ⟨p, rfl, ⟨us, hsq⟩, fun D hD => ?_⟩
    have hF := S1.noF hD
    refine ⟨fun i n H => n = as.length - i ∧ i ≤ as.length ∧ SnFar K w He Fr m ow1 (k :: ts) σ (.ref p :: xs) D (((as.take i).filter c).map f) H, ⟨_, rfl, Nat.zero_le _, Hd, ps, ?_, ?_⟩, ?_⟩
    · rw [upd_same]
      refine congrArg some ?_
      show SetO w D (fun _ => false) 0 = SetO w D (fun j => decide (j ∈ ([] : List Int))) 0
      congr 1
    · have e : hid (upd H1 D (SetO w D (fun _ => false) 0)) D = H1 := by
        rw [hid_upd]
        funext a
        unfold hid
        split
        · subst_vars; exact hD.symm
        · rfl
      rw [e]
      exact S1
    rintro i n H2 ⟨rfl, hi, Hd2, ps2, hD2, S3⟩
    obtain ⟨p2, us2, e, hsq2, hd2⟩ := seq_ok S3 S3.pop.1 hs
    cases e
    have hsq2 := (hid_sub H2 D).seq hsq2
    have hlen : us2.length = as.length := by rw [dpa_len hd2, List.length_map]
    by_cases hlt : i < as.length
    · have ha : as[i]? = some as[i] := List.getElem?_eq_getElem hlt
      have step : ((as.take (i + 1)).filter c).map f = if c as[i] = true then ((as.take i).filter c).map f ++ [f as[i]] else ((as.take i).filter c).map f := by
        rw [List.take_add_one, ha]
        show ((as.take i ++ [as[i]]).filter c).map f = _
        rw [List.filter_append, List.map_append]
        cases hc : c as[i] <;> simp [hc]
      refine .inr ⟨⟨us2, us2[i]'(by omega), hsq2, List.getElem?_eq_getElem (by omega)⟩, _, fun H' h => ⟨as.length - (i + 1), by omega, rfl, hlt, h⟩, fun x H' hy => ?_⟩
      obtain ⟨rfl, hy⟩ := hy
      obtain ⟨d, g1, g2⟩ := dpa_at hd2 (hy us2 hsq2)
      rw [List.getElem?_map, ha] at g1
      cases g1
      obtain ⟨zs, hz1, hz2⟩ := hold S3.sv
      have S5 := (S3.lock hD2 rfl).tvs (prd_app hz1 S3.tv)
      have lz := PySem.Paired.length hz1
      obtain ⟨m', hS, ht, he⟩ := hT _ (List.mem_of_getElem? ha)
      refine hS He _ _ _ _ _ _ _ _ _ _ (S5.wipe vs) g2 fun σ1 S6 w1 => ⟨(w1 vs hj).trans (wipe_wipe σ vs), ht He _ _ _ _ _ _ ⟨_, _, S6⟩ fun H3 ⟨Hd3, ps3, S7⟩ => ?_⟩
      obtain ⟨ns, hns⟩ : ∃ ns, ((as.take i).filter c).map f = ns := ⟨_, rfl⟩
      rw [hns] at step S5 S6 S7 hD2
      have back : ∀ {Hd4 : Hp} {ps4 : List Addr} {m4 : Env'} {σ4 : L2.St} {H4 : Hp}, SB K He (upd Fr D (SetO w D (fun j => decide (j ∈ ns)) (dcnt ns))) Hd4 ps4 m4 ow1 (known m ++ (k :: ts)) σ4 (zs ++ (.ref p :: xs)) H4 →
          H4 D = some (SetO w D (fun j => decide (j ∈ ns)) (dcnt ns)) ∧ SB K He Fr Hd4 ps4 m ow1 (k :: ts) σ (.ref p :: xs) (hid H4 D) := by
        intro Hd4 ps4 m4 σ4 H4 S4
        obtain ⟨e, S5⟩ := S4.unlock hF
        obtain ⟨t3, t4⟩ := prd_split lz S5.tv
        exact ⟨e, (S5.svs (hz2 _ _ _ t3)).tvs t4⟩
      have hnl : ns.length ≤ i := by
        rw [← hns, List.length_map]
        refine Nat.le_trans (List.length_filter_le ..) ?_
        rw [List.length_take]; omega
      cases hc : c as[i] with
      | false =>
        rw [if_neg Bool.false_ne_true]
        rw [hc, if_neg Bool.false_ne_true] at step
        rw [step]
        obtain ⟨e, S8⟩ := back S7
        exact ⟨_, _, e, S8⟩
      | true =>
        rw [if_pos rfl]
        rw [hc, if_pos rfl] at step
        refine he hc He _ _ _ _ _ _ ⟨_, _, S7⟩ fun y H4 ⟨Hd4, ps4, S9⟩ => ?_
        obtain ⟨hy, S10⟩ := S9.pop
        cases (show y = V.int (f as[i]) from hy)
        obtain ⟨e, S8⟩ := back S10
        have := dcnt_le ns
        refine ⟨D, f as[i], _, _, rfl, rfl, e, by unfold scanBound; omega, ?_⟩
        rw [step]
        refine ⟨Hd4, ps4, ?_, by rw [hid_upd]; exact S8⟩
        rw [upd_same, dcnt_snoc]
        refine congrArg some ?_
        have e1 : (fun j => decide (j ∈ ns) || decide (j = f as[i])) = fun j => decide (j ∈ ns ++ [f as[i]]) := by funext j; simp
        rw [e1]
        by_cases hm : f as[i] ∈ ns
        · rw [if_pos hm, if_pos (decide_eq_true hm)]
        · rw [if_neg hm, if_neg (by rw [decide_eq_false hm]; exact Bool.false_ne_true)]
    · have e : i = as.length := by omega
      subst e
      refine .inl ⟨⟨us2, hsq2, by omega⟩, q _ _ ?_⟩
      rw [List.take_length] at hD2
      have S4 := S3.grow (hid_sub H2 D)
      have nD : Hd2 D = none := by
        cases z : Hd2 D with
        | none => rfl
        | some o => have := S3.dh _ _ z; rw [hid_at] at this; cases this
      have nP : D ∉ ps2 ++ kids ow1 := fun h => by obtain ⟨o, w⟩ := S3.inH h; rw [hid_at] at w; cases w
      exact ⟨Hd2, _, S4.pop.2.pushC (c0 := cSet w _ _) hF nP ⟨nD, [], hD2, rfl, .nil⟩⟩
end
/-! ### xs * n, whoever made xs -/
theorem mul_any (l : Addr) (its : Array Value) (n : Nat) (dd : Option Addr) (sl : Array (Option Value)) (x : Int) (u : Tok) (c0 : ¬(!Builtin.List.listFitsIndex x) = true) (c1 : ¬its.size * x.toNat > (2 ^ 63 - 1) / 8) (c2 : ¬Builtin.List.listTooLong (its.size * x.toNat) = true) :
    Meets (Builtin.«list.__mul__» ⟨[.ref l, .int x u], []⟩) (fun _ R s => s.heap.get? l = some { cls := .type "list", dict := dd, data := .seq its n, slots := sl } ∧
      R (.ok (.ret (Value.ref s.heap.objs.size))) { s with heap := s.heap.push { cls := Value.type "list", data := Data.seq (List.foldl (fun x1 x2 => x1 ++ x2) #[] (List.replicate (if its.isEmpty = true then 0 else x.toNat) its)) }, toks := s.toks }) := .of_wp fun prog w A R s h => by
  obtain ⟨hp, g, d, tk, os⟩ := s
  obtain ⟨hl, h⟩ := h
  have sz := AutoListH.joined_fits c2
  wp_walk using wpAny_loadPart' hl
  refine wpAny_ite_false (decide_eq_false (Nat.not_lt.mpr sz)) ?_
  wp_walk
  exact ⟨_, rfl, h⟩
theorem rmul_any (a : Int) (t : Tok) (l : Addr) (its : Array Value) (n : Nat) (dd : Option Addr) (sl : Array (Option Value)) : Meets (Builtin.«int.__rmul__» ⟨[.int a t, .ref l], []⟩) (fun _ R s => s.heap.get? l = some { cls := .type "list", dict := dd, data := .seq its n, slots := sl } ∧
    R (.ok (.ret Value.notImplemented)) s) := .of_wp fun prog w A R s h => by
  obtain ⟨hp, g, d, tk, os⟩ := s
  obtain ⟨hl, h⟩ := h
  wp_walk
  exact ⟨_, rfl, h⟩
def rRepS (K : PySem.W.Frag) : R2 := fun x y H Q => ∃ l k xs, x = .ref l ∧ y = .int k ∧ SqL K H l xs ∧ -(2 ^ 63) ≤ k ∧ k < 2 ^ 63 ∧ xs.length * k.toNat ≤ sizeLine ∧ ∀ p, H p = none → Q (.ref p) (upd H p (.lst (List.replicate k.toNat xs).flatten))
theorem op_repS {X : Cx} : OpR X (binaryOp .Mult) (rRepS X.K) := by
  intro pins s σ H x y v u Q I rx ry h
  obtain ⟨l, k, xs, rfl, rfl, hH, h1, h2, hz, q⟩ := h
  cases rx
  obtain ⟨t, rfl⟩ := ry
  obtain ⟨its, r, ⟨⟨cls, dd, data, sl⟩, n, ho, hc, _, hd⟩, _⟩ := I.list hH
  simp only at hc hd
  subst hc hd
  have ln := r.length
  have sz : its.toArray.size * k.toNat ≤ sizeLine := by rw [List.size_toArray, ← ln]; exact hz
  have c0 : ¬ (!Builtin.List.listFitsIndex k) = true := by rw [fitsIndex_both h1 h2]; exact Bool.false_ne_true
  have c1 : ¬ its.toArray.size * k.toNat > (2 ^ 63 - 1) / 8 := by rw [sizeLine_eq] at sz; omega
  have c2 : ¬ Builtin.List.listTooLong (its.toArray.size * k.toNat) = true := by rw [notLongL sz]; exact Bool.false_ne_true
  have enew : List.foldl (fun x1 x2 => x1 ++ x2) #[] (List.replicate (if its.toArray.isEmpty = true then 0 else k.toNat) its.toArray) = (List.replicate k.toNat its).flatten.toArray := by
    have e0 : ∀ m : Nat, List.foldl (fun x1 x2 => x1 ++ x2) #[] (List.replicate m its.toArray) = (List.replicate m its).flatten.toArray := fun m => (foldl_rep its m []).trans (by rw [List.nil_append])
    rw [e0]
    cases its with
    | nil => simp
    | cons a r' => rw [if_neg (by simp)]
  have go := mul_any l its.toArray n dd sl k t c0 c1 c2
  refine wpAny_binaryOp_repeat_ref (T := "list") (U := "int") (by decide) ⟨_, ho, rfl⟩ (fun s' => typeIs_int s' k t) noFill_list_mul F.fills_int_mul F.slot_int_rmul repeat_list F.slot_int_index.lookup ?_
  refine call_meets F.slot_int_rmul (typeIs_int s k t) F.entry_int_rmul (F.args_int_rmul_2 _ _) (rmul_any k t l its.toArray n dd sl) ⟨ho, rfl, ⟨_, ho, rfl⟩, ?_⟩
  refine call_meets F.slot_list_mul ⟨_, ho, rfl⟩ F.entry_list_mul (F.args_list_mul_2 _ _) go ⟨ho, ?_⟩
  rw [enew]
  exact ⟨.ref _, _, I.lnew (t' := s.toks) (r.rep k.toNat) (by rw [PyProof.Rows.lm_len_rep_flat, Nat.mul_comm]; exact hz), rfl, q _ I.fresh⟩
theorem op_repSK {X : Cx} {K : PySem.W.Frag} (hK : X.K = K) : OpR X (binaryOp .Mult) (rRepS K) := hK ▸ op_repS
theorem rr_repS {K : PySem.W.Frag} {m : Env'} {ow : List OC} {k1 : Knd} {ds : List PyData} {f1 : Bool} {i : Int} {n2 : Nat} (b : Bool) (h1 : seqOf ow k1 = some (f1, ds)) (h2 : i.toNat = n2) (h3 : -1000 ≤ i) (h4 : i ≤ 1000) (hz : ds.length ≤ 1000) (p1 : (f1 || imms ds) = true) :
    RR K (rRepS K) m ow k1 (.v (.int i)) (newK b ow (List.replicate n2 ds).flatten) (newO b ow (List.replicate n2 ds).flatten) := by
  rintro He Fr ts σ x y xs H Q ⟨Hd, ps, S⟩ q
  have e : y = .int i := S.pop.1
  obtain ⟨p', vs', rfl, g2, g3⟩ := seq_ok S S.pop.2.pop.1 h1
  refine ⟨p', i, vs', rfl, e, g2, by omega, by omega, ?_, fun r hr => ?_⟩
  · rw [dpa_len g3, sizeLine_eq]
    have : ds.length * i.toNat ≤ 1000 * 1000 := Nat.mul_le_mul hz (by omega)
    omega
  · rw [h2]
    exact q _ _ (S.pop.2.pop.2.made b hr (dpa_rep (prt g3 p1) n2))
/-! ### not xs, as a value -/
theorem pe_notTK {X : Cx} {K : PySem.W.Frag} {a : Expr} {ta : TE} {pos : Pos} (hK : X.K = K) (ha : PE X a ta) : PE X (.UnaryOp .Not a pos) (L2.tNotT K ta) := hK ▸ L2.pe_notT ha
theorem ee_notL {K : PySem.W.Frag} {m : Env'} {ow ow1 : List OC} {k : Knd} {te : TE} {fl : Bool} {ds : List PyData} (h : EE K te m ow k ow1) (hs : seqOf ow1 k = some (fl, ds)) : EE K (L2.tNotT K te) m ow (.v (.bl ds.isEmpty)) ow1 := fun He Fr ts σ xs H Q S q =>
  h He Fr ts σ xs H _ S fun x H1 ⟨Hd, ps, S1⟩ => by
    obtain ⟨p, vs, rfl, h1, h2⟩ := seq_ok S1 S1.pop.1 hs
    have ln := dpa_len h2
    refine ⟨!vs.isEmpty, .inl ⟨vs, h1, by cases vs <;> rfl⟩, ?_⟩
    have e : (!!vs.isEmpty) = ds.isEmpty := by cases vs <;> cases ds <;> first | rfl | simp at ln
    rw [e]
    exact q _ H1 ⟨Hd, ps, S1.pop.2.push rfl⟩
end LD

/-! xs.remove(d), d any data. -/
namespace LD
open PySem PySem.Spec PyProof.Rows L2 PySem.MeetsSeq PySem.SeqAt
theorem rem_walk (l : Addr) (its : Array Value) (n : Nat) (x : Value) (e : Value → Bool) (j : Nat) (hj : j < its.size) (hit : e its[j] = true) (hz : its.size ≤ sizeLine) :
    ∀ (k i : Nat), j - i = k → i ≤ j → (∀ m (hm : m < its.size), i ≤ m → m < j → e its[m] = false) → Meets (Builtin.«list.remove.loop» ⟨[.ref l, x, rawInt i], []⟩)
      (fun A R s => s.heap.get? l = some { cls := .type "list", dict := none, data := .seq its n, slots := #[] } ∧ (∀ y, y ∈ its → EqAt A.in1 s y x (e y)) ∧
        R (.ok (.ret .none)) { s with heap := s.heap.update l (Obj.mapSeq fun xs => xs.eraseIdxIfInBounds j) }) := by
  intro k
  induction k with
  | zero =>
    intro i hk hij hno prog w A R s h
    obtain ⟨hp, g, d, tk, os⟩ := s
    obtain ⟨hl, he, h⟩ := h
    obtain rfl : i = j := by omega
    wp_walk using wpAny_loadPart' hl
    have hi : its[((i : Nat) : Int).toNat]? = some its[i] := by simp [hj]
    rw [hi]
    refine wpAny_bind (he _ (Array.getElem_mem hj) prog w _ _ ?_)
    rw [hit]
    have hz2 : (its.eraseIdxIfInBounds i).size ≤ sizeLine + 1 := Nat.le_trans (size_erased its _) (Nat.le_succ_of_le hz)
    wp_walk using (wpAny_updateSeq hl rfl (hz := hz) (_hz' := hz2)), wpAny_loadPart' hl
    simpa using h
  | succ k ih =>
    intro i hk hij hno prog w A R s h
    obtain ⟨hp, g, d, tk, os⟩ := s
    obtain ⟨hl, he, h⟩ := h
    have hlt : i < its.size := by omega
    wp_walk using wpAny_loadPart' hl
    have hi : its[((i : Nat) : Int).toNat]? = some its[i] := by simp [hlt]
    rw [hi]
    refine wpAny_bind (he _ (Array.getElem_mem hlt) prog w _ _ ?_)
    rw [hno i hlt (Nat.le_refl _) (by omega)]
    wp_walk
    rw [show ((i : Int) + 1) = ((i + 1 : Nat) : Int) by push_cast; rfl]
    have go := ih (i + 1) (by omega) (by omega) (fun m hm h1 h2 => hno m hm (by omega) h2) prog w A R _ ⟨hl, he, h⟩
    exact ⟨plainId_quiet plain_remove_loop _, codeAny_builtin entry_remove_loop (by rw [Around.under_plainId plain_remove_loop _]; exact go)⟩
theorem rem_at (l : Addr) (its : Array Value) (n : Nat) (x : Value) (e : Value → Bool) (j : Nat) (hj : j < its.size) (hit : e its[j] = true) (hno : ∀ m (hm : m < its.size), m < j → e its[m] = false) (hz : its.size ≤ sizeLine) :
    Meets (Builtin.«list.remove» ⟨[.ref l, x], []⟩) (fun A R s => s.heap.get? l = some { cls := .type "list", dict := none, data := .seq its n, slots := #[] } ∧ (∀ y, y ∈ its → EqAt A.in1 s y x (e y)) ∧
      R (.ok (.ret .none)) { s with heap := s.heap.update l (Obj.mapSeq fun xs => xs.eraseIdxIfInBounds j) }) := by
  intro prog w A R s h
  obtain ⟨hp, g, d, tk, os⟩ := s
  obtain ⟨hl, he, h⟩ := h
  wp_walk using wpAny_loadPart' hl
  have go := rem_walk l its n x e j hj hit hz _ 0 rfl (Nat.zero_le _) (fun m hm _ h2 => hno m hm h2) prog w A R _ ⟨hl, he, h⟩
  exact ⟨plainId_quiet plain_remove_loop _, codeAny_builtin entry_remove_loop (by rw [Around.under_plainId plain_remove_loop _]; exact go)⟩
def rRemD (K : PySem.W.Frag) : V → List V → Hp → VK → Prop := fun x args H Q => ∃ (a : Addr) (vs : List V) (y : V) (d : PyData) (ds : List PyData) (j : Nat) (z : PyData), x = V.ref a ∧ args = [y] ∧ H a = some (.lst vs) ∧ DpAll K H vs ds ∧ Dp K H y d ∧
  SeqAt.shaped (.list ds) = true ∧ SeqAt.shaped d = true ∧ ds[j]? = some z ∧ PyData.eqv z d = true ∧ (∀ m z, m < j → ds[m]? = some z → PyData.eqv z d = false) ∧ Q .non (upd H a (.lst (vs.eraseIdx j)))
section
variable {X : Cx}
theorem mt_remD (hu : X.A.units + 65 < cLine) : MtR X "list.remove" (rRemD X.K) := by
  intro pins s σ H x xs v us Q I rx rxs h
  obtain ⟨a, vs, y, d, ds, j, z, rfl, rfl, hH, hl, hy, sl, sd, hz, hzj, hno, q⟩ := h
  cases rx
  cases rxs with
  | cons ry rt =>
    rename_i uy ut
    cases rt
    obtain ⟨bs, r1⟩ := Dp.reads I d y uy hy ry
    have hxs : PyData.canLayAll0 ds = true := SeqAt.canLay_of_shaped sl
    have hroom : X.A.units + 1 + min (PyData.depthAll ds) d.depth < cLine := room_in_shaped sd hu
    obtain ⟨zl, its, n, rv, hlen, e⟩ := I.lstM hH
    obtain ⟨as, h4⟩ := Dp.readsAll I ds _ its hl rv
    have hn : its.length = ds.length := SeqAt.ReadsAll.length ds its as h4
    have hmap : its.map (SeqAt.readOf s.heap) = ds := SeqAt.readsAll_map ds its as hxs h4
    obtain ⟨hjd, _⟩ := List.getElem?_eq_some_iff.mp hz
    have hjl : j < its.length := by omega
    have hj : j < its.toArray.size := by simpa using hjl
    have at_ : ∀ (m : Nat) (hm : m < its.toArray.size) (z' : PyData), ds[m]? = some z' → SeqAt.readOf s.heap its.toArray[m] = z' := by
      intro m hm z' hz'
      have hml : m < its.length := by simpa using hm
      rw [← hmap, List.getElem?_map, List.getElem?_eq_getElem hml] at hz'
      simpa using Option.some.inj hz'
    refine call_meets PySem.F.slot_list_remove ⟨_, e, rfl⟩ PySem.F.entry_list_remove (PySem.F.args_list_remove_2 _ _)
      (rem_at a its.toArray n uy (fun u => PyData.eqv (SeqAt.readOf s.heap u) d) j hj ?_ (fun m hm hmj => ?_) (by rw [List.size_toArray]; omega)) ⟨e, ?_, ?_⟩
    · show PyData.eqv (SeqAt.readOf s.heap its.toArray[j]) d = true
      rw [at_ j hj z hz]; exact hzj
    · have hmd : m < ds.length := by omega
      have hz' : ds[m]? = some ds[m] := List.getElem?_eq_getElem hmd
      show PyData.eqv (SeqAt.readOf s.heap its.toArray[m]) d = false
      rw [at_ m hm _ hz']; exact hno m _ hmj hz'
    · exact SeqAt.items_eqAt (vs := its.toArray) (show ReadsAll s.heap its.toArray.toList ds as from h4) r1 hxs (SeqAt.canLay_of_shaped sd) hroom
    · refine ⟨.non, _, I.lset (its' := its.eraseIdx j) (ys := vs.eraseIdx j) hH e ?_ (rv.eraseIdx j) ?_, rfl, q⟩
      · show its.toArray.eraseIdxIfInBounds j = (its.eraseIdx j).toArray
        simp [Array.eraseIdxIfInBounds, hjl]
      · rw [List.length_eraseIdx]; split <;> omega
end
theorem mt_remDK {X : Cx} {K : PySem.W.Frag} (hK : X.K = K) (hu : X.A.units + 65 < cLine) : MtR X "list.remove" (rRemD K) := hK ▸ mt_remD hu
theorem dpa_eraseIdx {K : PySem.W.Frag} {Hq : Hp} : ∀ {vs : List V} {ds : List PyData} (j : Nat), DpAll K Hq vs ds → DpAll K Hq (vs.eraseIdx j) (ds.eraseIdx j)
  | _, _, _, .nil => .nil
  | _, _, 0, .cons _ t => t
  | _, _, j + 1, .cons a t => .cons a (dpa_eraseIdx j t)
/-- xs.remove(d) -/
theorem ee_remD {K : PySem.W.Frag} {m : Env'} {ow ow1 ow2 : List OC} {k : Knd} {to : TE} {ar : TA} {d z : PyData} {ds0 ds : List PyData} {n j : Nat} (h : EE K to m ow (.own n) ow1) (h0 : ow1[n]? = some (.lst ds0)) (ha : EA K ar m ow1 [k] ow2) (hn : ow2[n]? = some (.lst ds)) (h2 : ad ow2 k = some d)
    (s1 : SeqAt.shaped (.list ds) = true) (s2 : SeqAt.shaped d = true) (hj : ds[j]? = some z) (hz : PyData.eqv z d = true) (hno : ∀ m z, m < j → ds[m]? = some z → PyData.eqv z d = false) :
    EE K (tBM K "list" (rRemD K) to ar) m ow (.v .non) (ow2.set n (.lst (ds.eraseIdx j))) := fun He Fr ts σ xs H Q S q =>
  h He Fr ts σ xs H _ S fun x H1 ⟨Hd, ps, S1⟩ => ⟨S1.isL h0, ha He Fr _ σ _ H1 _ ⟨Hd, ps, S1⟩ fun ys H2 hl ⟨Hd2, ps2, S2⟩ => by
    obtain ⟨hp, S3⟩ := S2.args hl
    obtain ⟨y, rfl⟩ : ∃ y, ys = [y] := one hl
    cases hp with
    | cons hy _ =>
      obtain ⟨p, vs, e1, rfl, _, e2, e3⟩ := S3.own S3.pop.1 hn
      have e3' : DpAll K H2 vs ds := dpa_mono S3.sub e3
      exact ⟨p, vs, y, d, ds, j, z, rfl, rfl, e2, e3', ad_ok S3 hy h2, s1, s2, hj, hz, hno, q _ _ ⟨Hd2, ps2, (S3.pop.2.write e1 hn (dpa_eraseIdx j e3)).push rfl⟩⟩⟩
end LD

/-! sum(xs, []) of lists; sorted(set(xs)) of many. -/
namespace LD
open PySem PySem.Spec PyProof.Rows L2
def LsAt (h : Heap) (a : Addr) (xs : List Value) : Prop := ∃ (dd : Option Addr) (n : Nat) (sl : Array (Option Value)), h.get? a = some { cls := .type "list", dict := dd, data := .seq xs.toArray n, slots := sl }
theorem LsAt.kept {h h' : Heap} {a : Addr} {xs : List Value} (H : LsAt h a xs) (k : ∀ o, h.get? a = some o → h'.get? a = some o) : LsAt h' a xs := by
  obtain ⟨dd, n, sl, e⟩ := H
  exact ⟨dd, n, sl, k _ e⟩
theorem LsAt.lt {h : Heap} {a : Addr} {xs : List Value} (H : LsAt h a xs) : a < h.objs.size := by
  obtain ⟨dd, n, sl, e⟩ := H
  exact Heap.lt_size e
def LsP (h : Heap) (a : Addr) (xs : List Value) : Prop := ∃ n : Nat, h.get? a = some { cls := .type "list", dict := none, data := .seq xs.toArray n, slots := #[] }
def catK (its : Nat → List Value) : Nat → Nat → List Value
  | _, 0 => []
  | i, k + 1 => its i ++ catK its (i + 1) k
theorem args_sum2 (a b : Value) : argsOk "sum" ⟨[a, b], []⟩ := by unfold argsOk; kernel_rfl
section
variable {prog : Program} {w : World} {A : Around} {R : Result → Shared → Prop} {I S : Addr} {fp wr : List Addr} {n : Nat} {P : Nat → Value → Prop} {St : Nat → Heap → Prop} {base : Heap} {its : Nat → List Value}
theorem sumL_loop (W : Walks prog w A.in1 I fp wr n P St) (hSf : S ∉ fp) (hw : ∀ b ∈ wr, b < S) (row : ∀ i v, i < n → P i v → ∃ a, v = .ref a ∧ a ∉ wr ∧ a ≠ S ∧ LsAt base a (its i)) :
    ∀ (k i : Nat) (s : Shared) (r : Addr) (acc : List Value) (c : Nat), n - i = k → i ≤ n → St i s.heap → s.heap.get? S = some { cls := .type "list", dict := none, data := .seq #[.ref r] c, slots := #[] } →
      LsAt s.heap r acc → r ∉ wr → r ≠ S → (∀ b o, base.get? b = some o → b ∉ wr → b ≠ S → s.heap.get? b = some o) → acc.length + (catK its i k).length ≤ sizeLine →
      (∀ h' tk r', LsAt h' r' (acc ++ catK its i k) → (k = 0 → r' = r) → (k ≠ 0 → S < r' ∧ LsP h' r' (acc ++ catK its i k)) → (∀ b o, b ∉ wr → b ≠ S → s.heap.get? b = some o → h'.get? b = some o) → R (.ok (.ret (.ref r'))) { s with heap := h', toks := tk }) →
      codeAny (model prog w) A (.builtin "sum.loop" ⟨[.ref I, .ref S, rawInt 2, rawInt 0], []⟩) R s := by
  have hSw : S ∉ wr := fun h => Nat.lt_irrefl _ (hw S h)
  intro k
  induction k with
  | zero =>
    intro i s r acc c hk hi hst hS ha hr1 hr2 hb hz hR
    obtain rfl : i = n := by omega
    refine codeAny_builtin F.entry_sum_loop ?_
    rw [Around.under_plainId F.plain_sum_loop _]
    show wpAny _ A.in1 (seqItems? (.ref S) >>= _) _ _ s
    refine wpAny_bind (wpAny_seqItems hS rfl ?_)
    show wpAny _ A.in1 (tryCatch (pyNext (.ref I)) _ >>= _) _ _ s
    refine wpAny_bind (wpAny_tryCatch (W.done s _ _ hst fun h' tk keep => ?_))
    exact wpAny_pure (hR h' tk r (by rw [show catK its i 0 = [] from rfl, List.append_nil]; exact ha.kept fun o e => keep r o hr1 e) (fun _ => rfl) (fun h => absurd rfl h) fun b o h1 _ e => keep b o h1 e)
  | succ k ih =>
    intro i s r acc c hk hi hst hS ha hr1 hr2 hb hz hR
    have hlt : i < n := by omega
    have ec : catK its i (k + 1) = its i ++ catK its (i + 1) k := rfl
    rw [ec] at hz hR
    rw [List.length_append] at hz
    refine codeAny_builtin F.entry_sum_loop ?_
    rw [Around.under_plainId F.plain_sum_loop _]
    show wpAny _ A.in1 (seqItems? (.ref S) >>= _) _ _ s
    refine wpAny_bind (wpAny_seqItems hS rfl ?_)
    show wpAny _ A.in1 (tryCatch (pyNext (.ref I)) _ >>= _) _ _ s
    refine wpAny_bind (wpAny_tryCatch (W.item i s _ _ hlt hst fun v h1 tk hP hst1 keep => ?_))
    obtain ⟨a, rfl, a1, a2, a3⟩ := row i v hlt hP
    have hS1 := keep S _ hSw hS
    have ha1 := ha.kept fun o e => keep r o hr1 e
    have hrow : LsAt h1 a (its i) := a3.kept fun o e => keep a o a1 (hb a o e a1 a2)
    obtain ⟨d1, n1, l1, o1⟩ := ha1
    obtain ⟨d2, n2, l2, o2⟩ := hrow
    have lS := Heap.lt_size hS1
    have add := list_addW r a acc.toArray (its i).toArray n1 n2 d1 d2 l1 l2 (by rw [List.size_toArray, List.size_toArray]; omega)
    show wpAny _ A.in1 ((holding [Value.ref a] (binaryOp .Add (.ref r) (.ref a))).attempt >>= _) _ _ _
    refine wpAny_bind (wpAny_attempt (wpAny_holding (PySem.concat_meets ⟨_, o1, rfl⟩ ⟨_, o2, rfl⟩ noFill_list_add seq_list_add PySem.F.slot_list_add PySem.F.entry_list_add (PySem.F.args_list_add_2 _ _) add ⟨o1, o2, ?_⟩)))
    have eA : acc.toArray ++ (its i).toArray = (acc ++ its i).toArray := by simp
    rw [eA]
    dsimp only
    obtain ⟨h2, hh2⟩ : ∃ h2 : Heap, h1.push { cls := Value.type "list", data := Data.seq (acc ++ its i).toArray } = h2 := ⟨_, rfl⟩
    have k2 : ∀ b o, h1.get? b = some o → h2.get? b = some o := fun b o e => by rw [← hh2]; exact Heap.get?_push_of_some _ e
    have new2 : h2.get? h1.objs.size = some { cls := Value.type "list", data := Data.seq (acc ++ its i).toArray } := by rw [← hh2]; exact Heap.get?_push_size _ rfl
    rw [hh2]
    show wpAny _ A.in1 (updateSeq S (fun _ => #[.ref h1.objs.size]) >>= _) _ _ _
    refine wpAny_bind ?_
    have hS2 := k2 S _ hS1
    refine wpAny_updateSeq hS2 rfl ?_
    have hS3 := Heap.get?_update_self (Obj.mapSeq fun _ => #[Value.ref h1.objs.size]) hS2 rfl
    have k3 : ∀ b o, b ≠ S → h2.get? b = some o → (h2.update S (Obj.mapSeq fun _ => #[Value.ref h1.objs.size])).get? b = some o := fun b o hb e => (Heap.get?_update_other _ _ (Ne.symm hb)).trans e
    refine wpAny_bind (wpAny_letGo ?_)
    refine wpAny_bind ?_
    refine wpAny_updateSeq hS3 rfl (wpAny_pure ⟨plainId_quiet F.plain_sum_loop _, ?_⟩)
    have hS4 := Heap.get?_update_self (Obj.mapSeq fun _ => #[Value.ref h1.objs.size]) hS3 rfl
    have k4 : ∀ b o, b ≠ S → h2.get? b = some o → ((h2.update S (Obj.mapSeq fun _ => #[Value.ref h1.objs.size])).update S (Obj.mapSeq fun _ => #[Value.ref h1.objs.size])).get? b = some o := fun b o hb e => (Heap.get?_update_other _ _ (Ne.symm hb)).trans (k3 b o hb e)
    refine ih (i + 1) _ h1.objs.size (acc ++ its i) _ (by omega) hlt (W.frame _ _ _ hst1 fun b hb' o e => k4 b o (fun z => hSf (z ▸ hb')) (k2 b o e)) hS4 ⟨_, _, _, k4 _ _ (Nat.ne_of_gt lS) new2⟩
      (fun z => Nat.lt_irrefl _ (Nat.lt_trans (hw _ z) lS)) (Nat.ne_of_gt lS) (fun b o e h3 h4 => k4 b o h4 (k2 b o (keep b o h3 (hb b o e h3 h4)))) (by rw [List.length_append]; omega) fun h' tk' r' q1 q2 q3 q4 => ?_
    refine hR h' tk' r' (by rw [← List.append_assoc]; exact q1) (fun z => by omega) (fun _ => ?_) fun b o h3 h4 e => q4 b o h3 h4 (k4 b o h4 (k2 b o (keep b o h3 e)))
    by_cases hk0 : k = 0
    · rw [q2 hk0]
      have new4 := k4 _ _ (Nat.ne_of_gt lS) new2
      have := q4 h1.objs.size _ (fun z => Nat.lt_irrefl _ (Nat.lt_trans (hw _ z) lS)) (Nat.ne_of_gt lS) new4
      rw [hk0, show catK its (i + 1) 0 = [] from rfl, List.append_nil]
      exact ⟨lS, _, this⟩
    · rw [← List.append_assoc]; exact q3 hk0
end
section
variable {prog : Program} {w : World} {A : Around} {E : Value → Shared → Prop} {s : Shared} {l b : Addr} {items : Array Value} {its : Nat → List Value} {acc : List Value} {Q : Value → Shared → Prop}
theorem call_sumL (hh : A.handled = none) (hl : s.heap.IsList l items) (hb : LsAt s.heap b acc) (hrow : ∀ i v, items[i]? = some v → ∃ a, v = .ref a ∧ LsAt s.heap a (its i)) (hz : acc.length + (catK its 0 items.size).length ≤ sizeLine)
    (hQ : ∀ h' tk r', LsAt h' r' (acc ++ catK its 0 items.size) → (items.size = 0 → r' = b) → (items.size ≠ 0 → s.heap.objs.size ≤ r' ∧ LsP h' r' (acc ++ catK its 0 items.size)) → (∀ c o, s.heap.get? c = some o → h'.get? c = some o) → Q (.ref r') { s with heap := h', toks := tk }) :
    wpAny (model prog w) A (call (.builtin "sum") [.ref l, .ref b]) Q E s := by
  refine call_function_tree F.kind_sum F.plain_sum F.entry_sum (args_sum2 _ _) ?_
  unfold Builtin.«sum»
  simp only [List.length_cons, List.length_nil]
  rw [if_neg (by decide)]
  refine wpAny_bind (wpAny_of_eq (show Builtin.Builtins.bindParams "sum" ["start"] 0 ⟨[.ref b], []⟩ = pure [some (.ref b)] from rfl) ?_)
  have hlt : l < s.heap.objs.size := by obtain ⟨_, e, _⟩ := hl; exact Heap.lt_size e
  refine wpAny_bind (wpAny_pyIter_list hl ?_)
  obtain ⟨h1, e1⟩ : ∃ h1 : Heap, s.heap.push { cls := .type "list_iterator", data := .fields #[.ref l, .int 0 0] } = h1 := ⟨_, rfl⟩
  have k1 : ∀ c o, s.heap.get? c = some o → h1.get? c = some o := fun c o e => by rw [← e1]; exact Heap.get?_push_of_some _ e
  have z1 : h1.objs.size = s.heap.objs.size + 1 := by rw [← e1]; exact Heap.size_push ..
  have z2 : s.heap.objs.size < h1.objs.size := by rw [z1]; exact Nat.lt_succ_self _
  have it1 : h1.IsListIter s.heap.objs.size l 0 := by rw [← e1]; exact ⟨_, Heap.get?_push_size _ rfl, rfl, rfl⟩
  have hl1 : h1.IsList l items := by rw [← e1]; exact hl.push _
  rw [e1]
  refine wpAny_bind (wpAny_pure ?_)
  obtain ⟨d0, n0, sl0, o0⟩ := hb
  have o1 := k1 b _ o0
  simp only [List.forIn_cons, List.forIn_nil]
  refine wpAny_bind (wpAny_bind (wpAny_bind (wpAny_isInstance (T := "list") (b := false) ⟨_, o1, rfl⟩ F.sub_list_str ?_)))
  simp only [Bool.false_eq_true, if_false]
  refine wpAny_pure (wpAny_bind (wpAny_bind (wpAny_isInstance (T := "list") (b := false) ⟨_, o1, rfl⟩ F.sub_list_bytes ?_)))
  simp only [Bool.false_eq_true, if_false]
  refine wpAny_pure (wpAny_bind (wpAny_bind (wpAny_isInstance (T := "list") (b := false) ⟨_, o1, rfl⟩ F.sub_list_bytearray ?_)))
  simp only [Bool.false_eq_true, if_false]
  refine wpAny_pure (wpAny_pure ?_)
  refine wpAny_bind (wpAny_newObj_type ?_)
  have h3 : A.in1.handled = none := by simp [hh]
  have W := Walks.list (prog := prog) (w := w) (A := A.in1) h3 s.heap.objs.size l (Nat.ne_of_lt hlt) items
  refine wpAny_pure ⟨plainId_quiet F.plain_sum_loop _, sumL_loop (its := its) (base := s.heap) (S := h1.objs.size) W ?_ ?_ ?_ items.size 0 _ b acc 0 rfl (Nat.zero_le _) ?_ ?_ ?_ ?_ ?_ ?_ hz ?_⟩
  · intro z
    simp only [List.mem_cons, List.not_mem_nil, or_false] at z
    rcases z with z | z
    · exact Nat.ne_of_gt z2 z
    · exact Nat.ne_of_gt (Nat.lt_trans hlt z2) z
  · intro c hc
    rw [List.mem_singleton.mp hc]; exact z2
  · intro i v hi hv
    obtain ⟨a, rfl, ha⟩ := hrow i v hv
    have := ha.lt
    exact ⟨a, rfl, fun z => Nat.ne_of_lt this (List.mem_singleton.mp z), Nat.ne_of_lt (Nat.lt_trans this z2), ha⟩
  · exact ⟨it1.at fun o e => Heap.get?_push_of_some _ e, hl1.push _⟩
  · exact Heap.get?_push_size _ rfl
  · exact ⟨_, _, _, Heap.get?_push_of_some _ o1⟩
  · exact fun z => Nat.ne_of_lt (Heap.lt_size o0) (List.mem_singleton.mp z)
  · exact Nat.ne_of_lt (Nat.lt_trans (Heap.lt_size o0) z2)
  · intro c o e _ _
    exact Heap.get?_push_of_some _ (k1 c o e)
  · intro h' tk r' q1 q2 q3 q4
    refine hQ h' tk r' q1 q2 (fun z => ⟨Nat.le_of_lt (Nat.lt_trans z2 (q3 z).1), (q3 z).2⟩) fun c o e => ?_
    have := Heap.lt_size e
    exact q4 c o (fun z => Nat.ne_of_lt this (List.mem_singleton.mp z)) (Nat.ne_of_lt (Nat.lt_trans this z2)) (Heap.get?_push_of_some _ (k1 c o e))
end
theorem catK_rows : ∀ (rows : List (List Value × List V)) (its : Nat → List Value) (i : Nat), (∀ j, j < rows.length → its (i + j) = (rows.getD j ([], [])).1) → catK its i rows.length = (rows.map Prod.fst).flatten
  | [], _, _, _ => rfl
  | p :: r, its, i, h => by
    show its i ++ catK its (i + 1) r.length = p.1 ++ (r.map Prod.fst).flatten
    rw [show its i = p.1 from h 0 (Nat.succ_pos _), catK_rows r its (i + 1) fun j hj => by rw [show i + 1 + j = i + (j + 1) by omega]; exact h (j + 1) (Nat.succ_lt_succ hj)]
section
variable {X : Cx} {Hq H : Hp} {pins : List (Addr × Obj)} {σ : L2.St} {s : Shared}
theorem rows_ex (I : Inv X pins σ H s) (sm : Same Hq H) : ∀ {us : List V} {its : List Value} {lss : List (List PyData)}, Vals us its → DpAll X.K Hq us (lss.map PyData.list) →
    ∃ rows : List (List Value × List V), rows.length = its.length ∧ (∀ i v, its[i]? = some v → ∃ a, v = .ref a ∧ LsAt s.heap a (rows.getD i ([], [])).1) ∧ Vals (rows.map Prod.snd).flatten (rows.map Prod.fst).flatten ∧ DpAll X.K Hq (rows.map Prod.snd).flatten lss.flatten
  | _, _, [], .nil, .nil => ⟨[], rfl, fun i v h => (by cases h), .nil, .nil⟩
  | _, _, ds :: lss, .cons r rs, .cons d dr => by
    obtain ⟨rows, h1, h2, h3, h4⟩ := rows_ex I sm rs dr
    cases d with
    | lst hs ha =>
      rename_i a ys
      cases r
      obtain ⟨its2, rv, ⟨⟨cls, dd, data, sl⟩, n, ho, hc, _, hd⟩, _⟩ := I.list (sm.seq hs)
      simp only at hc hd
      subst hc hd
      refine ⟨(its2, ys) :: rows, by rw [List.length_cons, List.length_cons, h1], fun i v hv => ?_, rv.append h3, dpa_app ha h4⟩
      cases i with
      | zero => cases hv; exact ⟨a, rfl, dd, n, sl, ho⟩
      | succ i => exact h2 i v hv
end
/-- sum(xs, ys), xs lists, ys empty -/
def rSumD (K : PySem.W.Frag) : List V → Hp → VK → Prop := fun xs H Q => ∃ (Hq : Hp) (l b : Addr) (us : List V) (lss : List (List PyData)), xs = [.ref l, .ref b] ∧ SqL K H l us ∧ Same Hq H ∧ DpAll K Hq us (lss.map PyData.list) ∧ SqL K H b [] ∧ lss.flatten.length ≤ 1000000 ∧
  (lss = [] → Q (.ref b) H) ∧ (lss ≠ [] → ∀ p vs, H p = none → DpAll K Hq vs lss.flatten → Q (.ref p) (upd H p (.lst vs)))
theorem cr_sumD {X : Cx} (calm : X.calm = true) : CallR X (.builtin "sum") (rSumD X.K) := by
  intro pins s σ H xs us Q I r h
  obtain ⟨Hq, l, b, ys, lss, rfl, hl, sm, hd, hb, hz, q0, q1⟩ := h
  obtain ⟨v1, v2, rfl, r1, r2⟩ := vals2 r
  cases (show v1 = Value.ref l from r1)
  cases (show v2 = Value.ref b from r2)
  obtain ⟨its, rv, pl, _⟩ := I.list hl
  obtain ⟨itb, rb, ⟨⟨cls, dd, data, sl⟩, n, ho, hc, _, hdt⟩, _⟩ := I.list hb
  simp only at hc hdt
  subst hc hdt
  cases rb
  obtain ⟨rows, h1, h2, h3, h4⟩ := rows_ex I sm rv hd
  have l3 := PySem.Paired.length h3
  have l4 := dpa_len h4
  have lr : lss.length = rows.length := by have := dpa_len hd; have := rv.length; rw [List.length_map] at *; omega
  have ek : catK (fun i => (rows.getD i ([], [])).1) 0 its.toArray.size = (rows.map Prod.fst).flatten := by
    rw [List.size_toArray, ← h1]
    exact catK_rows rows _ 0 fun j _ => by rw [Nat.zero_add]
  refine call_sumL (its := fun i => (rows.getD i ([], [])).1) (acc := []) (I.ok.hd calm) pl.isList ⟨dd, n, sl, ho⟩ (fun i v hv => h2 i v (by rw [← hv]; simp)) (by rw [ek, sizeLine_eq]; simp only [List.length_nil]; omega) fun h' tk r' a1 a2 a3 a4 => ?_
  by_cases e : lss = []
  · have e0 : its.toArray.size = 0 := by rw [List.size_toArray, ← h1, ← lr, e]; rfl
    rw [a2 e0]
    exact ⟨.ref b, H, I.kept a4, rfl, q0 e⟩
  · have e0 : its.toArray.size ≠ 0 := by
      rw [List.size_toArray, ← h1, ← lr]
      exact fun z => e (List.length_eq_zero_iff.mp z)
    obtain ⟨b1, m, b2⟩ := a3 e0
    rw [ek, List.nil_append] at b2
    have hlen : (rows.map Prod.snd).flatten.length ≤ sizeLine := by rw [l4, sizeLine_eq]; omega
    exact ⟨.ref r', upd H r' (.lst (rows.map Prod.snd).flatten), I.laid (t' := tk) a4 b1 ⟨hlen, _, m, h3, b2⟩, rfl, q1 e _ _ (I.hok.fresh b1) h4⟩
theorem cr_sumDK {X : Cx} {K : PySem.W.Frag} (hK : X.K = K) (calm : X.calm = true) : CallR X (.builtin "sum") (rSumD K) := hK ▸ cr_sumD calm
theorem cc_sumD {K : PySem.W.Frag} {m : Env'} {ow : List OC} {lss : List (List PyData)} (hz : lss.flatten.length ≤ 1000000) : CC K (rSumD K) m ow [.dat (.list (lss.map PyData.list)), .dat (.list [])] (.dat (.list lss.flatten)) ow := by
  rintro He Fr ts σ ys xs H Q hl ⟨Hd, ps, S⟩ q
  obtain ⟨y, z, rfl⟩ := two hl
  have S : SB K He Fr Hd ps m ow (.dat (.list []) :: .dat (.list (lss.map PyData.list)) :: ts) σ (z :: y :: xs) H := S
  obtain ⟨p, us, rfl, h1, h2⟩ := seq_ok S S.pop.2.pop.1 (b := true) (ds := lss.map PyData.list) rfl
  obtain ⟨p', us', rfl, h3, h4⟩ := seq_ok S S.pop.1 (b := true) (ds := []) rfl
  cases h4
  refine ⟨reg true He Hd, p, p', us, lss, rfl, h1, ?_, h2, h3, hz, fun e => ?_, fun e r vs hr hv => ?_⟩
  · exact S.sub
  · subst e
    exact q _ H ⟨Hd, ps, S.pop.2.pop.2.push S.pop.1⟩
  · exact q _ _ (S.pop.2.pop.2.made true hr hv)
end LD

/-! sorted(set(xs)), any number of ints below 4000. -/
namespace LD
open PySem PySem.Spec PyProof.Rows L2
section
variable {P : Program} {w : World} {A : Around} {E : Value → Shared → Prop} {s : Shared} {a : Addr}
theorem sorted_setN {S : Int → Bool} {n : Nat} {Q : Value → Shared → Prop} (R : SetR w s.heap a S n) (hh : A.handled = none)
    (hQ : ∀ s' p (out : List Value) (c : Nat) (ns : List Int), (∀ b o, s.heap.get? b = some o → s'.heap.get? b = some o) → s'.gens = s.gens → s'.os = s.os → s.heap.objs.size ≤ p →
      s'.heap.get? p = some (seqObj "list" out.toArray c) → IntsAre out ns → ns.Pairwise (· < ·) → (∀ k, k ∈ ns ↔ S k = true) → ns.length = n → Q (.ref p) s') :
    wpAny (model P w) A (call (.builtin "sorted") [.ref a]) Q E s := by
  obtain ⟨o, es, ep, t, ho, hex, hd, g, nd, hm, hb, hf, hn, hr, hl⟩ := R
  refine Calls.call_function_entry kind_sorted plain_sorted entry_sorted (args_sorted1 _) ?_
  unfold Builtin.«sorted»
  refine wpAny_bind (m := checkCount "sorted" 1 1 _) (wpAny_pure ?_)
  refine wpAny_bind (collect_set (A := A.in1) hh ⟨o, ho, hex.1, hd⟩ hf hb hr hl fun s1 vs k1 hz g1 o1 pm => ?_)
  have lv : vs.length = n := by rw [pm.length_eq, List.length_map, Array.length_toList]; exact hn
  have fits : vs.length ≤ sizeLine := by rw [lv, ← hn]; exact fits_of_scanBound hb
  have hI : IntsAre vs (vs.map Builtin.Re.reRawOf) := ints_of vs fun v hv => by
    obtain ⟨e, he, q⟩ := List.mem_map.mp (pm.mem_iff.mp hv)
    obtain ⟨k, tk, h1, _⟩ := g e he
    exact ⟨k, tk, by rw [← q]; exact h1⟩
  have pk : (vs.map Builtin.Re.reRawOf).Perm (es.toList.map keyOf) := by
    have q := pm.map Builtin.Re.reRawOf
    rwa [List.map_map] at q
  refine wpAny_bind (wpAny_newList ?_ fits)
  have oL : (s1.heap.push (seqObj "list" vs.toArray 0)).get? s1.heap.objs.size = some (seqObj "list" vs.toArray 0) := Heap.get?_push_size _ rfl
  refine wpAny_bind (wpAny_holding (wpAny_call_entry slot_list_sort ⟨_, oL, rfl⟩ entry_list_sort (SrtO.list_sort_ord SrtO.swo_int oL fits (fun h2 => SrtO.ints_sortable hI h2) fun out h1 h2 => ⟨_, rfl, ?_⟩) (args_list_sort _)))
  obtain ⟨q1, q2, q3⟩ := SrtO.ints_out hI h1 h2
  obtain ⟨c, hc⟩ := sortedHeap_at (vs := vs) (out := out.toArray) oL
  have pn := q2.trans pk
  refine wpAny_pure ⟨_, rfl, hQ _ s1.heap.objs.size out c (out.map SrtO.iv) (fun b u e => ?_) g1 o1 hz hc q1 (lt_of_le_nodup _ q3 (pn.nodup_iff.mpr nd)) (fun k => by rw [pn.mem_iff, ← hm k]) ?_⟩
  · have q := k1 b u e
    have lt := Heap.lt_size q
    show (sortedHeap (s1.heap.push (seqObj "list" vs.toArray 0)) s1.heap.objs.size vs out.toArray).get? b = some u
    rw [sortedHeap_old (Nat.ne_of_lt lt) (by rw [size_push']; exact Nat.lt_succ_of_lt lt)]
    exact Heap.get?_push_of_some _ q
  · rw [pn.length_eq, List.length_map, Array.length_toList]; exact hn
end
def rSortedSN (w : World) : List V → Hp → VK → Prop := fun vs H Q => ∃ (a : Addr) (S : Int → Bool) (n : Nat), vs = [V.ref a] ∧ H a = some (SetO w a S n) ∧
  ∀ (ns : List Int) (p : Addr), ns.Pairwise (· < ·) → (∀ k, k ∈ ns ↔ S k = true) → ns.length = n → H p = none → Q (.ref p) (upd H p (.lst (ns.map V.int)))
def rSetON (w : World) (K : PySem.W.Frag) : List V → Hp → VK → Prop := fun xs H Q => ∃ (l : Addr) (ns : List Int), xs = [.ref l] ∧ SqL K H l (ns.map V.int) ∧ ns.length < 4000 ∧ ∀ p n, H p = none → n ≤ ns.length → Q (.ref p) (upd H p (SetO w p (fun k => decide (k ∈ ns)) n))
section
variable {X : Cx}
theorem cr_sortedSN (calm : X.calm = true) : CallR X (.builtin "sorted") (rSortedSN X.w) := by
  intro pins s σ H vs us Q I r h
  obtain ⟨a, S, n, rfl, ha, q⟩ := h
  rw [Vals.ref1 r]
  have R := setO_get I ha
  have fits : n ≤ sizeLine := by
    obtain ⟨_, es, _, _, _, _, _, _, _, _, hb, _, hn, _⟩ := R
    rw [← hn]; exact fits_of_scanBound hb
  refine sorted_setN R (I.ok.hd calm) fun s' p out c ns k1 g1 o1 hp ho hi h1 h2 h3 => ?_
  have free := I.hok.fresh hp
  have laid := I.hok.laid (P := X.prog) (w := X.w) k1 hp (o := .lst (ns.map V.int)) ⟨by rw [List.length_map, h3]; exact fits, out, c, vals_of_ints hi, ho⟩
  exact ⟨.ref p, _, I.call' (ch := []) o1 (Un.laid k1 hp free) laid (by rw [g1]; exact I.bare) (fun _ z => nomatch z), rfl, q ns p h1 h2 h3 free⟩
theorem call_setON (calm : X.calm = true) : CallR X (.type "set") (rSetON X.w X.K) := by
  intro pins s σ H xs us Q I r h
  obtain ⟨l, ns, rfl, hl, hn, q⟩ := h
  obtain ⟨u, rfl, ru⟩ := vals1 r
  cases (show u = Value.ref l from ru)
  obtain ⟨its, rv, pl, _⟩ := I.list hl
  have ln : its.length = ns.length := by rw [← rv.length, List.length_map]
  have sz : its.toArray.size = ns.length := by rw [List.size_toArray]; exact ln
  refine set_listR (I.ok.hd calm) pl.isList (ns := ns) (by simpa using rv.ints) (by rw [sz]; unfold scanBound; omega) fun g tk m hm R kp => ?_
  have eS : (fun x => decide (x ∈ (List.range its.toArray.size).map fun i => ns.getD i 0)) = fun k => decide (k ∈ ns) := by
    funext k
    rw [sz, decide_eq_decide]
    constructor
    · intro hz
      obtain ⟨i, hi, rfl⟩ := List.mem_map.mp hz
      have hi := List.mem_range.mp hi
      rw [List.getD_eq_getElem?_getD, List.getElem?_eq_getElem hi]
      exact List.getElem_mem hi
    · intro hk
      obtain ⟨i, hi, e⟩ := List.mem_iff_getElem.mp hk
      refine List.mem_map.mpr ⟨i, List.mem_range.mpr hi, ?_⟩
      rw [List.getD_eq_getElem?_getD, List.getElem?_eq_getElem hi]
      exact e
  rw [eS] at R
  rw [sz] at hm
  exact ⟨.ref _, _, I.laid (t' := tk) (o := SetO X.w s.heap.objs.size (fun k => decide (k ∈ ns)) m) kp (Nat.le_refl _) (setO_new R), rfl, q _ m (I.hok.fresh (Nat.le_refl _)) hm⟩
end
theorem call_setONK {X : Cx} {w : World} {K : PySem.W.Frag} (hw : X.w = w) (hK : X.K = K) (calm : X.calm = true) : CallR X (.type "set") (rSetON w K) := hw ▸ hK ▸ call_setON calm
theorem call_sortedSNK {X : Cx} {w : World} (hw : X.w = w) (calm : X.calm = true) : CallR X (.builtin "sorted") (rSortedSN w) := hw ▸ cr_sortedSN calm
/-- sorted(set(xs)) of many -/
theorem ee_sortedSN {w : World} {K : PySem.W.Frag} {m : Env'} {ow ow1 : List OC} {k : Knd} {tb : TE} {ns : List Int} {fl : Bool} (b : Bool) (hb : EE K tb m ow k ow1) (hs : seqOf ow1 k = some (fl, ns.map PyData.int)) (hz : ns.length < 4000) :
    EE K (tCB (rSortedSN w) (tCons (tCB (rSetON w K) (tCons tb tNil)) tNil)) m ow (newK b ow1 ((ups ns).map PyData.int)) (newO b ow1 ((ups ns).map PyData.int)) := fun He Fr ts σ xs H Q S q =>
  hb He Fr _ σ _ H _ S fun y H2 ⟨Hd, ps, S2⟩ => by
    obtain ⟨p, vs, rfl, h1, h2⟩ := seq_ok S2 S2.pop.1 hs
    rw [of_dpa_ints h2] at h1
    refine ⟨p, ns, rfl, h1, hz, fun r n hr _ => ⟨r, _, n, rfl, upd_same, fun us t u1 u2 _ ht => ?_⟩⟩
    have e : us = ups ns := asc_eq u1 (ups_asc ns) fun x => by rw [u2, decide_eq_true_eq, ups_mem]
    subst e
    have gr : Same H2 (upd H2 r (SetO w r (fun k => decide (k ∈ ns)) n)) := fun a o z => by rw [upd_ne (ne_of_none z hr)]; exact z
    exact q _ _ ((S2.pop.2.grow gr).made b ht (dpa_ints _))
end LD

/-! sum(d.values()) -/
namespace LD
open PySem PySem.Spec PyProof.Rows L2
theorem presum_ints : ∀ ns : List Int, preSum (fun i => ns.getD i 0) ns.length = ns.sum
  | [] => rfl
  | n :: r => by
    rw [List.length_cons, PySem.W.kdu_shift, List.sum_cons, ← presum_ints r]
    rfl
section
variable {X : Cx} {o : Expr} {p pos apos mpos : Pos} {td : TE}
def tSumVals (td : TE) : TE := fun σ H Q => td σ H fun x H1 => ∃ (a : Addr) (kvs : List (Key × V)) (ns : List Int), x = V.ref a ∧ H1 a = some (.dK kvs) ∧ kvs.map (·.2) = ns.map V.int ∧ Q (.int ns.sum) H1
theorem pe_sumVals (calm : X.calm = true) (hg : Gl X "sum") (hm : X.mg "sum" = none) (hd : PE X o td) (hbase : attributeBase o "values" X.env (eval o X.env) = eval o X.env := by rfl) (hline : (apos.endLine == mpos.line) = true := by rfl)
    (na : starEach [Expr.Call (.Attribute o "values" apos) [] [] mpos] X.env = (false, eval (Expr.Call (.Attribute o "values" apos) [] [] mpos) X.env) :: starEach [] X.env := by rfl) :
    PE X (.Call (.Name "sum" p) [.Call (.Attribute o "values" apos) [] [] mpos] [] pos) (tSumVals td) := by
  refine ⟨fun pins s σ H Q I h => ?_⟩
  refine Call_ (ld_blt I hg hm (show bootBuiltins "sum" = some (.builtin "sum") by decide +kernel) (PyProof.Rows.callWith_builtin1 (args_cons (wpAny_Call_method0_late hbase hline (thn (hd.run pins s σ H _ I h) fun v s1 ⟨x, H1, I1, r1, a, kvs, ns, ex, ha, ens, q⟩ => ?_)) na) na rfl))
  subst ex
  obtain rfl : v = Value.ref a := r1
  obtain ⟨z, hsys, vs, rel, dof⟩ := dk_of I1.hok ha
  obtain ⟨ep, dat⟩ := dof.dictAt
  have dat0 := dat
  obtain ⟨ob, es, ho, ex, hdat, hko, hpr, hnd⟩ := dat0
  refine ⟨"dict", "dict.values", F.plainAttrs_dict, F.slot_dict_values, F.type_dict_values, ⟨ob, ho, ex.1⟩, fun b e => (by cases e; exact ⟨ob, ho, ex.2.1⟩), Calls.callWith_builtin rfl (PySem.evalArgs_none ?_)⟩
  refine call_meetsIn F.slot_dict_values ⟨ob, ho, ex.1⟩ F.entry_dict_values (F.args_dict_values_1 _) (meets_dict_values (mixKind X.prog X.w) a hsys) ⟨⟨vs, dof⟩, args_nil ?_⟩
  have k1 : ∀ b u, s1.heap.get? b = some u → (s1.heap.push { cls := .type "dict_values", data := .fields #[.ref a] }).get? b = some u := fun b u e => Heap.get?_push_of_some _ e
  have dat1 : (s1.heap.push { cls := .type "dict_values", data := .fields #[.ref a] }).DictAt (mixKind X.prog X.w) a vs ep := dat.keep k1
  have I2 : Inv X pins σ H1 { s1 with heap := s1.heap.push { cls := .type "dict_values", data := .fields #[.ref a] } } := I1.kept (t' := s1.toks) k1
  have hl : kvs.length = vs.length := PySem.Paired.length rel
  have hn : ns.length = vs.length := by rw [← hl]; have := congrArg List.length ens; rw [List.length_map, List.length_map] at this; exact this.symm
  have src := PySem.W.kdl_values (prog := X.prog) (w := X.w) (knd := mixKind X.prog X.w) (r := s1.heap.objs.size) (d := a) (kvs := vs) (ep := ep)
  have okS : _ ∧ _ := ⟨(⟨_, Heap.get?_push_size s1.heap rfl, rfl, rfl⟩ : ∃ o, (s1.heap.push { cls := .type "dict_values", data := .fields #[.ref a] }).get? s1.heap.objs.size = some o ∧ o.cls = .type "dict_values" ∧ o.data = .fields #[.ref a]), dat1⟩
  generalize hs2 : ({ s1 with heap := s1.heap.push { cls := .type "dict_values", data := .fields #[.ref a] } } : Shared) = s2 at I2 ⊢
  have hh2 : s2.heap = s1.heap.push { cls := .type "dict_values", data := .fields #[.ref a] } := by rw [← hs2]
  rw [← hh2] at okS
  refine call_sum_walkAnyS ?_
  obtain ⟨oI, St, hit, W, st⟩ := src.iter X.A.in1 s2 (I.ok.hd calm) okS
  refine hit _ _ ⟨s2.heap.objs.size, _, _, _, vs.length, _, _, fun i => ns.getD i 0, rfl, W.toS, st, fun b hb => ?_, fun i v hv => ?_, fun s' t' hm => ?_⟩
  · show b < (s2.heap.push oI).objs.size
    rw [size_push']
    rcases List.mem_cons.mp hb with e | hb
    · rw [e]; exact Nat.lt_succ_self _
    · rw [List.mem_singleton.mp hb]; exact Nat.lt_succ_of_lt (src.there _ okS).2
  · obtain ⟨k, hk⟩ := hv
    obtain ⟨y, g1, g2⟩ := KV.at' rel hk
    have g3 : (kvs.map (·.2))[i]? = some y := by rw [List.getElem?_map, g1]; rfl
    rw [ens, List.getElem?_map] at g3
    obtain ⟨m, hm1, rfl⟩ := Option.map_eq_some_iff.mp g3
    obtain ⟨t, rfl⟩ := g2
    exact ⟨t, by show Value.int m t = Value.int (ns.getD i 0) t; rw [List.getD_eq_getElem?_getD, hm1]; rfl⟩
  · have kp : ∀ b o, s2.heap.get? b = some o → s'.heap.get? b = some o := fun b o e =>
      hm.heap b o (fun hI => absurd (Heap.lt_size e) (by rw [List.mem_singleton.mp hI]; exact Nat.lt_irrefl _)) (Heap.get?_push_of_some _ e)
    rw [Moved.eq_with hm]
    refine ⟨.int ns.sum, H1, I2.kept (t' := s'.toks) kp, ⟨t', ?_⟩, q⟩
    rw [← hn, presum_ints]
end
theorem ee_sumVals {K : PySem.W.Frag} {m : Env'} {ow ow1 : List OC} {td : TE} {n : Nat} {kvs : List (Key × PyData)} {ns : List Int} (h : EE K td m ow (.own n) ow1) (hn : ow1[n]? = some (.dic kvs)) (e : kvs.map (·.2) = ns.map PyData.int) : EE K (tSumVals td) m ow (.v (.int ns.sum)) ow1 := fun He Fr ts σ xs H Q S q =>
  h He Fr ts σ xs H _ S fun x H1 ⟨Hd, ps, S1⟩ => by
    obtain ⟨p, vs, e1, rfl, e0, e2, e3⟩ := S1.ownD S1.pop.1 hn
    have h4 := kp_vals e3
    rw [e] at h4
    exact ⟨p, vs, ns, rfl, e2, of_dpa_ints h4, q _ H1 ⟨Hd, ps, S1.pop.2.push rfl⟩⟩
end LD

/-! len(set(xs)) exactly; if t and not f(..), with outcomes -/
namespace LD
open PySem PySem.Spec PyProof.Rows L2
theorem dcnt_dds : ∀ ns : List Int, dcnt ns = (dds ns).length
  | [] => rfl
  | n :: r => by
    show (if n ∈ r then dcnt r else dcnt r + 1) = (if n ∈ r then dds r else n :: dds r).length
    rw [dcnt_dds r]
    split <;> rfl
theorem dcnt_full : ∀ {ns : List Int}, dcnt ns = ns.length → ns.Nodup
  | [], _ => List.nodup_nil
  | n :: r, h => by
    have h : (if n ∈ r then dcnt r else dcnt r + 1) = r.length + 1 := h
    have := dcnt_le r
    by_cases z : n ∈ r
    · rw [if_pos z] at h; omega
    · rw [if_neg z] at h
      exact List.nodup_cons.mpr ⟨z, dcnt_full (by omega)⟩
theorem sub_len : ∀ {a b : List Int}, a.Nodup → (∀ x ∈ a, x ∈ b) → a.length ≤ b.length
  | [], _, _, _ => Nat.zero_le _
  | x :: a, b, nd, h => by
    obtain ⟨n1, n2⟩ := List.nodup_cons.mp nd
    have hx := h x (List.mem_cons_self ..)
    have := sub_len (a := a) (b := b.erase x) n2 fun y hy => (List.mem_erase_of_ne (fun e : y = x => n1 (by rw [← e]; exact hy))).mpr (h y (List.mem_cons_of_mem _ hy))
    rw [List.length_erase_of_mem hx] at this
    have hp := List.length_pos_of_mem hx
    rw [List.length_cons]
    omega
theorem setR_cnt {w : World} {h : Heap} {a : Addr} {ns : List Int} {n : Nat} (R : SetR w h a (fun k => decide (k ∈ ns)) n) : n = dcnt ns := by
  obtain ⟨o, es, ep, t, ho, hex, hd, g, nd, hm, hb, hf, hn, _⟩ := R
  have ln : (es.toList.map keyOf).length = n := by rw [List.length_map, Array.length_toList]; exact hn
  rw [dcnt_dds, ← ln]
  refine Nat.le_antisymm (sub_len nd fun x hx => dds_mem.mpr (of_decide_eq_true ((hm x).mpr hx))) (sub_len (dds_nd ns) fun x hx => (hm x).mp (decide_eq_true (dds_mem.mp hx)))
def rSetOX (w : World) (K : PySem.W.Frag) : List V → Hp → VK → Prop := fun xs H Q => ∃ (l : Addr) (ns : List Int), xs = [.ref l] ∧ SqL K H l (ns.map V.int) ∧ ns.length < 4000 ∧ ∀ p, H p = none → Q (.ref p) (upd H p (SetO w p (fun k => decide (k ∈ ns)) (dcnt ns)))
theorem call_setOX {X : Cx} (calm : X.calm = true) : CallR X (.type "set") (rSetOX X.w X.K) := by
  intro pins s σ H xs us Q I r h
  obtain ⟨l, ns, rfl, hl, hn, q⟩ := h
  obtain ⟨u, rfl, ru⟩ := vals1 r
  cases (show u = Value.ref l from ru)
  obtain ⟨its, rv, pl, _⟩ := I.list hl
  have ln : its.length = ns.length := by rw [← rv.length, List.length_map]
  have sz : its.toArray.size = ns.length := by rw [List.size_toArray]; exact ln
  refine set_listR (I.ok.hd calm) pl.isList (ns := ns) (by simpa using rv.ints) (by rw [sz]; unfold scanBound; omega) fun g tk m hm R kp => ?_
  have eS : (fun x => decide (x ∈ (List.range its.toArray.size).map fun i => ns.getD i 0)) = fun k => decide (k ∈ ns) := by
    funext k
    rw [sz, decide_eq_decide]
    constructor
    · intro hz
      obtain ⟨i, hi, rfl⟩ := List.mem_map.mp hz
      have hi := List.mem_range.mp hi
      rw [List.getD_eq_getElem?_getD, List.getElem?_eq_getElem hi]
      exact List.getElem_mem hi
    · intro hk
      obtain ⟨i, hi, e⟩ := List.mem_iff_getElem.mp hk
      refine List.mem_map.mpr ⟨i, List.mem_range.mpr hi, ?_⟩
      rw [List.getD_eq_getElem?_getD, List.getElem?_eq_getElem hi]
      exact e
  rw [eS] at R
  have em := setR_cnt R
  subst em
  exact ⟨.ref _, _, I.laid (t' := tk) (o := SetO X.w s.heap.objs.size (fun k => decide (k ∈ ns)) (dcnt ns)) kp (Nat.le_refl _) (setO_new R), rfl, q _ (I.hok.fresh (Nat.le_refl _))⟩
theorem call_setOXK {X : Cx} {w : World} {K : PySem.W.Frag} (hw : X.w = w) (hK : X.K = K) (calm : X.calm = true) : CallR X (.type "set") (rSetOX w K) := hw ▸ hK ▸ call_setOX calm
/-- len(set(xs)) -/
theorem ee_lenSetX {w : World} {K : PySem.W.Frag} {m : Env'} {ow ow1 : List OC} {k : Knd} {tb : TE} {ns : List Int} {fl : Bool} (hb : EE K tb m ow k ow1) (hs : seqOf ow1 k = some (fl, ns.map PyData.int)) (hz : ns.length < 4000) :
    EE K (tCB (rLenO w) (tCons (tCB (rSetOX w K) (tCons tb tNil)) tNil)) m ow (.v (.int (dcnt ns : Int))) ow1 := fun He Fr ts σ xs H Q S q =>
  hb He Fr _ σ _ H _ S fun y H2 ⟨Hd, ps, S2⟩ => by
    obtain ⟨p, vs, rfl, h1, h2⟩ := seq_ok S2 S2.pop.1 hs
    rw [of_dpa_ints h2] at h1
    refine ⟨p, ns, rfl, h1, hz, fun r hr => ⟨r, _, _, rfl, upd_same, ?_⟩⟩
    have gr : Same H2 (upd H2 r (SetO w r (fun k => decide (k ∈ ns)) (dcnt ns))) := fun a o z => by rw [upd_ne (ne_of_none z hr)]; exact z
    exact q _ _ ⟨Hd, ps, (S2.pop.2.grow gr).push rfl⟩
section
variable {K : PySem.W.Frag} {m : Env'} {ow ow1 : List OC} {tc : TT} {te : TE} {t u : TS} {X : Knd → List OC → Prop} {P : Post}
/-- if t and not f(..), where f always answers True -/
theorem ss_ifANX (h0 : EB K tc m ow true ow1) (h : EX K te m ow1 X) (hX : ∀ k ow2, X k ow2 → k = .v (.bl true) ∧ SS K u m ow2 P) : SS K (tIfS (tAnd tc (tNot (tB te))) t u) m ow P := fun He Fr ts σ xs H D S F =>
  h0 He Fr ts σ xs H _ S fun H1 S1 => by
    show (if true = true then _ else _)
    rw [if_pos rfl]
    refine h He Fr ts σ xs H1 _ S1 fun k2 ow2 x2 H2 hx2 S2 => ?_
    obtain ⟨rfl, hu⟩ := hX k2 ow2 hx2
    refine ⟨true, S2.top, ?_⟩
    show (if (!true) = true then _ else _)
    rw [if_neg (by decide)]
    exact hu He Fr ts σ xs H2 D S2.drop F
end
end LD

/-! A def that may raise an own exception with one field; try: return f(..) except C as e: return (word, e.field). -/
namespace LD
open PySem PySem.Spec PyProof.Rows L2

/-! ### the class -/
def cAt (mg : Str → Option Value) (x : Str) : Addr := match mg x with
  | some (.ref C) => C
  | _ => 0
/-- an exception class of the text with a field, set by its own __init__ -/
structure ClsE (K : PySem.W.Frag) (mg : Str → Option Value) (x fld : Str) : Prop where
  at_ : mg x = some (.ref (cAt mg x))
  oex : OexC K (cAt mg x)
  xf : XfC K (cAt mg x)
  no : PySem.W.findIn K (.ref (cAt mg x)) fld = some none
  ex1 : PySem.W.exmOne K (.ref (cAt mg x)) (.ref (cAt mg x)) = some true
  ini : ∃ fI fd q st, PySem.W.findIn K (.ref (cAt mg x)) "__init__" = some (some (.ref fI)) ∧ PySem.W.typeIn K (.ref fI) = some (.type "function") ∧ Fun K "__init__" q st fI fd ∧ Binds K fd ["self", fld] [] ∧
    FnScope ["self", fld] ["self", fld] (defScope st) ∧ ∃ p1 p2 p3 p4, defBody st = [.Assign [.Attribute (.Name "self" p1) fld p2] (.Name fld p3) p4]
def spIni (C : Addr) (fld : Str) : Sp := fun vs H Q _ => ∃ a v, vs = [.ref a, v] ∧ H a = some (exo a C none) ∧ ∀ dx, H dx = none → dx ≠ a → Q .non (upd (upd H dx (exd dx [(fld, v)])) a (exo a C (some dx)))
section
variable {P : Program} {w : World} {K : PySem.W.Frag} {mg : Str → Option Value} {base : Heap} {x qual fld : Str} {st : Stmt} {f C : Addr} {fd : FuncData}
theorem ini_ok (F : Fun K x qual st f fd) (S : FnScope ["self", "row"] ["self", "row"] (defScope st)) {p1 p2 p3 p4 : Pos} (hb : defBody st = [.Assign [.Attribute (.Name "self" p1) "row" p2] (.Name "row" p3) p4]) (T : OexC K C) (hno : PySem.W.findIn K (.ref C) "row" = some none) :
    FnOk P w K mg base CX0 1 f fd ["self", "row"] (spIni C "row") :=
  F.ok S (fun vs H Q E ⟨a, v, h, _⟩ => by rw [h]; rfl) fun cdv A outer s H vs Q E hr ⟨a, v, hv, ha, q⟩ => by
    refine ⟨tOst K "row" (tVar 0) (tVar 1), ?_, ?_⟩
    · rw [hb]
      exact pss_one (ps_ost (pv 0 rfl ((S.par _ (List.mem_cons_self ..)).imp id Or.inl)) (pv 1 rfl ((S.par _ (List.mem_cons_of_mem _ (List.mem_cons_self ..))).imp id Or.inl)))
    · subst hv
      exact ⟨v, rfl, .ref a, rfl, a, C, rfl, T, hno, .inl ⟨ha, fun dx h1 h2 => q dx h1 h2⟩⟩
end

/-! ### a def that may raise -/
def spE {α : Type} (C : Addr) (fld : Str) (args : α → List PyData) (pre : α → Prop) (good : α → Bool) (out : α → PyData) (row : α → Int) (K : PySem.W.Frag) : Sp := fun vs H Q E => ∃ a, DpAll K H vs (args a) ∧ pre a ∧
  (good a = true → ∀ x H' Hf, Same H H' → Frs H Hf H' → Rs K H H' Hf x (out a) → Q x H') ∧ (good a = false → ∀ d H', Same H H' → H' d = some (.xd [(fld, .int (row a))]) → E (.ref C) (some d) H')
/-- what is wished of the entry, that an exception may leave -/
def wE (C : Addr) (fld : Str) (r : Int) (E : XK) (He : Hp) : Prop := ∀ d H', Same He H' → H' d = some (.xd [(fld, .int r)]) → E (.ref C) (some d) H'
def SSg (K : PySem.W.Frag) (G : Hp → Prop) (t : TS) (m : Env') (ow : List OC) (P : Post) : Prop := ∀ (He Fr : Hp) (ts : List Knd) (σ : L2.St) (xs : List V) (H : Hp) (D : Ends), G He → SA K He Fr m ow ts σ xs H → Fit K He Fr ts xs D P → t D σ H
def Pno : Post := { nx := fun _ _ => False, rt := fun _ _ => False }
section
variable {K : PySem.W.Frag} {G : Hp → Prop} {m : Env'} {ow ow1 : List OC} {P : Post} {t u tb : TS} {tc : TT} {tl : TE} {ar : TA} {b : Bool} {k : Knd} {j : Nat} {C : Addr} {fld : Str} {r : Int} {E : XK}
theorem sg_of (h : SS K t m ow P) : SSg K G t m ow P := fun He Fr ts σ xs H D _ S F => h He Fr ts σ xs H D S F
theorem sg_seq (h : SS K t m ow { P with nx := fun m ow => SSg K G u m ow P }) : SSg K G (tSeq t u) m ow P := fun He Fr ts σ xs H D g S F =>
  h He Fr ts σ xs H _ S ⟨fun m ow σ H q S => q He Fr ts σ xs H D g S F, F.rt, F.bk, F.ct, F.tn⟩
theorem sg_seqG (h : SSg K G t m ow { P with nx := fun m ow => SSg K G u m ow P }) : SSg K G (tSeq t u) m ow P := fun He Fr ts σ xs H D g S F =>
  h He Fr ts σ xs H _ g S ⟨fun m ow σ H q S => q He Fr ts σ xs H D g S F, F.rt, F.bk, F.ct, F.tn⟩
theorem sg_if (h : EB K tc m ow b ow1) (h1 : b = true → SSg K G t m ow1 P) (h2 : b = false → SSg K G u m ow1 P) : SSg K G (tIfS tc t u) m ow P := fun He Fr ts σ xs H D g S F =>
  h He Fr ts σ xs H _ S fun H1 S1 => by
    cases b with
    | true => exact iteT (h1 rfl He Fr ts σ xs H1 D g S1 F)
    | false => exact iteF (h2 rfl He Fr ts σ xs H1 D g S1 F)
theorem sg_for (I : Nat → Env' → List OC → Prop) (fl : Bool) (ds : List PyData) (h : EE K tl m ow k ow1) (h0 : I 0 m ow1) (hs : ∀ i m ow, i ≤ ds.length → I i m ow → seqOf ow k = some (fl, ds))
    (ht : ∀ i d m ow, ds[i]? = some d → I i m ow → SSg K G tb (m.set j (some (ek fl d))) ow { nx := I (i + 1), rt := P.rt, bk := P.nx, ct := I (i + 1), n0 := ow1.length }) (he : ∀ m ow, I ds.length m ow → P.nx m ow) :
    SSg K G (tFor (iList K tl) (gName j) tb) m ow P := fun He Fr ts σ xs H D g S F =>
  h He Fr ts σ xs H _ S fun x H1 ⟨Hd, ps, S1⟩ => by
    obtain ⟨p, us, rfl, hsq, _⟩ := seq_ok S1 S1.pop.1 (hs 0 _ _ (Nat.zero_le _) h0)
    refine ⟨p, rfl, ⟨us, hsq⟩, fun i n σ H => n = ds.length - i ∧ i ≤ ds.length ∧ ∃ m ow, I i m ow ∧ SA K He Fr m ow (k :: ts) σ (.ref p :: xs) H, ⟨_, rfl, Nat.zero_le _, _, _, h0, _, _, S1⟩, ?_⟩
    rintro i n σ2 H2 ⟨rfl, hi, m2, ow2, I2, Hd2, ps2, S2⟩
    obtain ⟨p2, us2, e, hsq2, hd2⟩ := seq_ok S2 S2.pop.1 (hs i _ _ hi I2)
    cases e
    have hlen := dpa_len hd2
    by_cases hlt : i < ds.length
    · have ha : ds[i]? = some ds[i] := List.getElem?_eq_getElem hlt
      refine .inr ⟨⟨us2, us2[i]'(by omega), hsq2, List.getElem?_eq_getElem (by omega)⟩, _, fun σ' H' h => ⟨ds.length - (i + 1), by omega, rfl, hlt, h⟩, fun x H' hy => ?_⟩
      obtain ⟨rfl, hy⟩ := hy
      have hx := hy us2 hsq2
      obtain ⟨d, h1, h2⟩ := dpa_at hd2 hx
      refine ht i d m2 ow2 h1 I2 He Fr (k :: ts) _ (.ref p :: xs) _ _ g ⟨Hd2, ps2, S2.store (ek_ok h2) j⟩ ⟨fun m ow σ H q S => ⟨m, ow, q, S⟩, fun k' m ow σ x H q S => F.rt _ _ _ _ _ _ q (S.drop2 rfl), fun m ow σ H q S => F.nx _ _ _ _ q S.drop, fun m ow σ H q S => ⟨m, ow, q, S⟩, S1.inT⟩
    · have e : i = ds.length := by omega
      subst e
      exact .inl ⟨⟨us2, hsq2, by omega⟩, F.nx _ _ _ _ (he _ _ I2) ⟨Hd2, ps2, S2.pop.2⟩⟩
/-- raise C(e) -/
def tRzE (C : Addr) (fld : Str) (E : XK) (ta : TA) : TS := fun _ σ H => tMkO C (spIni C fld) [] ta σ H fun cls d H' => E cls d H'
theorem sg_raise {ta : TA} (h : EA K ta m ow [.v (.int r)] ow1) : SSg K (wE C fld r E) (tRzE C fld E ta) m ow P := fun He Fr ts σ xs H D g S F =>
  h He Fr ts σ xs H _ S fun ys H1 hl ⟨Hd, ps, S1⟩ => by
    obtain ⟨hp, S2⟩ := S1.args hl
    obtain ⟨y, rfl⟩ := one hl
    cases hp with
    | cons hy _ =>
    have hy : y = .int r := hy
    subst hy
    refine ⟨by show 1 ≤ 1000; decide, fun a ha => ⟨a, .int r, rfl, upd_same, fun dx h1 h2 => ⟨rfl, dx, [(fld, .int r)], upd_same, ?_, ?_, ?_⟩⟩⟩
    · rw [upd_ne h2]; exact upd_same
    · rw [upd_ne h2] at h1; exact h1
    · rw [upd_ne h2] at h1
      refine g dx _ (fun b o z => ?_) upd_same
      have z := S1.dh b o (S1.eh b o z)
      have n1 : b ≠ dx := fun e => by rw [e, h1] at z; cases z
      have n2 : b ≠ a := fun e => by rw [e, ha] at z; cases z
      rw [upd_ne n1, del_ne n2, upd_ne n2, upd_ne n1, upd_ne n2]; exact z
end
section
variable {K : PySem.W.Frag} {α : Type} {C : Addr} {fld : Str} {args : α → List PyData} {pre : α → Prop} {good : α → Bool} {out : α → PyData} {row : α → Int}
theorem fin_E {t : TS} {N : List Str} {vs : List V} {H : Hp} {Q : VK} {E : XK} (h : spE C fld args pre good out row K vs H Q E)
    (hS : ∀ a, pre a → (good a = true → SS K t (mst N (args a)) [] (Pret (out a))) ∧ (good a = false → SSg K (wE C fld (row a) E) t (mst N (args a)) [] Pno)) : t { nx := fun _ H' => Q .non H', rt := Q } (start N vs) H := by
  obtain ⟨a, hd, hp, q1, q2⟩ := h
  cases hg : good a with
  | true => exact fin_P (args := args) (pre := fun a' => a' = a) (out := out) (K := K) (E := E) ⟨a, hd, rfl, q1 hg⟩ fun a' e => by subst e; exact (hS _ hp).1 hg
  | false =>
    have S0 : SB K H (fun _ => none) H [] (mst N (args a)) [] [] (start N vs) [] H :=
      ⟨Same.refl H, Same.refl H, fun _ _ z => (by cases z), fun _ _ z => (by cases z), fun _ z => (by cases z), List.nodup_nil, rfl, fun _ _ _ z => (by cases z), start_ok hd, .nil⟩
    exact (hS a hp).2 hg H _ [] _ [] H _ (q2 hg) ⟨_, _, S0⟩ ⟨fun _ _ _ _ z => z.elim, fun _ _ _ _ _ _ z => z.elim, fun _ _ _ _ z => z.elim, fun _ _ _ _ z => z.elim, fun _ z => (by cases z)⟩
end

section
variable {P : Program} {w : World} {K : PySem.W.Frag} {mg : Str → Option Value} {base : Heap} {x qual fld : Str} {st : Stmt} {f C : Addr} {fd : FuncData} {N ps : List Str} {k : Nat} {α : Type} {args : α → List PyData} {pre : α → Prop} {good : α → Bool} {out : α → PyData} {row : α → Int}
theorem ok_E (F : Fun K x qual st f fd) (S : FnScope N ps (defScope st)) (hl : ∀ a, (args a).length = ps.length)
    (body : ∀ (cdv : Value) (A : Around) (outer : List Env) (s : Shared) (H : Hp) (E : XK), Rm k (A.deeper (envOfC qual (defScope st) s.heap.objs.size f cdv)) →
      ∃ t, PSs (cxOf (L2.CX P w) P w K mg base N qual (defScope st) f cdv A outer s H E) (defBody st) t ∧ ∀ a, pre a → (good a = true → SS K t (mst N (args a)) [] (Pret (out a))) ∧ (good a = false → SSg K (wE C fld (row a) E) t (mst N (args a)) [] Pno)) :
    FnG P w K mg base (L2.CX P w) (k + 1) f fd ps (spE C fld args pre good out row K) := by
  refine fnG_of F S (fun vs H Q E h => ?_) fun cdv A outer s H vs Q E hr h => ?_
  · obtain ⟨a, h1, _⟩ := h
    rw [dpa_len h1, hl]
  · obtain ⟨t, h1, h2⟩ := body cdv A outer s H E hr
    exact ⟨t, h1, fin_E h h2⟩
structure CalE (P : Program) (w : World) (K : PySem.W.Frag) (mg : Str → Option Value) (base : Heap) (k : Nat) (x : Str) (sp : Sp) : Prop where
  ex : ∃ f fd ps, FnG P w K mg base (L2.CX P w) k f fd ps sp ∧ mg x = some (.ref f) ∧ PySem.W.keepIn K (.ref f) = true ∧ Binds K fd ps []
theorem calE_of {sp : Sp} (D : Def K mg x st ps) (h : ∀ f fd, Fun K x x st f fd → FnG P w K mg base (L2.CX P w) k f fd ps sp) : CalE P w K mg base k x sp := by
  obtain ⟨f, fd, F, hm, hb⟩ := D.ex
  exact ⟨f, fd, ps, h f fd F, hm, F.kp, hb⟩
end
section
variable {X : Cx} {x : Str} {p pos : Pos} {e : Expr} {es : List Expr} {t : TA} {k j : Nat} {sp : Sp} {W : WX}
/-- f(..), what it raises is the body's -/
theorem pe_calE (c : CalE X.prog X.w X.K X.mg X.base k x sp) (tk : Takes X W) (hr : Rm j X.A) (hk : k ≤ j) (hg : Gl X x) (ha : PA X (e :: es) t) (hdb : (x == ("__debug__" : Str)) = false := by decide)
    (hst : starEach (e :: es) X.env = (false, eval e X.env) :: starEach es X.env := by rfl) (hpl : (backTo pos (starEach es X.env)).any (·.1) = false := by rfl) : PE X (.Call (.Name x p) (e :: es) [] pos) (tCallS sp (WE W) t) := by
  obtain ⟨f, fd, ps, F, hm, hkp, hb⟩ := c.ex
  constructor
  intro pins s σ H Q I h
  refine wpAny_Call_Name_kw (ld_glob I hg hm ?_ hdb)
  refine PySem.W.callWith_K (h₀ := X.base) I.ok.mod.kin hkp (thn (ha.run pos pins s σ H _ I h) ?_) hst hpl
  rintro us s1 ⟨vs, H1, I1, r, q⟩
  refine ⟨I1.kIn, ?_⟩
  have hl : (us ++ []).length = ps.length := by rw [List.append_nil, ← r.length]; exact F.many _ _ _ _ q
  have hb' := hb s1 us I1.kIn hl
  rw [List.append_nil] at hb'
  refine wpAny_call (codeAny_mono (F.go X.A X.stack s1 H1 ⟨us, []⟩ us vs Q (WE W σ) (hr.mono hk) I1.env0 hb' r q) fun res s2 hq => ?_)
  match res, hq with
  | .error e, hq => exact passAt tk σ pins H1 s1 e s2 I1 hq
  | .ok (.ret u), hq => exact I1.after hq
/-- f(..), where nothing is raised -/
theorem pe_calE0 (c : CalE X.prog X.w X.K X.mg X.base k x sp) (hr : Rm j X.A) (hk : k ≤ j) (hg : Gl X x) (ha : PA X (e :: es) t) (hdb : (x == ("__debug__" : Str)) = false := by decide)
    (hst : starEach (e :: es) X.env = (false, eval e X.env) :: starEach es X.env := by rfl) (hpl : (backTo pos (starEach es X.env)).any (·.1) = false := by rfl) : PE X (.Call (.Name x p) (e :: es) [] pos) (tCall sp [] E0 t) := by
  obtain ⟨f, fd, ps, F, hm, hkp, hb⟩ := c.ex
  exact pe_callG F (hr.mono hk) hg hm hkp hb passL ha hdb hst hpl
/-- raise C(e) -/
theorem ps_raiseE {x : Str} {E : XK} {p1 : Pos} (T : ClsE X.K X.mg x "row") (hc : X.calm = true) (tk : Takes X (fun cls d _ H => E cls d H)) (hr : Rm 2 X.A) (hg : Gl X x) (ha : PA X (e :: es) t) (hdb : (x == ("__debug__" : Str)) = false := by decide)
    (he : starEach (e :: es) X.env = (false, eval e X.env) :: starEach es X.env := by rfl) (hpl : (backTo pos (starEach es X.env)).any (·.1) = false := by rfl) : PS X (.Raise (some (.Call (.Name x p) (e :: es) [] pos)) none p1) (tRzE (cAt X.mg x) "row" E t) := by
  obtain ⟨fI, fd, q, st, h1, h2, F, hb, S, p1', p2, p3, p4, hb2⟩ := T.ini
  exact ps_raise hc tk (pmk_oex T.oex h1 h2 (ini_ok (P := X.prog) (w := X.w) (mg := X.mg) (base := X.base) F S hb2 T.oex T.no) hr.r hb .nil (fun _ _ _ _ _ _ _ h => h.elim) hg T.at_ ha hdb he hpl)
end
section
variable {K : PySem.W.Frag} {m : Env'} {ow ow1 : List OC} {ks : List Knd} {α : Type} {C : Addr} {fld : Str} {args : α → List PyData} {pre : α → Prop} {good : α → Bool} {out : α → PyData} {row : α → Int} {ar : TA}
theorem ee_callE0 (b : Bool) (a : α) (h : EA K ar m ow ks ow1) (ha : ads ow1 ks = some (args a)) (hp : pre a) (hg : good a = true) : EE K (tCall (spE C fld args pre good out row K) [] E0 ar) m ow (resK b ow1 (out a)) (resO b ow1 (out a)) := fun He Fr ts σ xs H Q S q =>
  h He Fr ts σ xs H _ S fun ys H1 hl ⟨Hd, ps, S1⟩ => by
    obtain ⟨h1, S2⟩ := S1.args hl
    rw [List.append_nil]
    exact ⟨a, ads_ok S2 h1 ha, hp, fun _ x H' Hf e f r => q _ _ (S2.res b e f r), fun z => by rw [hg] at z; cases z⟩
end

/-! ### try: return f(..), except C as e: return (word, e.field) -/
theorem set_none {m : Env'} {i : Nat} (h : m[i]? = some none) : m.set i none = m := by
  refine List.ext_getElem? fun j => ?_
  by_cases e : i = j
  · subst e
    rw [List.getElem?_set_self (List.getElem?_eq_some_iff.mp h).1, h]
  · rw [List.getElem?_set_ne e]
section
variable {K : PySem.W.Frag} {m : Env'} {ow ow1 : List OC} {ks : List Knd} {α : Type} {C : Addr} {fld wd : Str} {args : α → List PyData} {pre : α → Prop} {good : α → Bool} {out : α → PyData} {row : α → Int} {ar : TA} {P : Post} {i : Nat} {mg : Str → Option Value} {c : Str}
theorem SB.junk {He Fr Hd H : Hp} {ps : List Addr} {ts : List Knd} {σ : L2.St} {xs : List V} (S : SB K He Fr Hd ps m ow ts σ xs H) (hi : m[i]? = some none) (x : Option V) : SB K He Fr Hd ps m ow ts (σ.set i x) xs H :=
  ⟨S.eh, S.dh, S.fh, S.fd, S.fk, S.nk, S.pl, S.ok, by
    have h : Paired (SlotOk K (port He Hd) Hd ps) (σ.set i x) (m.set i none) := prd_set (show SlotOk K (port He Hd) Hd ps x none from trivial) i S.sv
    rwa [set_none hi] at h, S.tv⟩
theorem ss_tryE (a : α) (h : EA K ar m ow ks ow1) (ha : ads ow1 ks = some (args a)) (hp : pre a) (hex : PySem.W.exmOne K (.ref C) (.ref C) = some true) (hi : m[i]? = some none)
    (hok : good a = true → P.rt (resK false ow1 (out a)) (resO false ow1 (out a))) (hno : good a = false → P.rt (.dat (.tuple [.str wd, .int (row a)])) ow1) :
    SS K (fun D σ H => tRet (tCallS (spE C fld args pre good out row K) (WE (wAs K (.ref C) i (fun a cls d => tRet (tTup (tCons (tC (.str wd)) (tCons (tXf a cls d C fld (tVar i)) tNil)))) (fun _ _ _ _ => False) D)) ar) D σ H) m ow P := fun He Fr ts σ xs H D S F =>
  h He Fr ts σ xs H _ S fun ys H1 hl ⟨Hd, ps, S1⟩ => by
    obtain ⟨h1, S2⟩ := S1.args hl
    refine ⟨a, ads_ok S2 h1 ha, hp, fun hg x H' Hf e f r => F.rt _ m _ σ x H' (hok hg) (S2.res false e f r), fun hg d H' e hd => ?_⟩
    refine ⟨true, hex, fun _ a' ha' => ?_, fun z => by cases z⟩
    obtain ⟨Hd', S3, _⟩ := frs_ext (Hf := fun _ => none) S2 e ⟨fun _ _ z => (by cases z), fun _ _ z => (by cases z)⟩
    have li : i < σ.length := by
      have := S3.sv.length
      rw [this]; exact (List.getElem?_eq_some_iff.mp hi).1
    have S4 := S3.junk hi (some (V.ref a'))
    refine ⟨.ref a', List.getElem?_set_self li, rfl, rfl, d, [(fld, .int (row a))], .int (row a), rfl, hd, ?_, ?_⟩
    · exact List.lookup_cons_self
    · refine ⟨by show 2 ≤ sizeLine; rw [sizeLine_eq]; omega, fun p hp' => F.rt _ m _ _ _ _ (hno hg) (S4.madeT hp' (.cons (.str _) (.cons (.int _) .nil)))⟩
end

section
variable {K : PySem.W.Frag} {mg : Str → Option Value} {x q : Str} {h : Heap} {C fI : Addr} {st : Stmt} {nm q2 : Str} {N : Addr} {bs bm : List Value} {sn : List Str} {sub : List Value} {ab : Bool} {col : Option Bool} {dd : Option Addr} {k0 k1 k2 k3 k5 : Option Value}
  {oc kV doc pm cdv ct : Value} {od an : Option Addr} {osl : Array (Option Value)} {p1 p2 p3 p4 : Pos}
theorem clsE_mk (X : K.In h) (G : h.Ns mainGlobals mg) (a : PySem.W.nsIn K mainGlobals x = some (some (.ref C))) (l : K.lookup C = some (excClassObj nm q2 C N bs bm true sn sub ab col dd k0 k1 k2 k3 k5 "ValueError.__new__")) (vm : PySem.HandSPX.refsVE bm = true)
    (sa : PySem.W.findIn K (.ref C) "__setattr__" = some (some (.builtin "object.__setattr__"))) (sb : PySem.W.subIn K (.ref C) (.type "BaseException") = some true) (ty : PySem.W.typeIn K (.ref C) = some (.type "type")) (kC : PySem.W.keepIn K (.ref C) = true)
    (ga : PySem.W.findIn K (.ref C) "__getattribute__" = some (some (.builtin "BaseException.__getattribute__"))) (gg : PySem.W.findIn K (.ref C) "__getattr__" = some none) (hd : PySem.W.hasDictIn K C = true) (no : PySem.W.findIn K (.ref C) "row" = some none)
    (ss : PySem.W.subIn K (.ref C) (.ref C) = some true) (iC : PySem.W.findIn K (.ref C) "__init__" = some (some (.ref fI))) (iT : PySem.W.typeIn K (.ref fI) = some (.type "function"))
    (lI : K.lookup fI = some ⟨oc, od, .func (PySem.W.fnOf "__init__" q (defArgs st) (defBody st) (defScope st) .none kV doc pm an cdv ct), osl⟩) (c : PySem.W.codeIn K cdv q = true) (k : PySem.W.keepIn K (.ref fI) = true)
    (S : FnScope ["self", "row"] ["self", "row"] (defScope st)) (hb : defBody st = [.Assign [.Attribute (.Name "self" p1) "row" p2] (.Name "row" p3) p4])
    (hbd : ∀ (kV doc pm : Value) (an : Option Addr) (cdv ct : Value) (us : List Value), us.length = (["self", "row"] : List Str).length → bindArgs (PySem.W.fnOf "__init__" q (defArgs st) (defBody st) (defScope st) .none kV doc pm an cdv ct) ⟨us, []⟩ = pure ((["self", "row"] : List Str).zip us)) : ClsE K mg x "row" := by
  have e : mg x = some (.ref C) := PySem.W.mg_of X G a
  have e2 : cAt mg x = C := by unfold cAt; rw [e]
  have F : Fun K "__init__" q st fI _ := fun_mk lI c k
  exact ⟨by rw [e2]; exact e, by rw [e2]; exact ⟨⟨_, _, _, _, _, _, _, _, _, _, _, _, _, _, _, l, vm⟩, sa, sb, ty, kC⟩, by rw [e2]; exact ⟨ga, gg, sb, hd⟩, by rw [e2]; exact no, by rw [e2]; exact PySem.W.exm_ref sb hd ty ss,
    fI, _, q, st, by rw [e2]; exact iC, iT, F, F.binds hbd, S, p1, p2, p3, p4, hb⟩
end
end LD

/-! list(xs) and [x for x in xs if t] of what was handed in: the new list is as what was handed in. -/
namespace LD
open PySem PySem.Spec PyProof.Rows L2
section
variable {K : PySem.W.Frag} {He Fr Hd H : Hp} {ps : List Addr} {m : Env'} {ow ow1 : List OC} {ts : List Knd} {σ : L2.St} {xs : List V} {k : Knd} {ds : List PyData} {fl : Bool} {α : Type} {vs : List Nat} {j : Nat} {tt : TT} {te tl : TE} {c : α → Bool} {f : α → PyData} {as : List α}
/-- a new list at p, of what was handed in -/
theorem SB.madeA {p : Addr} {ys : List V} (S : SB K He Fr Hd ps m ow ts σ xs H) (hp : H p = none) (h : DpAll K Hd ys ds) : SA K He Fr m ow (.arg (.list ds) :: ts) σ (.ref p :: xs) (upd H p (.lst ys)) := by
  have e : Same H (upd H p (.lst ys)) := fun a o q => by rw [upd_ne (ne_of_none q hp)]; exact q
  have c : ∀ a o, (if a = p then some (HO.lst ys) else none) = some o → a = p ∧ o = .lst ys := fun a o q => by
    split at q
    · cases q; exact ⟨by assumption, rfl⟩
    · cases q
  obtain ⟨Hd', S', e1, e2, _⟩ := S.ext (Hf := fun a => if a = p then some (.lst ys) else none) e (fun a o q => (by obtain ⟨rfl, rfl⟩ := c a o q; exact upd_same)) fun a o q => .inr (by obtain ⟨rfl, rfl⟩ := c a o q; exact hp)
  exact ⟨Hd', ps, S'.push (k := .arg (.list ds)) (.lst (.inl (.inl ((of_port (e2 p _ (if_pos rfl))).1))) (dpa_mono e1 h))⟩
theorem regA_sub (b : Bool) {vs : List V} (h : DpAll K (reg b He Hd) vs ds) : DpAll K Hd vs ds := by
  cases b with
  | true => exact dpa_mono (port_sub He Hd) h
  | false => exact h
theorem cc_listA (h : seqOf ow k = some (fl, ds)) : CC K (rLo K) m ow [k] (.arg (.list ds)) ow := by
  rintro He Fr ts σ ys xs H Q hl ⟨Hd, ps, S⟩ q
  obtain ⟨y, rfl⟩ := one hl
  obtain ⟨p, vs, rfl, h1, h2⟩ := seq_ok S S.pop.1 h
  exact ⟨p, vs, rfl, .inl h1, fun r hr => q _ _ (S.pop.2.madeA hr (regA_sub fl h2))⟩
def Turn1A (K : PySem.W.Frag) (m : Env') (ow : List OC) (vs : List Nat) (j : Nat) (tt : TT) (te : TE) (kx : α → Knd) (c : α → Bool) (f : α → PyData) (as : List α) : Prop :=
  ∀ a ∈ as, EB K tt ((wipeM m vs).set j (some (kx a))) ow (c a) ow ∧ (c a = true → ∃ k', apds [k'] = some [f a] ∧ EE K te ((wipeM m vs).set j (some (kx a))) ow k' ow)
def SoFarA (K : PySem.W.Frag) (He Fr : Hp) (m : Env') (ow : List OC) (ts : List Knd) (σ : L2.St) (xs : List V) (D : Addr) (ds : List PyData) (H : Hp) : Prop :=
  ∃ Hd ps acc, H D = some (.lst acc) ∧ SB K He Fr Hd ps m ow ts σ xs (hid H D) ∧ DpAll K Hd acc ds
theorem dpa_prdA {Hq : Hp} : ∀ {ys : List V} {ds : List PyData}, DpAll K Hd ys ds → Paired (KOk K Hq Hd ps) ys (ds.map Knd.arg)
  | _, _, .nil => .nil
  | _, _, .cons h t => .cons h (dpa_prdA t)
theorem of_dpa_prdA {Hq : Hp} : ∀ {ys : List V} {ds : List PyData}, Paired (KOk K Hq Hd ps) ys (ds.map Knd.arg) → DpAll K Hd ys ds
  | _, [], .nil => .nil
  | _, _ :: _, .cons h t => .cons h (of_dpa_prdA t)
theorem lcA_turn {D : Addr} {ds : List PyData} {a : α} {x : V} {kx : α → Knd} {Nx : Hp → Prop} (hj : j ∈ vs) (hF : Fr D = none) (hT : Turn1A K m ow vs j tt te kx c f as) (ha : a ∈ as) (hz : ds.length < 10000000)
    (hx : ∀ Hd ps, SB K He Fr Hd ps m ow ts σ xs (hid H D) → KOk K (port He Hd) Hd ps x (kx a))
    (S : SoFarA K He Fr m ow ts σ xs D ds H) (q : ∀ H', SoFarA K He Fr m ow ts σ xs D (if c a = true then ds ++ [f a] else ds) H' → Nx H') :
    gName j x (wipe σ vs) H fun σ2 H2 => wipe σ2 vs = wipe σ vs ∧ tt σ2 H2 fun b H3 => if b = true then te σ2 H3 fun y H4 => ∃ acc, H4 D = some (.lst acc) ∧ acc.length < sizeLine ∧ Nx (upd H4 D (.lst (acc ++ [y]))) else Nx H3 := by
  obtain ⟨Hd, ps, acc, hD, S, hacc⟩ := S
  obtain ⟨zs, hz1, hz2⟩ := hold S.sv
  have hx := hx Hd ps S
  have S1 := (S.lock hD rfl).tvs (prd_app (dpa_prdA (ps := ps) hacc) (prd_app hz1 S.tv))
  have lz := PySem.Paired.length hz1
  have la := dpa_len hacc
  have S2 := (S1.wipe vs).store hx j
  obtain ⟨ht, he⟩ := hT a ha
  refine ⟨wipe_again σ vs j _ hj, ht He _ _ _ _ _ _ ⟨_, _, S2⟩ fun H3 ⟨Hd3, ps3, S3⟩ => ?_⟩
  have back : ∀ {Hd4 : Hp} {ps4 : List Addr} {m4 : Env'} {σ4 : L2.St} {H4 : Hp}, SB K He (upd Fr D (.lst acc)) Hd4 ps4 m4 ow (ds.map Knd.arg ++ (known m ++ ts)) σ4 (acc ++ (zs ++ xs)) H4 →
      H4 D = some (.lst acc) ∧ SB K He Fr Hd4 ps4 m ow ts σ xs (hid H4 D) ∧ DpAll K Hd4 acc ds := by
    intro Hd4 ps4 m4 σ4 H4 S4
    obtain ⟨e, S5⟩ := S4.unlock hF
    obtain ⟨t1, t2⟩ := prd_split (by rw [List.length_map]; exact la) S5.tv
    obtain ⟨t3, t4⟩ := prd_split lz t2
    exact ⟨e, (S5.svs (hz2 _ _ _ t3)).tvs t4, of_dpa_prdA t1⟩
  cases hc : c a with
  | false =>
    rw [if_neg Bool.false_ne_true]
    refine q _ ?_
    rw [hc, if_neg Bool.false_ne_true]
    obtain ⟨e, S5, h5⟩ := back S3
    exact ⟨_, _, acc, e, S5, h5⟩
  | true =>
    rw [if_pos rfl]
    obtain ⟨k', hk', he⟩ := he hc
    refine he He _ _ _ _ _ _ ⟨_, _, S3⟩ fun y H4 ⟨Hd4, ps4, S4⟩ => ?_
    obtain ⟨hy, S4⟩ := S4.pop
    obtain ⟨e, S5, h5⟩ := back S4
    refine ⟨acc, e, by rw [la, sizeLine_eq]; omega, q _ ?_⟩
    rw [hc, if_pos rfl]
    exact ⟨Hd4, ps4, acc ++ [y], upd_same, by rw [hid_upd]; exact S5, dpa_app h5 (apds_ok (.cons hy .nil) hk')⟩
theorem lcA_begin {D : Addr} (S : SB K He Fr Hd ps m ow ts σ xs H) (hD : H D = none) : SoFarA K He Fr m ow ts σ xs D [] (upd H D (.lst [])) := by
  refine ⟨Hd, ps, [], upd_same, ?_, .nil⟩
  have e : hid (upd H D (.lst [])) D = H := by
    funext a
    unfold hid upd
    split
    · subst_vars; exact hD.symm
    · rfl
  rw [e]
  exact S
theorem lcA_end {D : Addr} {ds : List PyData} (S : SoFarA K He Fr m ow ts σ xs D ds H) : SA K He Fr m ow (.arg (.list ds) :: ts) σ (.ref D :: xs) H := by
  obtain ⟨Hd, ps, acc, hD, S, hacc⟩ := S
  have := S.madeA (p := D) hid_at hacc
  rwa [upd_hid hD] at this
theorem ee_lcA (as : List α) (emb : α → PyData) (c : α → Bool) (f : α → PyData) (hl : EE K tl m ow k ow1) (hs : seqOf ow1 k = some (fl, as.map emb)) (hT : Turn1A K m ow1 vs j tt te (fun a => ek fl (emb a)) c f as) (hj : j ∈ vs) (hz : as.length < 10000000) :
    EE K (tLc (iList K tl) (gName j) tt te vs) m ow (.arg (.list ((as.filter c).map f))) ow1 := fun He Fr ts σ xs H Q S q =>
  hl He Fr ts σ xs H _ S fun x H1 ⟨Hd, ps, S1⟩ => by
    obtain ⟨p, us, rfl, hsq, _⟩ := seq_ok S1 S1.pop.1 hs
    refine ⟨p, rfl, ⟨us, hsq⟩, fun D hD => ?_⟩
    have hF := S1.noF hD
    refine ⟨fun i n H => n = as.length - i ∧ i ≤ as.length ∧ SoFarA K He Fr m ow1 (k :: ts) σ (.ref p :: xs) D (((as.take i).filter c).map f) H, ⟨_, rfl, Nat.zero_le _, lcA_begin S1 hD⟩, ?_⟩
    rintro i n H2 ⟨rfl, hi, S2⟩
    obtain ⟨Hd2, ps2, acc, e1, S3, e2⟩ := id S2
    obtain ⟨p2, us2, e, hsq2, hd2⟩ := seq_ok S3 S3.pop.1 hs
    cases e
    have hsq2 := (hid_sub H2 D).seq hsq2
    have hlen : us2.length = as.length := by rw [dpa_len hd2, List.length_map]
    by_cases hlt : i < as.length
    · have ha : as[i]? = some as[i] := List.getElem?_eq_getElem hlt
      refine .inr ⟨⟨us2, us2[i]'(by omega), hsq2, List.getElem?_eq_getElem (by omega)⟩, _, fun H' h => ⟨as.length - (i + 1), by omega, rfl, hlt, h⟩, fun x H' hy => ?_⟩
      obtain ⟨rfl, hy⟩ := hy
      refine lcA_turn (a := as[i]) hj hF hT (List.getElem_mem hlt) ?_ (fun Hd4 ps4 S4 => ?_) S2 fun H' h => ?_
      · rw [List.length_map]
        refine Nat.lt_of_le_of_lt (List.length_filter_le ..) ?_
        rw [List.length_take]
        omega
      · obtain ⟨p4, us4, e, hsq4, hd4⟩ := seq_ok S4 S4.pop.1 hs
        cases e
        have hx := hy us4 ((hid_sub H' D).seq hsq4)
        obtain ⟨d, h1, h2⟩ := dpa_at hd4 hx
        rw [List.getElem?_map, ha] at h1
        cases h1
        exact ek_ok h2
      · rw [filt_step ha]; exact h
    · have e : i = as.length := by omega
      subst e
      refine .inl ⟨⟨us2, hsq2, by omega⟩, q _ _ ?_⟩
      rw [List.take_length] at S2
      obtain ⟨Hd5, ps5, S5⟩ := lcA_end S2
      obtain ⟨h1, h2⟩ := S5.pop
      exact ⟨Hd5, ps5, h2.pop.2.push h1⟩
theorem ee_asA {te : TE} {es : List PyData} (h : EE K te m ow (.arg (.list ds)) ow1) (e : ds = es) : EE K te m ow (.arg (.list es)) ow1 := e ▸ h
end
end LD

/-! xs.index(d), d any data. -/
namespace LD
open PySem PySem.Spec PyProof.Rows L2
theorem mt_indexDK {X : Cx} {K : PySem.W.Frag} (hK : X.K = K) (hu : X.A.units + 65 < cLine) : MtR X "list.index" (rIndexD K) := hK ▸ mt_indexD hu
theorem ee_indexD {K : PySem.W.Frag} {m : Env'} {ow ow1 ow2 : List OC} {k k2 : Knd} {to : TE} {ar : TA} {d z : PyData} {ds : List PyData} {fl : Bool} {j : Nat} (h : EE K to m ow k ow1) (hs : seqOf ow1 k = some (fl, ds)) (ha : EA K ar m ow1 [k2] ow2) (h1 : ad ow2 k = some (.list ds)) (h2 : ad ow2 k2 = some d)
    (s1 : SeqAt.shaped (.list ds) = true) (s2 : SeqAt.shaped d = true) (hj : ds[j]? = some z) (hz : PyData.eqv z d = true) (hno : ∀ m z, m < j → ds[m]? = some z → PyData.eqv z d = false) :
    EE K (tBM K "list" (rIndexD K) to ar) m ow (.v (.int (j : Nat))) ow2 := fun He Fr ts σ xs H Q S q =>
  h He Fr ts σ xs H _ S fun x H1 ⟨Hd, ps, S1⟩ => by
    obtain ⟨p, vs, rfl, a1, a2⟩ := seq_ok S1 S1.pop.1 hs
    refine ⟨.inl ⟨rfl, vs, a1⟩, ha He Fr _ σ _ H1 _ ⟨Hd, ps, S1⟩ fun ys H2 hl ⟨Hd2, ps2, S2⟩ => ?_⟩
    obtain ⟨hp, S3⟩ := S2.args hl
    obtain ⟨y, rfl⟩ : ∃ y, ys = [y] := one hl
    cases hp with
    | cons hy _ => exact ⟨p, y, d, ds, j, z, rfl, rfl, dp_hand (ad_ok S3 S3.pop.1 h1) (nod_shaped s1), dp_hand (ad_ok S3 hy h2) (nod_shaped s2), s1, s2, hj, hz, hno, q _ _ ⟨Hd2, ps2, S3.pop.2.push rfl⟩⟩
theorem call_isiK {X : Cx} {K : PySem.W.Frag} (hK : X.K = K) : CallR X (.builtin "isinstance") (rIsi K) := hK ▸ call_isi
section
variable {K : PySem.W.Frag} {m : Env'} {ow : List OC} {P : Post} {vs : List Nat} {j : Nat} {tt : TT} {te tl : TE} {t u : TS} {X Y : Knd → List OC → Prop}
/-- [e for x in xs if t], xs with outcomes -/
theorem ex_lc (b : Bool) (h : EX K tl m ow X) (hX : ∀ k ow1, X k ow1 → ∃ (α : Type) (as : List α) (emb : α → PyData) (fl : Bool) (c : α → Bool) (f : α → PyData), seqOf ow1 k = some (fl, as.map emb) ∧ Turn1 K m ow1 vs j tt te (fun a => ek fl (emb a)) c f as ∧ as.length < 10000000 ∧ Y (newK b ow1 ((as.filter c).map f)) (newO b ow1 ((as.filter c).map f)))
    (hj : j ∈ vs) : EX K (tLc (iList K tl) (gName j) tt te vs) m ow Y := fun He Fr ts σ xs H Q S q =>
  h He Fr ts σ xs H _ S fun k ow1 x H1 hx ⟨Hd, ps, S1⟩ => by
    obtain ⟨α, as, emb, fl, c, f, hs, hT, hz, hY⟩ := hX k ow1 hx
    obtain ⟨p, us, rfl, hsq, _⟩ := seq_ok S1 S1.pop.1 hs
    refine ⟨p, rfl, ⟨us, hsq⟩, fun D hD => ?_⟩
    have hF := S1.noF hD
    refine ⟨fun i n H => n = as.length - i ∧ i ≤ as.length ∧ SoFar K He Fr m ow1 (k :: ts) σ (.ref p :: xs) D (((as.take i).filter c).map f) H, ⟨_, rfl, Nat.zero_le _, lc_begin S1 hD⟩, ?_⟩
    rintro i n H2 ⟨rfl, hi, S2⟩
    obtain ⟨Hd2, ps2, acc, e1, S3, e2⟩ := id S2
    obtain ⟨p2, us2, e, hsq2, hd2⟩ := seq_ok S3 S3.pop.1 hs
    cases e
    have hsq2 := (hid_sub H2 D).seq hsq2
    have hlen : us2.length = as.length := by rw [dpa_len hd2, List.length_map]
    by_cases hlt : i < as.length
    · have ha : as[i]? = some as[i] := List.getElem?_eq_getElem hlt
      refine .inr ⟨⟨us2, us2[i]'(by omega), hsq2, List.getElem?_eq_getElem (by omega)⟩, _, fun H' h => ⟨as.length - (i + 1), by omega, rfl, hlt, h⟩, fun x H' hy => ?_⟩
      obtain ⟨rfl, hy⟩ := hy
      refine lc_turn (a := as[i]) hj hF hT (List.getElem_mem hlt) ?_ (fun Hd4 ps4 S4 => ?_) S2 fun H' h => ?_
      · rw [List.length_map]
        refine Nat.lt_of_le_of_lt (List.length_filter_le ..) ?_
        rw [List.length_take]
        omega
      · obtain ⟨p4, us4, e, hsq4, hd4⟩ := seq_ok S4 S4.pop.1 hs
        cases e
        have hx := hy us4 ((hid_sub H' D).seq hsq4)
        obtain ⟨d, h1, h2⟩ := dpa_at hd4 hx
        rw [List.getElem?_map, ha] at h1
        cases h1
        exact ek_ok h2
      · rw [filt_step ha]; exact h
    · have e : i = as.length := by omega
      subst e
      refine .inl ⟨⟨us2, hsq2, by omega⟩, q _ _ _ _ hY ?_⟩
      rw [List.take_length] at S2
      have S5 := lc_end b S2
      obtain ⟨Hd5, ps5, S5⟩ := S5
      obtain ⟨h1, h2⟩ := S5.pop
      exact ⟨Hd5, ps5, h2.pop.2.push h1⟩
/-- if e: .., e with outcomes, never true -/
theorem ss_ifTX (h : EX K te m ow X) (hX : ∀ k ow1, X k ow1 → k = .v (.bl false) ∧ SS K u m ow1 P) : SS K (tIfS (tTest te) t u) m ow P := fun He Fr ts σ xs H D S F =>
  h He Fr ts σ xs H _ S fun k ow1 x H1 hx S1 => by
    obtain ⟨rfl, hu⟩ := hX k ow1 hx
    refine ⟨false, S1.top, ?_⟩
    show (if false = true then _ else _)
    rw [if_neg Bool.false_ne_true]
    exact hu He Fr ts σ xs H1 D S1.drop F
end
end LD

/-! Ints as sets of bits: <<, >>, &, |, bit_length. -/
namespace LD
open PySem PySem.Spec PyProof.Rows L2
section
variable {K : PySem.W.Frag} {m : Env'} {ow ow1 : List OC} {i : Int} {to : TE}
theorem ee_bits (h : EE K to m ow (.v (.int i)) ow1) : EE K (tBits to) m ow (.v (.int (Builtin.Int.intBits i : Nat))) ow1 := fun He Fr ts σ xs H Q S q =>
  h He Fr ts σ xs H _ S fun x H1 S1 => ⟨i, S1.top, q _ H1 (S1.drop.pushV _)⟩
end
/-- the union of f 0 to f (n - 1) -/
def orF (f : Nat → Nat) : Nat → Nat
  | 0 => 0
  | n + 1 => orF f n ||| f n
theorem orF_bit (f : Nat → Nat) (v : Nat) : ∀ n, (orF f n).testBit v = true ↔ ∃ e, e < n ∧ (f e).testBit v = true
  | 0 => by
    constructor
    · intro h; rw [orF, Nat.zero_testBit] at h; cases h
    · rintro ⟨e, h, _⟩; omega
  | n + 1 => by
    rw [orF, Nat.testBit_or, Bool.or_eq_true, orF_bit f v n]
    constructor
    · rintro (⟨e, h, g⟩ | h)
      · exact ⟨e, by omega, g⟩
      · exact ⟨n, by omega, h⟩
    · rintro ⟨e, h, g⟩
      by_cases z : e = n
      · exact .inr (z ▸ g)
      · exact .inl ⟨e, by omega, g⟩
theorem mul_bit (x k v : Nat) : (x * 2 ^ k).testBit v = true ↔ k ≤ v ∧ x.testBit (v - k) = true := by
  rw [← Nat.shiftLeft_eq, Nat.testBit_shiftLeft, Bool.and_eq_true, decide_eq_true_eq]
theorem or_nat (a b : Nat) : Builtin.bitOr (a : Int) (b : Int) = ((a ||| b : Nat) : Int) := by
  rw [bitOr_nn (Int.natCast_nonneg _) (Int.natCast_nonneg _), Int.toNat_natCast, Int.toNat_natCast]
theorem and_one (a : Nat) : Builtin.bitAnd (a : Int) 1 = ((a % 2 : Nat) : Int) := by
  unfold Builtin.bitAnd
  have e1 : decide ((0 : Int) ≤ (a : Int)) = true := decide_eq_true (Int.natCast_nonneg _)
  rw [e1, show decide ((0 : Int) ≤ 1) = true from rfl]
  show ((((a : Int).toNat &&& (1 : Int).toNat : Nat)) : Int) = _
  rw [Int.toNat_natCast, show (1 : Int).toNat = 1 from rfl, Nat.and_one_is_mod]
/-- (a >> v) & 1 == 1 -/
theorem has_bit (a v : Nat) : (Builtin.bitAnd ((a : Int) / 2 ^ (v : Int).toNat) 1 = 1) ↔ a.testBit v = true := by
  have e : (a : Int) / 2 ^ (v : Int).toNat = ((a / 2 ^ v : Nat) : Int) := by
    rw [Int.toNat_natCast, Int.natCast_ediv]; norm_cast
  rw [e, and_one, Nat.testBit_eq_decide_div_mod_eq, decide_eq_true_eq]
  omega
theorem bits_nat (a : Nat) : Builtin.Int.intBits (a : Int) = if a = 0 then 0 else a.log2 + 1 := by
  unfold Builtin.Int.intBits
  by_cases h : a = 0
  · subst h; rfl
  · rw [if_neg h, if_neg (by simpa using (show (a : Int) ≠ 0 by omega)), Int.natAbs_natCast]
theorem log2_bit {a : Nat} (h : a ≠ 0) : a.testBit a.log2 = true ∧ ∀ v, a.testBit v = true → v ≤ a.log2 := by
  refine ⟨Nat.testBit_log2 h, fun v hv => ?_⟩
  have := Nat.ge_two_pow_of_testBit hv
  exact (Nat.le_log2 h).mpr this
/-- a shift that is far within bounds -/
theorem shl_nat {a n k : Nat} (h : a < 2 ^ n) (hn : n + k ≤ 1000000) : CShl (a : Int) (k : Int) := shl_ok (n := n) (by rw [Int.natAbs_natCast]; exact h) (by omega)
theorem shl_val (a k : Nat) : (a : Int) * 2 ^ (k : Int).toNat = ((a * 2 ^ k : Nat) : Int) := by rw [Int.toNat_natCast]; push_cast; rfl
theorem orF_lt {f : Nat → Nat} {b : Nat} : ∀ n, (∀ e, e < n → f e < 2 ^ b) → orF f n < 2 ^ b
  | 0, _ => Nat.two_pow_pos b
  | n + 1, h => Nat.or_lt_two_pow (orF_lt n fun e he => h e (by omega)) (h n (by omega))
/-- the lowest bit alone -/
def lowB (a : Nat) : Nat := a - (a &&& (a - 1))
theorem low_and (a : Nat) (h : a ≠ 0) : Builtin.bitAnd (a : Int) (-(a : Int)) = ((lowB a : Nat) : Int) := by
  have hle : (a &&& (a - 1)) ≤ a := Nat.and_le_left
  unfold Builtin.bitAnd
  have e1 : decide ((0 : Int) ≤ (a : Int)) = true := decide_eq_true (Int.natCast_nonneg _)
  have e2 : decide ((0 : Int) ≤ -(a : Int)) = false := decide_eq_false (by omega)
  rw [e1, e2]
  show (a : Int) - (((a : Int).toNat &&& (Builtin.bitNot (-(a : Int))).toNat : Nat) : Int) = _
  have e3 : (Builtin.bitNot (-(a : Int))).toNat = a - 1 := by unfold Builtin.bitNot; omega
  rw [e3, Int.toNat_natCast]
  unfold lowB
  omega
theorem lowB_is : ∀ a : Nat, a ≠ 0 → ∃ v, lowB a = 2 ^ v ∧ a.testBit v = true ∧ ∀ u, a.testBit u = true → v ≤ u := by
  intro a
  induction a using Nat.strongRecOn with
  | _ a ih =>
  intro h
  by_cases o : a % 2 = 1
  · refine ⟨0, ?_, by rw [Nat.testBit_zero]; simp [o], fun u _ => Nat.zero_le _⟩
    have : a &&& (a - 1) = a - 1 := by
      refine Nat.eq_of_testBit_eq fun i => ?_
      rw [Nat.testBit_and]
      cases i with
      | zero => rw [Nat.testBit_zero, Nat.testBit_zero]; simp [o]
      | succ i =>
        rw [Nat.testBit_succ, Nat.testBit_succ, show (a - 1) / 2 = a / 2 by omega]; simp
    unfold lowB
    rw [this, Nat.pow_zero]; omega
  · obtain ⟨b, rfl⟩ : ∃ b, a = 2 * b := ⟨a / 2, by omega⟩
    have hb : b ≠ 0 := by omega
    obtain ⟨v, h1, h2, h3⟩ := ih b (by omega) hb
    refine ⟨v + 1, ?_, ?_, fun u hu => ?_⟩
    · have e : (2 * b) &&& (2 * b - 1) = 2 * (b &&& (b - 1)) := by
        refine Nat.eq_of_testBit_eq fun i => ?_
        rw [Nat.testBit_and]
        cases i with
        | zero => simp [Nat.testBit_zero]
        | succ i =>
          rw [Nat.testBit_succ, Nat.testBit_succ, Nat.testBit_succ, show 2 * b / 2 = b by omega, show (2 * b - 1) / 2 = b - 1 by omega, show 2 * (b &&& (b - 1)) / 2 = b &&& (b - 1) by omega, Nat.testBit_and]
      have hle : (b &&& (b - 1)) ≤ b := Nat.and_le_left
      unfold lowB at h1 ⊢
      rw [e, Nat.pow_succ]; omega
    · rw [Nat.testBit_succ, show 2 * b / 2 = b by omega]; exact h2
    · cases u with
      | zero => rw [Nat.testBit_zero] at hu; simp at hu
      | succ u =>
        rw [Nat.testBit_succ, show 2 * b / 2 = b by omega] at hu
        have := h3 u hu; omega
/-- (x & -x).bit_length() - 1 -/
def loBit (a : Nat) : Nat := Builtin.Int.intBits ((lowB a : Nat) : Int) - 1
theorem loBit_is {a : Nat} (h : a ≠ 0) : (Builtin.Int.intBits (Builtin.bitAnd (a : Int) (-(a : Int))) : Int) - 1 = (loBit a : Int) ∧ a.testBit (loBit a) = true ∧ ∀ u, a.testBit u = true → loBit a ≤ u := by
  obtain ⟨v, h1, h2, h3⟩ := lowB_is a h
  have e : Builtin.Int.intBits ((lowB a : Nat) : Int) = v + 1 := by
    rw [h1, bits_nat, if_neg (Nat.ne_of_gt (Nat.two_pow_pos v)), Nat.log2_two_pow]
  have e2 : loBit a = v := by unfold loBit; rw [e]; rfl
  rw [low_and a h, e, e2]
  exact ⟨by omega, h2, h3⟩
def hiBit (a : Nat) : Nat := a.log2
theorem hiBit_is {a : Nat} (h : a ≠ 0) : (Builtin.Int.intBits (a : Int) : Int) - 1 = (hiBit a : Int) ∧ a.testBit (hiBit a) = true ∧ ∀ u, a.testBit u = true → u ≤ hiBit a := by
  rw [bits_nat, if_neg h]
  exact ⟨by show ((a.log2 + 1 : Nat) : Int) - 1 = (a.log2 : Int); omega, log2_bit h⟩
theorem lt_bits {a v : Nat} (h : a.testBit v = true) : v < Builtin.Int.intBits (a : Int) := by
  have h0 : a ≠ 0 := fun e => by rw [e, Nat.zero_testBit] at h; cases h
  rw [bits_nat, if_neg h0]
  have := (log2_bit h0).2 v h
  omega
section
variable {K : PySem.W.Frag} {He Fr H : Hp} {m : Env'} {ow ow1 ow2 : List OC} {ts : List Knd} {σ : L2.St} {xs : List V} {P : Post} {ar : TA} {te : TE} {tt : TT} {i l : Int} {n : Nat}
/-- [e for x in range(i, l) if t], t changes one's own objects -/
theorem ee_lcRT2 (b : Bool) {vs : List Nat} {j : Nat} (c : Nat → Bool) (oW : Nat → List OC) (dS : Nat → List PyData) (hl : EA K ar m ow [.v (.int i), .v (.int l)] (oW 0)) (hn : (l - i).toNat = n) (b1 : -10000000 < i) (b2 : i < 10000000) (b3 : -10000000 < l) (b4 : l < 10000000) (h0 : dS 0 = [])
    (hT : ∀ a, a < n → EB K tt ((wipeM m vs).set j (some (.v (.int (i + (a : Int)))))) (oW a) (c a) (oW (a + 1)) ∧
      (c a = true → ∃ k' d, pd k' = some d ∧ EE K te ((wipeM m vs).set j (some (.v (.int (i + (a : Int)))))) (oW (a + 1)) k' (oW (a + 1)) ∧ dS (a + 1) = dS a ++ [d]) ∧ (c a = false → dS (a + 1) = dS a))
    (hj : j ∈ vs) (hz : ∀ a, a ≤ n → (dS a).length < 10000000) (hz2 : n < 10000000) :
    EE K (tLc (iRng2 ar) (gName j) tt te vs) m ow (newK b (oW n) (dS n)) (newO b (oW n) (dS n)) := fun He Fr ts σ xs H Q S q =>
  hl He Fr ts σ xs H _ S fun ys H1 hyl ⟨Hd, ps, S0⟩ => by
    obtain ⟨hp, S1⟩ := S0.args hyl
    obtain ⟨y, z, rfl⟩ := two hyl
    cases hp with
    | cons hy hp => cases hp with
      | cons hz2 _ =>
      cases (show y = .int i from hy)
      cases (show z = .int l from hz2)
      refine ⟨i, l, rfl, ⟨by omega, by omega, by omega, by omega⟩, fun D hD => ?_⟩
      have hF := S1.noF hD
      refine ⟨fun a k H => k = n - a ∧ a ≤ n ∧ SoFar K He Fr m (oW a) ts σ xs D (dS a) H, ⟨_, rfl, Nat.zero_le _, by rw [h0]; exact lc_begin S1 hD⟩, ?_⟩
      rintro a k H2 ⟨rfl, hi, S2⟩
      by_cases hlt : a < n
      · obtain ⟨g1, g2, g3⟩ := hT a hlt
        refine .inr ⟨by show a < (l - i).toNat; omega, _, fun H' h => ⟨n - (a + 1), by omega, rfl, hlt, h⟩, fun x H' hy => ?_⟩
        obtain ⟨rfl, rfl⟩ := hy
        refine lc_turnT hj hF g1 (hz a hi) (fun Hd4 ps4 S4 => rfl) S2 (fun hc => ?_) (fun hc H' h => ?_)
        · obtain ⟨k', d, q1, q2, q3⟩ := g2 hc
          exact ⟨k', d, q1, q2, fun H' h => by rw [q3]; exact h⟩
        · rw [g3 hc]; exact h
      · have e : a = n := by omega
        subst e
        exact .inl ⟨by show (l - i).toNat ≤ a; omega, q _ _ (lc_end b S2)⟩
end
end LD

/-! min of a list of pairs: a whole number and a list of whole numbers. -/
namespace LD
open PySem PySem.Spec PyProof.Rows L2 PySem.W
def qD (p : Int × List Int) : PyData := .tuple [.int p.1, .list (p.2.map PyData.int)]
theorem alike_ints : ∀ xs ys : List Int, alikeAll (xs.map PyData.int) (ys.map PyData.int) = true
  | [], ys => by rw [List.map_nil, alikeAll]
  | x :: xs, [] => by rw [List.map_nil, List.map_cons, alikeAll]
  | x :: xs, y :: ys => by rw [List.map_cons, List.map_cons, alikeAll, alike_ints xs ys]; rfl
theorem alike_lI (xs ys : List Int) : alike (.list (xs.map PyData.int)) (.list (ys.map PyData.int)) = true := by rw [alike]; exact alike_ints xs ys
theorem ltQ (p q : Int × List Int) : (p.1 < q.1 → dataLt (qD p) (qD q) = true) ∧ (q.1 < p.1 → dataLt (qD p) (qD q) = false) := by
  unfold qD
  rw [dataLt_pair (by simp [alike]) (alike_lI _ _), dataLt_int]
  simp only [PyData.eqv, beq_iff_eq]
  constructor
  · intro h
    rw [if_neg (by omega)]
    exact decide_eq_true h
  · intro h
    rw [if_neg (by omega)]
    exact decide_eq_false (by omega)
theorem minQ_is (xs : List (Int × List Int)) : ∀ x : Int × List Int, ∃ p, minD (qD x) (xs.map qD) = qD p ∧ p ∈ x :: xs ∧ ∀ y ∈ x :: xs, p.1 ≤ y.1 := by
  induction xs with
  | nil => intro x; exact ⟨x, rfl, List.mem_cons_self .., fun y h => by rw [List.mem_singleton.mp h]; exact Int.le_refl _⟩
  | cons z r ih =>
    intro x
    have e : minD (qD x) ((z :: r).map qD) = minD (if dataLt (qD z) (qD x) then qD z else qD x) (r.map qD) := rfl
    rw [e]
    cases c : dataLt (qD z) (qD x) with
    | true =>
      obtain ⟨p, h1, h2, h3⟩ := ih z
      have hz : z.1 ≤ x.1 := by
        by_cases y : x.1 < z.1
        · have := (ltQ z x).2 y; rw [c] at this; cases this
        · omega
      refine ⟨p, by rw [if_pos rfl]; exact h1, List.mem_cons_of_mem _ h2, fun y hy => ?_⟩
      rcases List.mem_cons.mp hy with hy | hy
      · rw [hy]; have := h3 z (List.mem_cons_self ..); omega
      · exact h3 y hy
    | false =>
      obtain ⟨p, h1, h2, h3⟩ := ih x
      have hz : x.1 ≤ z.1 := by
        by_cases y : z.1 < x.1
        · have := (ltQ z x).1 y; rw [c] at this; cases this
        · omega
      refine ⟨p, by rw [if_neg Bool.false_ne_true]; exact h1, ?_, fun y hy => ?_⟩
      · rcases List.mem_cons.mp h2 with h | h
        · rw [h]; exact List.mem_cons_self ..
        · exact List.mem_cons_of_mem _ (List.mem_cons_of_mem _ h)
      · rcases List.mem_cons.mp hy with hy | hy
        · exact h3 y (by rw [hy]; exact List.mem_cons_self ..)
        · rcases List.mem_cons.mp hy with hy | hy
          · rw [hy]; have := h3 x (List.mem_cons_self ..); omega
          · exact h3 y (List.mem_cons_of_mem _ hy)
theorem alike_qs (xs : List (Int × List Int)) : AlikeAll (xs.map qD) := by
  refine ⟨fun x hx y hy => ?_, fun x hx => ?_⟩
  · obtain ⟨p, _, rfl⟩ := List.mem_map.mp hx
    obtain ⟨q, _, rfl⟩ := List.mem_map.mp hy
    have := alike_lI p.2 q.2
    simp only [qD, alike, alikeAll, Bool.and_true, Bool.true_and] at this ⊢
    exact this
  · obtain ⟨p, _, rfl⟩ := List.mem_map.mp hx
    intro z; cases z
theorem depth_lI : ∀ ns : List Int, PyData.depthAll (ns.map PyData.int) ≤ 1 := ints_depth
theorem depth_qs : ∀ xs : List (Int × List Int), PyData.depthAll (xs.map qD) ≤ 3
  | [] => by rw [List.map_nil, PyData.depthAll]; decide
  | x :: r => by
    have := depth_qs r
    have h2 := ints_depth x.2
    rw [List.map_cons, PyData.depthAll]
    have : (qD x).depth ≤ 3 := by simp only [qD, PyData.depth, PyData.depthAll]; omega
    omega
theorem lay_ints2 : ∀ xs : List (Int × List Int), PyData.canLayAll0 (xs.map qD) = true
  | [] => rfl
  | x :: r => by
    have h := lay_ints2 r
    have h2 := lay_ints x.2
    simp only [List.map_cons, PyData.canLayAll0, h, Bool.and_true]
    simp only [qD, PyData.canLay0, PyData.canLayAll0, h2, Bool.and_true, Bool.true_and]
def rMinQ (K : PySem.W.Frag) : List V → Hp → VK → Prop := fun vs H Q => ∃ (a : Addr) (xs : List V) (p : Int × List Int) (ps : List (Int × List Int)), vs = [.ref a] ∧ SqL K H a xs ∧ DpAll K H xs ((p :: ps).map qD) ∧
  ∀ (i : Nat) (x : V), xs[i]? = some x → ((p :: ps).map qD)[i]? = some (minD (qD p) (ps.map qD)) → Q x H
theorem cr_minQ {X : Cx} (hc : X.calm = true) (hu : X.A.units + 65 < cLine) : CallR X (.builtin "min") (rMinQ X.K) := by
  intro pins s σ H vs us Q I r h
  obtain ⟨a, xs, p, ps, rfl, hs, hd, q⟩ := h
  obtain ⟨its, rv, hl, _⟩ := I.list hs
  rw [Vals.ref1 r]
  obtain ⟨as, hr⟩ := Dp.readsAll I _ xs its hd rv
  have hdep := depth_qs (p :: ps)
  refine min_list_data (x := qD p) (xs := ps.map qD) (I.ok.hd hc) hl.isList (by simpa using hr) (alike_qs (p :: ps)) (by show X.A.units + 1 + PyData.depthAll ((p :: ps).map qD) < cLine; omega) fun i v h' tk bs hv hrd hk => ?_
  have hv : its[i]? = some v := by simpa using hv
  have hlen := rv.length
  obtain ⟨hi, e⟩ := List.getElem?_eq_some_iff.mp hv
  have hx : xs[i]? = some (xs[i]'(by omega)) := List.getElem?_eq_getElem (by omega)
  obtain ⟨u, g1, g2⟩ := rv.get hx
  rw [hv] at g1
  cases g1
  have hld := dpa_len hd
  have hdi : ((p :: ps).map qD)[i]? = some (((p :: ps).map qD)[i]'(by omega)) := List.getElem?_eq_getElem (by omega)
  obtain ⟨y, k1, k2⟩ := dpa_get hd hdi
  rw [hx] at k1
  cases k1
  obtain ⟨cs, hrd2⟩ := Dp.reads I _ _ v k2 g2
  have hdet := (reads_det (fun b o h _ => hk b o h) hrd2 hrd).1
  refine ⟨_, H, I.kept hk, g2, q i _ hx ?_⟩
  rw [hdi, ← hdet]
section
variable {X : Cx} {K : PySem.W.Frag} {m : Env'} {ow : List OC} {k : Knd}
theorem cr_minQK (hK : X.K = K) (hc : X.calm = true) (hu : X.A.units + 65 < cLine) : CallR X (.builtin "min") (rMinQ K) := hK ▸ cr_minQ hc hu
theorem cc_minQ {p z : Int × List Int} {ps : List (Int × List Int)} (h : seqOf ow k = some (true, (p :: ps).map qD)) (e : minD (qD p) (ps.map qD) = qD z) : CC K (rMinQ K) m ow [k] (.dat (qD z)) ow := by
  rintro He Fr ts σ ys xs H Q hl ⟨Hd, qs, S⟩ q
  obtain ⟨y, rfl⟩ := one hl
  obtain ⟨a, us, rfl, h1, h2⟩ := seq_ok S S.pop.1 h
  refine ⟨a, us, p, ps, rfl, h1, dpa_mono ((reg_sub true).trans S.dh) h2, fun i x hx hi => q x H ⟨Hd, qs, S.pop.2.push ?_⟩⟩
  obtain ⟨y, k1, k2⟩ := dpa_get h2 hi
  rw [hx] at k1
  cases k1
  rw [e] at k2
  exact ek_ok (b := true) k2
end
end LD

/-! Tuples and lists of one's own that hold what was handed in; they are looked at only. -/
namespace LD
open PySem PySem.Spec PyProof.Rows L2 PySem.W
section
variable {K : PySem.W.Frag} {He Fr Hd H : Hp} {ps : List Addr} {m : Env'} {ow ow1 ow2 : List OC} {ts ks : List Knd} {σ : L2.St} {xs : List V} {ar : TA} {to : TE} {ds : List PyData} {d : PyData} {k : Knd} {n i : Nat} {P : Post} {t : TS}
theorem ee_tupA (h : EA K ar m ow ks ow1) (hp : apds ks = some ds) (hs : ks.length ≤ 1000 := by exact Nat.le_of_ble_eq_true rfl) : EE K (tTup ar) m ow (.arg (.tuple ds)) ow1 := fun He Fr ts σ xs H Q S q =>
  h He Fr ts σ xs H _ S fun ys H1 hl ⟨Hd, ps, S1⟩ => by
    obtain ⟨h1, S2⟩ := S1.args hl
    refine ⟨by rw [hl, sizeLine_eq]; omega, fun p hp' => q _ _ ?_⟩
    have e : Same H1 (upd H1 p (.tup ys)) := fun a o q => by rw [upd_ne (ne_of_none q hp')]; exact q
    have c : ∀ a o, (if a = p then some (HO.tup ys) else none) = some o → a = p ∧ o = .tup ys := fun a o q => by
      split at q
      · cases q; exact ⟨by assumption, rfl⟩
      · cases q
    obtain ⟨Hd', S', e1, e2, _⟩ := S2.ext (Hf := fun a => if a = p then some (.tup ys) else none) e (fun a o q => (by obtain ⟨rfl, rfl⟩ := c a o q; exact upd_same)) fun a o q => .inr (by obtain ⟨rfl, rfl⟩ := c a o q; exact hp')
    exact ⟨Hd', ps, S'.push (k := .arg (.tuple ds)) (.tup (.inl (.inl ((of_port (e2 p _ (if_pos rfl))).1))) (dpa_mono e1 (apds_ok h1 hp)))⟩
/-- a list of one's own of what was handed in -/
def laC (ds : List PyData) : OC := .gen (fun _ vs => HO.lst vs) (ds.map Knd.arg)
theorem ss_la0 (n : Nat) (h : SS K t m (ow.set n (laC [])) P) (hn : ow[n]? = some (.lst []) := by rfl) : SS K t m ow P := ss_say n h hn (fun Hq Hd H ps p ⟨h1, vs, h2, h3⟩ => by
  cases h3
  exact ⟨h1, [], h2, rfl, .nil⟩) rfl
theorem SB.ownA (S : SB K He Fr Hd ps m ow ts σ xs H) {x : V} (h : KOk K (port He Hd) Hd ps x (.own n)) (e : ow[n]? = some (laC ds)) : ∃ p vs, ps[n]? = some p ∧ x = .ref p ∧ Hd p = none ∧ H p = some (.lst vs) ∧ DpAll K Hd vs ds := by
  obtain ⟨p, hp, hx⟩ := h
  obtain ⟨h1, vs, h2, _, h3⟩ := S.ok n p _ hp e
  exact ⟨p, vs, hp, hx, h1, h2, of_dpa_prdA h3⟩
theorem ee_appendA {ds0 : List PyData} (h : EE K to m ow (.own n) ow1) (h0 : ow1[n]? = some (laC ds0)) (ha : EA K ar m ow1 [k] ow2) (hn : ow2[n]? = some (laC ds)) (hk : apds [k] = some [d]) (hz : ds.length < 10000000) : EE K (tBM K "list" rAppend to ar) m ow (.v .non) (ow2.set n (laC (ds ++ [d]))) := fun He Fr ts σ xs H Q S q =>
  h He Fr ts σ xs H _ S fun x H1 ⟨Hd, ps, S1⟩ => by
    obtain ⟨p, vs, e1, rfl, e2, e3, e4⟩ := S1.ownA S1.pop.1 h0
    refine ⟨.inl ⟨rfl, vs, .inl (.inl e3)⟩, ha He Fr _ σ _ H1 _ ⟨Hd, ps, S1⟩ fun ys H2 hl ⟨Hd2, ps2, S2⟩ => ?_⟩
    obtain ⟨y, rfl⟩ : ∃ y, ys = [y] := one hl
    obtain ⟨hp, S3⟩ := S2.args hl
    obtain ⟨p2, vs2, f1, f2, f3, f4, f5⟩ := S3.ownA S3.pop.1 hn
    cases f2
    have hz2 : vs2.length < sizeLine := by rw [dpa_len f5, sizeLine_eq]; omega
    have h5 : Paired (KOk K (port He Hd2) Hd2 ps2) (vs2 ++ [y]) ((ds ++ [d]).map Knd.arg) := dpa_prdA (dpa_app f5 (apds_ok hp hk))
    exact ⟨p, vs2, y, rfl, rfl, f4, hz2, q _ _ ⟨Hd2, ps2, (S3.pop.2.writeC (o := .lst (vs2 ++ [y])) (c1 := laC (ds ++ [d])) f1 hn f3 ⟨f3, _, upd_same, rfl, h5⟩).push rfl⟩⟩
theorem SB.giveA (S : SB K He Fr Hd ps m ow ts σ xs H) (hn : ow[n]? = some (laC ds)) : ∃ p vs, ps[n]? = some p ∧ SB K He Fr (upd Hd p (.lst vs)) ps m (ow.set n .dead) ts σ xs H ∧ Dp K (upd Hd p (.lst vs)) (.ref p) (.list ds) := by
  have hl : n < ps.length := by rw [S.pl]; exact (List.getElem?_eq_some_iff.mp hn).1
  obtain ⟨p, vs, e1, _, e2, e3, e4⟩ := S.ownA (n := n) ⟨ps[n], List.getElem?_eq_getElem hl, rfl⟩ hn
  have fp := S.fp p (List.mem_of_getElem? e1)
  have eD : Same Hd (upd Hd p (.lst vs)) := fun a o z => by rw [upd_ne (fun w => by rw [w, e2] at z; cases z)]; exact z
  have eP : Same (port He Hd) (port He (upd Hd p (.lst vs))) := port_mono eD
  refine ⟨p, vs, e1, ⟨S.eh.trans eD, fun a o z => ?_, S.fh, fun a o z => ?_, by rw [kids_set (c1 := OC.dead) hn rfl]; exact S.fk, by rw [kids_set (c1 := OC.dead) hn rfl]; exact S.nk, by rw [List.length_set]; exact S.pl, fun j r c hj hc => ?_, L2.Paired.mapP S.sv fun x k h => h.mono0 eP eD, L2.Paired.mapP S.tv fun x k h => h.mono0 eP eD⟩, .lst (.inl (.inl upd_same)) (dpa_mono eD e4)⟩
  · by_cases w : a = p
    · subst w; rw [upd_same] at z; cases z; exact e3
    · rw [upd_ne w] at z; exact S.dh _ _ z
  · have w : a ≠ p := fun w => by rw [w, fp] at z; cases z
    rw [upd_ne w]
    exact S.fd _ _ z
  · by_cases w : n = j
    · subst w
      rw [e1] at hj
      cases hj
      rw [List.getElem?_set_self (List.getElem?_eq_some_iff.mp hn).1] at hc
      cases hc
      exact ⟨_, e3⟩
    · rw [List.getElem?_set_ne w] at hc
      have hne := S.apart e1 hj w
      have q1 := S.ok j r c hj hc
      cases c with
      | dead => exact q1
      | lst ds1 => exact ⟨by rw [upd_ne hne]; exact q1.1, q1.2.imp fun us h => ⟨h.1, dpa_mono eP h.2⟩⟩
      | dic ds1 => exact ⟨by rw [upd_ne hne]; exact q1.1, q1.2.imp fun us h => ⟨h.1, kp_mono eP h.2⟩⟩
      | ldic od us ds1 => exact ⟨by rw [upd_ne hne]; exact q1.1, q1.2.1, kp_mono eP q1.2.2⟩
      | gen φ ks => exact ⟨by rw [upd_ne hne]; exact q1.1, q1.2.imp fun us h => ⟨h.1, h.2.1, L2.Paired.mapP h.2.2 fun x k h => h.mono0 eP eD⟩⟩
      | tpl ks => exact q1.imp fun us h => ⟨h.1, L2.Paired.mapP h.2 fun x k h => h.mono0 eP eD⟩
      | jl n => exact ⟨by rw [upd_ne hne]; exact q1.1, q1.2⟩
      | tr qs lss => exact ⟨by rw [upd_ne hne]; exact q1.1, q1.2.1, fun x hx => by rw [upd_ne (S.kidNe (List.mem_of_getElem? e1) (kids_mem hc hx))]; exact q1.2.2.1 x hx, L2.Paired.mapP q1.2.2.2 fun x k h => h.imp fun vs h => ⟨h.1, dpa_mono eP h.2⟩⟩
/-- the n-th object of one's own, in slot i, is looked at only from now on -/
theorem ss_frzA (i n : Nat) (h : SS K t (m.set i (some (.arg (.list ds)))) (ow.set n .dead) P) (hm : m[i]? = some (some (.own n)) := by rfl) (hn : ow[n]? = some (laC ds) := by rfl) : SS K t m ow P := fun He Fr ts σ xs H D ⟨Hd, ps, S⟩ F => by
  obtain ⟨p, vs, e1, S1, hd⟩ := S.giveA hn
  obtain ⟨y, h1, h2⟩ := prd_get S1.sv hm
  obtain ⟨x, rfl, p', hp', rfl⟩ := (show ∃ x, y = some x ∧ _ from h2)
  rw [e1] at hp'
  cases hp'
  exact h He Fr ts σ xs H D ⟨_, ps, S1.svs (prd_setR S1.sv h1 ⟨_, rfl, hd⟩)⟩ F
theorem cc_minQ2 {b : Bool} {p z : Int × List Int} {zs : List (Int × List Int)} (h : seqOf ow k = some (b, (p :: zs).map qD)) (e : minD (qD p) (zs.map qD) = qD z) : CC K (rMinQ K) m ow [k] (ek b (qD z)) ow := by
  rintro He Fr ts σ ys xs H Q hl ⟨Hd, qs, S⟩ q
  obtain ⟨y, rfl⟩ := one hl
  obtain ⟨a, us, rfl, h1, h2⟩ := seq_ok S S.pop.1 h
  refine ⟨a, us, p, zs, rfl, h1, dpa_mono ((reg_sub b).trans S.dh) h2, fun i x hx hi => q x H ⟨Hd, qs, S.pop.2.push ?_⟩⟩
  obtain ⟨y, k1, k2⟩ := dpa_get h2 hi
  rw [hx] at k1
  cases k1
  rw [e] at k2
  exact ek_ok k2
end
section
variable {K : PySem.W.Frag} {m : Env'} {ow ow1 : List OC} {k : Knd} {tl te : TE} {tt : TT} {g : TG} {js : List Nat} {fl : Bool}
/-- [.. for (..) in xs if t] of what was handed in -/
theorem ee_lcAG {α : Type} {vs : List Nat} (as : List α) (em : α → PyData) (c : α → Bool) (f : α → PyData) (hl : EE K tl m ow k ow1) (hs : seqOf ow1 k = some (fl, as.map em)) (hj : ∀ j ∈ js, j ∈ vs)
    (hT : ∀ a ∈ as, ∃ m', ST K g js fl (em a) (wipeM m vs) m' ∧ EB K tt m' ow1 (c a) ow1 ∧ (c a = true → ∃ k', apds [k'] = some [f a] ∧ EE K te m' ow1 k' ow1)) (hz : as.length < 10000000) :
    EE K (tLc (iList K tl) g tt te vs) m ow (.arg (.list ((as.filter c).map f))) ow1 := fun He Fr ts σ xs H Q S q =>
  hl He Fr ts σ xs H _ S fun x H1 ⟨Hd, ps, S1⟩ => by
    obtain ⟨p, us, rfl, hsq, _⟩ := seq_ok S1 S1.pop.1 hs
    refine ⟨p, rfl, ⟨us, hsq⟩, fun D hD => ?_⟩
    have hF := S1.noF hD
    refine ⟨fun i n H => n = as.length - i ∧ i ≤ as.length ∧ SoFarA K He Fr m ow1 (k :: ts) σ (.ref p :: xs) D (((as.take i).filter c).map f) H, ⟨_, rfl, Nat.zero_le _, lcA_begin S1 hD⟩, ?_⟩
    rintro i n H2 ⟨rfl, hi, S2⟩
    obtain ⟨Hd2, ps2, acc, hD2, S3, hacc⟩ := id S2
    obtain ⟨p2, us2, e, hsq2, hd2⟩ := seq_ok S3 S3.pop.1 hs
    cases e
    have hsq2 := (hid_sub H2 D).seq hsq2
    have hlen : us2.length = as.length := by rw [dpa_len hd2, List.length_map]
    by_cases hlt : i < as.length
    · have ha : as[i]? = some as[i] := List.getElem?_eq_getElem hlt
      refine .inr ⟨⟨us2, us2[i]'(by omega), hsq2, List.getElem?_eq_getElem (by omega)⟩, _, fun H' h => ⟨as.length - (i + 1), by omega, rfl, hlt, h⟩, fun x H' hy => ?_⟩
      obtain ⟨rfl, hy⟩ := hy
      obtain ⟨d, g1, g2⟩ := dpa_at hd2 (hy us2 hsq2)
      rw [List.getElem?_map, ha] at g1
      cases g1
      obtain ⟨zs, hz1, hz2⟩ := hold S3.sv
      have S5 := (S3.lock hD2 rfl).tvs (prd_app (dpa_prdA (ps := ps2) hacc) (prd_app hz1 S3.tv))
      have lz := PySem.Paired.length hz1
      have la := dpa_len hacc
      obtain ⟨m', hS, ht, he⟩ := hT _ (List.mem_of_getElem? ha)
      refine hS He _ _ _ _ _ _ _ _ _ _ (S5.wipe vs) g2 fun σ1 S6 w1 => ⟨(w1 vs hj).trans (wipe_wipe σ vs), ht He _ _ _ _ _ _ ⟨_, _, S6⟩ fun H3 ⟨Hd3, ps3, S7⟩ => ?_⟩
      have back : ∀ {Hd4 : Hp} {ps4 : List Addr} {m4 : Env'} {σ4 : L2.St} {H4 : Hp}, SB K He (upd Fr D (.lst acc)) Hd4 ps4 m4 ow1 ((((as.take i).filter c).map f).map Knd.arg ++ (known m ++ (k :: ts))) σ4 (acc ++ (zs ++ (.ref p :: xs))) H4 →
          H4 D = some (.lst acc) ∧ SB K He Fr Hd4 ps4 m ow1 (k :: ts) σ (.ref p :: xs) (hid H4 D) ∧ DpAll K Hd4 acc (((as.take i).filter c).map f) := by
        intro Hd4 ps4 m4 σ4 H4 S4
        obtain ⟨e, S5⟩ := S4.unlock hF
        obtain ⟨t1, t2⟩ := prd_split (by rw [List.length_map]; exact la) S5.tv
        obtain ⟨t3, t4⟩ := prd_split lz t2
        exact ⟨e, (S5.svs (hz2 _ _ _ t3)).tvs t4, of_dpa_prdA t1⟩
      cases hc : c as[i] with
      | false =>
        rw [if_neg Bool.false_ne_true]
        rw [filt_step ha, hc, if_neg Bool.false_ne_true]
        obtain ⟨e, S8, h5⟩ := back S7
        exact ⟨_, _, acc, e, S8, h5⟩
      | true =>
        rw [if_pos rfl]
        obtain ⟨k', hk', he⟩ := he hc
        refine he He _ _ _ _ _ _ ⟨_, _, S7⟩ fun y H4 ⟨Hd4, ps4, S9⟩ => ?_
        obtain ⟨hy, S9⟩ := S9.pop
        obtain ⟨e, S8, h5⟩ := back S9
        have hlz : (((as.take i).filter c).map f).length < 10000000 := by
          rw [List.length_map]
          refine Nat.lt_of_le_of_lt (List.length_filter_le ..) ?_
          rw [List.length_take]; omega
        refine ⟨acc, e, by rw [la, sizeLine_eq]; omega, ?_⟩
        rw [filt_step ha, hc, if_pos rfl]
        exact ⟨Hd4, ps4, acc ++ [y], upd_same, by rw [hid_upd]; exact S8, dpa_app h5 (apds_ok (.cons hy .nil) hk')⟩
    · have e : i = as.length := by omega
      subst e
      refine .inl ⟨⟨us2, hsq2, by omega⟩, q _ _ ?_⟩
      rw [List.take_length] at S2
      obtain ⟨Hd5, ps5, S5⟩ := lcA_end S2
      obtain ⟨g1, g2⟩ := S5.pop
      exact ⟨Hd5, ps5, g2.pop.2.push g1⟩
end
end LD

/-! Logs: a def that changes the list of ints it is given first and hands out a pair: a new list of new lists of ints, and a new list of ints. -/
namespace LD
open PySem PySem.Spec PyProof.Rows L2
def lil (lss : List (List Int)) : List (List PyData) := lss.map fun l => l.map PyData.int
section
variable {K : PySem.W.Frag} {He Fr Hd H H' : Hp} {ps : List Addr} {m : Env'} {ow ow1 ow2 : List OC} {ts ks : List Knd} {σ : L2.St} {xs : List V} {ar : TA} {te to : TE} {k : Knd} {n i : Nat} {P : Post} {t : TS} {p : Addr} {o : HO} {qs qs' : List Addr} {lss lss' : List (List PyData)} {X : Knd → List OC → Prop}
/-! ### a tuple of one's own objects, and its parts -/
theorem ee_tupG (h : EA K ar m ow ks ow1) (hs : ks.length ≤ 1000) : EE K (tTup ar) m ow (.own ow1.length) (ow1 ++ [.tpl ks]) := fun He Fr ts σ xs H Q S q =>
  h He Fr ts σ xs H _ S fun ys H1 hl ⟨Hd, ps, S1⟩ => by
    obtain ⟨h1, S2⟩ := S1.args hl
    refine ⟨by rw [hl, sizeLine_eq]; omega, fun p hp => q _ _ ?_⟩
    have e : Same H1 (upd H1 p (.tup ys)) := fun a o z => by rw [upd_ne (ne_of_none z hp)]; exact z
    have nP : p ∉ ps ++ kids ow1 := fun h => by obtain ⟨o, w⟩ := S2.inH h; rw [hp] at w; cases w
    exact ⟨Hd, _, (S2.grow e).pushC (c0 := .tpl ks) (S2.noF hp) nP ⟨ys, upd_same, h1⟩⟩
theorem ss_unX (is : List Nat) (h : EX K te m ow X) (hX : ∀ k ow', X k ow' → ∃ n ks, k = .own n ∧ ow'[n]? = some (.tpl ks) ∧ is.length = ks.length ∧ P.nx (setAll m is ks) ow') : SS K (tAsg te (gTup K is.length (gNs is))) m ow P := fun He Fr ts σ xs H D S F =>
  h He Fr ts σ xs H _ S fun k ow' x H1 hk ⟨Hd, ps, S1⟩ => by
    obtain ⟨n, ks, rfl, hn, hl, q⟩ := hX k ow' hk
    obtain ⟨h1, S2⟩ := S1.pop
    obtain ⟨p, hp, rfl⟩ := h1
    obtain ⟨vs, g1, g2⟩ := S2.ok n p _ hp hn
    refine ⟨p, vs, rfl, .inl (.inl g1), by rw [PySem.Paired.length g2, hl], ?_⟩
    exact store_all is hl g2 S2 fun σ' S' => F.nx _ _ _ _ q ⟨Hd, ps, S'⟩
/-! ### an inner list goes -/
theorem kids_subT : ∀ {ow : List OC} {n : Nat} {qs qs' : List Addr} {lss lss' : List (List PyData)}, ow[n]? = some (.tr qs lss) → qs'.Sublist qs → (kids (ow.set n (.tr qs' lss'))).Sublist (kids ow)
  | [], _, _, _, _, _, h, _ => by cases h
  | c :: r, 0, _, qs', _, _, h, e => by cases h; exact e.append (List.Sublist.refl (kids r))
  | c :: r, n + 1, _, _, _, _, h, e => (List.Sublist.refl (kidC c)).append (kids_subT (ow := r) h e)
theorem SB.writeT (S : SB K He Fr Hd ps m ow ts σ xs H) (hp : ps[n]? = some p) (hn : ow[n]? = some (.tr qs lss)) (hd : Hd p = none) (hk : qs'.Sublist qs) (h : OwnOk K (port He Hd) Hd ps (upd H p o) p (.tr qs' lss')) :
    SB K He Fr Hd ps m (ow.set n (.tr qs' lss')) ts σ xs (upd H p o) := by
  have sub : (ps ++ kids (ow.set n (.tr qs' lss'))).Sublist (ps ++ kids ow) := (List.Sublist.refl ps).append (kids_subT hn hk)
  refine ⟨S.eh, fun a o ha => ?_, fun a o ha => ?_, S.fd, fun p hp => S.fk p (sub.subset hp), S.nk.sublist sub, by rw [List.length_set]; exact S.pl, fun j q c hq hc => ?_, S.sv, S.tv⟩
  · have : a ≠ p := fun e => by rw [e, hd] at ha; cases ha
    rw [upd_ne this]
    exact S.dh _ _ ha
  · have : a ≠ p := fun e => by rw [e, S.fp p (List.mem_of_getElem? hp)] at ha; cases ha
    rw [upd_ne this]
    exact S.fh _ _ ha
  · by_cases e : n = j
    · subst e
      rw [hp] at hq
      cases hq
      rw [List.getElem?_set_self (List.getElem?_eq_some_iff.mp hn).1] at hc
      cases hc
      exact h
    · rw [List.getElem?_set_ne e] at hc
      have hne := S.apart hp hq e
      have q1 := S.ok j q c hq hc
      cases c with
      | dead => obtain ⟨o, q1⟩ := q1; exact ⟨o, by rw [upd_ne hne]; exact q1⟩
      | lst ds1 => exact ⟨q1.1, q1.2.imp fun us h => ⟨by rw [upd_ne hne]; exact h.1, h.2⟩⟩
      | dic ds1 => exact ⟨q1.1, q1.2.imp fun us h => ⟨by rw [upd_ne hne]; exact h.1, h.2⟩⟩
      | ldic od us ds1 => exact ⟨q1.1, by rw [upd_ne hne]; exact q1.2.1, q1.2.2⟩
      | gen φ ks => exact ⟨q1.1, q1.2.imp fun vs h => ⟨by rw [upd_ne hne]; exact h.1, h.2⟩⟩
      | tpl ks => exact q1.imp fun vs h => ⟨by rw [upd_ne hne]; exact h.1, h.2⟩
      | jl n => exact ⟨q1.1, q1.2.imp fun us h => ⟨by rw [upd_ne hne]; exact h.1, h.2⟩⟩
      | tr qs lss => exact ⟨q1.1, by rw [upd_ne hne]; exact q1.2.1, q1.2.2.1, prd_mm q1.2.2.2 fun x hx k h => h.imp fun vs h => ⟨by rw [upd_ne (S.kidNe (List.mem_of_getElem? hp) (kids_mem hc hx))]; exact h.1, h.2⟩⟩
theorem prd_dropLast {α β : Type} {F : α → β → Prop} : ∀ {xs : List α} {ys : List β}, Paired F xs ys → Paired F xs.dropLast ys.dropLast
  | _, _, .nil => .nil
  | _, _, .cons h .nil => .nil
  | _, _, .cons h (.cons h2 t) => .cons h (prd_dropLast (.cons h2 t))
theorem prd_erase {α β : Type} {F : α → β → Prop} : ∀ {xs : List α} {ys : List β} (j : Nat), Paired F xs ys → Paired F (xs.eraseIdx j) (ys.eraseIdx j)
  | _, _, _, .nil => .nil
  | _, _, 0, .cons h t => t
  | _, _, j + 1, .cons h t => .cons h (prd_erase j t)
theorem map_eraseIdx {α β : Type} (f : α → β) : ∀ (l : List α) (j : Nat), (l.map f).eraseIdx j = (l.eraseIdx j).map f
  | [], _ => rfl
  | _ :: _, 0 => rfl
  | x :: r, j + 1 => congrArg (f x :: ·) (map_eraseIdx f r j)
/-- xs.pop(), xs a list of lists of one's own; what it gives is dropped -/
theorem ss_popT (h : EE K to m ow (.own n) ow1) (h0 : ow1[n]? = some (.tr qs lss)) (hl : qs ≠ []) (q : P.nx m (ow1.set n (.tr qs.dropLast lss.dropLast))) : SS K (tDrop (tBM0 K "list" rPop to)) m ow P := fun He Fr ts σ xs H D S F =>
  h He Fr ts σ xs H _ S fun x H1 ⟨Hd, ps, S1⟩ => by
    obtain ⟨p, e1, rfl, e2, e3, e4, e5⟩ := S1.ownT S1.pop.1 h0
    have hlen := List.length_pos_iff.mpr hl
    have hy : (qs.map V.ref)[(qs.map V.ref).length - 1]? = some (V.ref (qs.getLast hl)) := by
      rw [List.length_map, List.getElem?_map, ← List.getLast?_eq_getElem?, List.getLast?_eq_some_getLast hl]; rfl
    have S2 := S1.pop.2.writeT (o := .lst (qs.map V.ref).dropLast) (qs' := qs.dropLast) (lss' := lss.dropLast) e1 h0 e2 (List.dropLast_sublist qs)
      ⟨e2, by rw [upd_same, List.map_dropLast], fun x hx => e4 x ((List.dropLast_sublist qs).subset hx), prd_mm (prd_dropLast e5) fun x hx k h => h.imp fun vs h => ⟨by rw [upd_ne (S1.kidNe (List.mem_of_getElem? e1) (kids_mem h0 ((List.dropLast_sublist qs).subset hx)))]; exact h.1, h.2⟩⟩
    exact ⟨.inl ⟨rfl, _, .inl (.inl e3)⟩, p, qs.map V.ref, _, rfl, rfl, e3, hy, F.nx _ _ _ _ q ⟨Hd, ps, S2⟩⟩
/-- xs.pop(j) -/
theorem ss_popAtT {z : Int} {j : Nat} (h : EE K to m ow (.own n) ow1) (h0 : ow1[n]? = some (.tr qs lss)) (ha : EA K ar m ow1 [.v (.int z)] ow2) (hn : ow2[n]? = some (.tr qs lss)) (hz : z = (j : Int)) (hj : j < qs.length) (hb : qs.length < 10000000) (q : P.nx m (ow2.set n (.tr (qs.eraseIdx j) (lss.eraseIdx j)))) : SS K (tDrop (tBM K "list" rPopAt to ar)) m ow P := fun He Fr ts σ xs H D S F =>
  h He Fr ts σ xs H _ S fun x H1 ⟨Hd, ps, S1⟩ => by
    obtain ⟨p, e1, rfl, e2, e3, e4, e5⟩ := S1.ownT S1.pop.1 h0
    refine ⟨.inl ⟨rfl, _, .inl (.inl e3)⟩, ha He Fr _ σ _ H1 _ ⟨Hd, ps, S1⟩ fun ys H2 hl2 ⟨Hd2, ps2, S2⟩ => ?_⟩
    obtain ⟨y, rfl⟩ : ∃ y, ys = [y] := one hl2
    obtain ⟨hp, S3⟩ := S2.args hl2
    cases hp with
    | cons hy _ =>
    cases (show y = .int z from hy)
    obtain ⟨p2, f1, f2, f3, f4, f5, f6⟩ := S3.ownT S3.pop.1 hn
    cases f2
    have hx : (qs.map V.ref)[j]? = some (V.ref qs[j]) := by rw [List.getElem?_map, List.getElem?_eq_getElem hj]; rfl
    have S4 := S3.pop.2.writeT (o := .lst ((qs.map V.ref).eraseIdx j)) (qs' := qs.eraseIdx j) (lss' := lss.eraseIdx j) f1 hn f3 (List.eraseIdx_sublist qs j)
      ⟨f3, by rw [upd_same, map_eraseIdx], fun x hx => f5 x ((List.eraseIdx_sublist qs j).subset hx), prd_mm (prd_erase j f6) fun x hx k h => h.imp fun vs h => ⟨by rw [upd_ne (S3.kidNe (List.mem_of_getElem? f1) (kids_mem hn ((List.eraseIdx_sublist qs j).subset hx)))]; exact h.1, h.2⟩⟩
    refine ⟨p, qs.map V.ref, z, j, _, rfl, rfl, f4, by omega, by omega, ?_, hx, F.nx _ _ _ _ q ⟨Hd2, ps2, S4⟩⟩
    rw [hz]
    exact seqIx (by rw [List.length_map]; exact hj)
end
/-! ### the promise -/
section
variable {α : Type}
def LgOk (H H' : Hp) (p1 p2 : Addr) (qs : List Addr) (t : Addr) (lss : List (List Int)) (ids : List Int) : Prop :=
  H' t = some (.tup [.ref p1, .ref p2]) ∧ H' p1 = some (.lst (qs.map V.ref)) ∧ H' p2 = some (.lst (ids.map V.int)) ∧ Paired (fun q l => H' q = some (.lst (l.map V.int))) qs lss ∧ (p1 :: p2 :: qs).Nodup ∧ ∀ x ∈ p1 :: p2 :: qs, H x = none
def spL (inp : α → List Int) (args : α → List PyData) (pre : α → Prop) (R : α → List (List Int) → List Int → List Int → Prop) (K : PySem.W.Frag) : Sp := fun vs H Q _ => ∃ a p rest, vs = .ref p :: rest ∧ H p = some (.lst ((inp a).map V.int)) ∧ DpAll K (hid H p) rest (args a) ∧ pre a ∧
  ∀ lss ids ns p1 p2 qs t H', R a lss ids ns → Same (hid H p) H' → H' p = some (.lst (ns.map V.int)) → LgOk H H' p1 p2 qs t lss ids → Q (.ref t) H'
def PretL (R : List (List Int) → List Int → List Int → Prop) : Post := { nx := fun _ _ => False, rt := fun k ow => ∃ lss ids ns n j1 j2 qs, R lss ids ns ∧ k = .own n ∧ ow[n]? = some (.tpl [.own j1, .own j2]) ∧ ow[j1]? = some (.tr qs (lil lss)) ∧ ow[j2]? = some (.lst (ids.map PyData.int)) ∧ ow[0]? = some (.lst (ns.map PyData.int)) ∧ j1 ≠ j2 ∧ j1 ≠ 0 ∧ j2 ≠ 0 ∧ n ≠ 0, n0 := 1 }
end
section
variable {K : PySem.W.Frag} {m : Env'} {ow ow1 : List OC} {ks ts : List Knd} {α : Type} {inp : α → List Int} {args : α → List PyData} {pre : α → Prop} {R : α → List (List Int) → List Int → List Int → Prop} {ar : TA} {E : XK} {He Fr Hd H H' : Hp} {ps : List Addr} {σ : L2.St} {xs : List V} {p1 p2 t : Addr} {qs : List Addr} {lss : List (List Int)} {ids : List Int}
theorem dpa_intsI {Hq : Hp} : ∀ ns : List Int, DpAll K Hq (ns.map V.int) (ns.map PyData.int) := dpa_ints
theorem prd_lil {Hq : Hp} : ∀ {qs : List Addr} {lss : List (List Int)}, Paired (fun q l => H' q = some (.lst (l.map V.int))) qs lss → Paired (fun q ds => ∃ vs, H' q = some (.lst vs) ∧ DpAll K Hq vs ds) qs (lil lss)
  | _, _, .nil => .nil
  | _, _, .cons h t => .cons ⟨_, h, dpa_ints _⟩ (prd_lil t)
theorem lil_prd {Hq : Hp} : ∀ {qs : List Addr} {lss : List (List Int)}, Paired (fun q ds => ∃ vs, H' q = some (.lst vs) ∧ DpAll K Hq vs ds) qs (lil lss) → Paired (fun q l => H' q = some (.lst (l.map V.int))) qs lss
  | _, [], .nil => .nil
  | _, _ :: _, .cons ⟨_, h1, h2⟩ t => .cons (by rw [of_dpa_ints h2] at h1; exact h1) (lil_prd t)
theorem SB.resL (S : SB K He Fr Hd ps m ow ts σ xs H) (e : Same H H') (r : LgOk H H' p1 p2 qs t lss ids) : ∃ Hd', SB K He Fr Hd' ((ps ++ [p1]) ++ [p2]) m (ow ++ [.tr qs (lil lss), .lst (ids.map PyData.int)]) ts σ xs H' := by
  obtain ⟨r1, r2, r3, r4, r5, r7⟩ := r
  obtain ⟨Hd', S', _, e2, e3⟩ := frs_ext S e (Hf := fun _ => none) ⟨fun _ _ z => (by cases z), fun _ _ z => (by cases z)⟩
  obtain ⟨nd1, nd2⟩ := List.nodup_cons.mp r5
  obtain ⟨nd3, nd4⟩ := List.nodup_cons.mp nd2
  have new : ∀ x ∈ p1 :: qs, H x = none := fun x hx => by
    rcases List.mem_cons.mp hx with rfl | hx
    · exact r7 _ (List.mem_cons_self ..)
    · exact r7 x (List.mem_cons_of_mem _ (List.mem_cons_of_mem _ hx))
  have np2 : H p2 = none := r7 p2 (List.mem_cons_of_mem _ (List.mem_cons_self ..))
  have nP : ∀ x, H x = none → x ∉ ps ++ kids ow := fun x hx h => by obtain ⟨o, w⟩ := S.inH h; rw [hx] at w; cases w
  have ek : kids (ow ++ [OC.tr qs (lil lss)]) = kids ow ++ qs := by rw [kids_app, kids_one]; rfl
  have ndq : (p1 :: qs).Nodup := List.nodup_cons.mpr ⟨fun z => nd1 (List.mem_cons_of_mem _ z), nd4⟩
  have S1 : SB K He Fr Hd' (ps ++ [p1]) m (ow ++ [.tr qs (lil lss)]) ts σ xs H' := by
    refine ⟨S'.eh, S'.dh, S'.fh, S'.fd, fun x hx => ?_, ?_, ?_, fun n q c hq hc => ?_, L2.Paired.mapP S'.sv fun x k h => h.mono _ (Same.refl _) (Same.refl _), L2.Paired.mapP S'.tv fun x k h => h.mono _ (Same.refl _) (Same.refl _)⟩
    · rw [ek] at hx
      rcases List.mem_append.mp hx with hx | hx
      · rcases List.mem_append.mp hx with hx | hx
        · exact S'.fp x hx
        · rw [List.mem_singleton.mp hx]; exact S.noF (new p1 (List.mem_cons_self ..))
      · rcases List.mem_append.mp hx with hx | hx
        · exact S'.fk x (List.mem_append_right _ hx)
        · exact S.noF (new x (List.mem_cons_of_mem _ hx))
    · rw [ek]
      have perm : ((ps ++ [p1]) ++ (kids ow ++ qs)).Perm ((p1 :: qs) ++ (ps ++ kids ow)) := by
        have h1 : ((ps ++ [p1]) ++ (kids ow ++ qs)).Perm (p1 :: (ps ++ (kids ow ++ qs))) := by rw [List.append_assoc]; exact List.perm_middle
        have h2 : (ps ++ (kids ow ++ qs)).Perm (qs ++ (ps ++ kids ow)) := by rw [← List.append_assoc]; exact List.perm_append_comm
        exact h1.trans (h2.cons p1)
      refine perm.nodup_iff.mpr (List.nodup_append.mpr ⟨ndq, S.nk, fun a ha b hb e => nP a (new a ha) (e ▸ hb)⟩)
    · rw [List.length_append, List.length_append, S'.pl]; rfl
    · by_cases hn : n < ps.length
      · rw [List.getElem?_append_left hn] at hq
        rw [List.getElem?_append_left (by rw [← S.pl]; exact hn)] at hc
        exact (S'.ok n q c hq hc).more [p1]
      · have e : n = ps.length := by
          have := (List.getElem?_eq_some_iff.mp hq).1
          rw [List.length_append] at this
          simp at this
          omega
        subst e
        rw [List.getElem?_append_right (Nat.le_refl _)] at hq
        rw [S.pl, List.getElem?_append_right (Nat.le_refl _)] at hc
        simp at hq hc
        subst hq
        subst hc
        exact ⟨e3 p1 (new p1 (List.mem_cons_self ..)) rfl, r2, fun q hq => e3 q (new q (List.mem_cons_of_mem _ hq)) rfl, prd_lil r4⟩
  have f2 : Fr p2 = none := S.noF np2
  have m2 : p2 ∉ (ps ++ [p1]) ++ kids (ow ++ [OC.tr qs (lil lss)]) := fun h => by
    rw [ek] at h
    rcases List.mem_append.mp h with h | h
    · rcases List.mem_append.mp h with h | h
      · exact nP p2 np2 (List.mem_append_left _ h)
      · rw [List.mem_singleton.mp h] at nd1; exact nd1 (List.mem_cons_self ..)
    · rcases List.mem_append.mp h with h | h
      · exact nP p2 np2 (List.mem_append_right _ h)
      · exact nd3 h
  have S2 := (S1.pushC (c0 := .lst (ids.map PyData.int)) f2 m2 ⟨e3 p2 np2 rfl, _, r3, dpa_ints _⟩).pop.2
  have eo : (ow ++ [OC.tr qs (lil lss)]) ++ [OC.lst (ids.map PyData.int)] = ow ++ [.tr qs (lil lss), .lst (ids.map PyData.int)] := by simp
  rw [eo] at S2
  exact ⟨_, S2⟩
/-- a, b = f(..) -/
theorem ss_callL {i j : Nat} {P : Post} (a : α) (n : Nat) (h : EA K ar m ow (.own n :: ks) ow1) (hn : ow1[n]? = some (.lst ((inp a).map PyData.int))) (ha : adxs n ow1 ks = some (args a)) (hp : pre a)
    (hq : ∀ lss ids ns qs, R a lss ids ns → qs.length = lss.length → P.nx ((m.set i (some (.own ow1.length))).set j (some (.own (ow1.length + 1)))) ((ow1.set n (.lst (ns.map PyData.int))) ++ [.tr qs (lil lss), .lst (ids.map PyData.int)])) :
    SS K (tAsg (tCall (spL inp args pre R K) [] E ar) (gTup K 2 (gNs [i, j]))) m ow P := fun He Fr ts σ xs H D S F =>
  h He Fr ts σ xs H _ S fun ys H1 hl ⟨Hd, ps, S1⟩ => by
    obtain ⟨h1, S2⟩ := S1.args hl
    rw [List.append_nil]
    cases h1 with
    | cons hy ht =>
    obtain ⟨p, vs, e1, rfl, e2, e3, e4⟩ := S2.own hy hn
    rw [of_dpa_ints e4] at e3
    refine ⟨a, p, _, rfl, e3, adxs_ok S2 e1 e2 ht ha, hp, fun lss ids ns p1 p2 qs t H' hR e hq2 r => ?_⟩
    have S3 := S2.write (vs := ns.map V.int) e1 hn (dpa_ints ns)
    have sm : Same (upd H1 p (.lst (ns.map V.int))) H' := fun c o hc => by
      by_cases z : c = p
      · subst z; rw [upd_same] at hc; cases hc; exact hq2
      · rw [upd_ne z] at hc; exact e _ _ (by rw [hid_ne z]; exact hc)
    obtain ⟨r1, r2, r3, r4, r5, r7⟩ := r
    have ne : ∀ x, H1 x = none → upd H1 p (.lst (ns.map V.int)) x = none := fun x hx => by
      rw [upd_ne (fun z => by rw [z, e3] at hx; cases hx)]; exact hx
    obtain ⟨Hd', S4⟩ := S3.resL sm ⟨r1, r2, r3, r4, r5, fun x hx => ne x (r7 x hx)⟩
    have l1 : ps.length = ow1.length := S2.pl
    have k1 : KOk K (port He Hd') Hd' ((ps ++ [p1]) ++ [p2]) (.ref p1) (.own ow1.length) := ⟨p1, by rw [List.getElem?_append_left (by simp; omega), ← l1, List.getElem?_append_right (Nat.le_refl _)]; simp, rfl⟩
    have k2 : KOk K (port He Hd') Hd' ((ps ++ [p1]) ++ [p2]) (.ref p2) (.own (ow1.length + 1)) := ⟨p2, by rw [← l1, List.getElem?_append_right (by simp)]; simp, rfl⟩
    refine ⟨t, [.ref p1, .ref p2], rfl, .inl (.inl r1), rfl, ?_⟩
    refine store_all [i, j] rfl (.cons k1 (.cons k2 .nil)) S4 fun σ' S' => F.nx _ _ _ _ (hq lss ids ns qs hR (PySem.Paired.length r4)) ⟨_, _, S'⟩
theorem fin_L {t : TS} {N : List Str} {vs : List V} {Q : VK} {H : Hp} (h : spL inp args pre R K vs H Q E) (hS : ∀ a, pre a → SS K t (mstM N (args a)) [.lst ((inp a).map PyData.int)] (PretL (R a))) : t { nx := fun _ H' => Q .non H', rt := Q } (start N vs) H := by
  obtain ⟨a, p, rest, rfl, hH, hd, hp, q⟩ := h
  have S0 : SB K (hid H p) (fun _ => none) (hid H p) [p] (mstM N (args a)) [.lst ((inp a).map PyData.int)] [] (start N (.ref p :: rest)) [] H := by
    refine ⟨Same.refl _, hid_sub H p, fun _ _ z => (by cases z), fun _ _ z => (by cases z), fun _ _ => rfl, by simp [kids, kidC], rfl, fun n r c h1 h2 => ?_, ?_, .nil⟩
    · match n, h1, h2 with
      | 0, h1, h2 =>
        cases h1
        cases h2
        exact ⟨hid_at, _, hH, dpa_ints _⟩
      | _ + 1, h1, _ => cases h1
    · unfold L2.start mstM
      rw [List.length_cons, dpa_len hd]
      exact prd_app (.cons ⟨_, rfl, p, rfl, rfl⟩ (start_prd (N := N) hd)) (repl_prd _)
  have S1 : SA K (hid H p) (fun _ => none) (mstM N (args a)) [.lst ((inp a).map PyData.int)] [.own 0] (start N (.ref p :: rest)) [.ref p] H := ⟨_, _, S0.push ⟨p, rfl, rfl⟩⟩
  refine hS a hp _ _ _ _ _ H _ S1 ⟨fun m ow σ H' e _ => e.elim, fun k m ow σ x H' hr ⟨Hd, ps, S⟩ => ?_, fun _ _ _ _ z => z.elim, fun _ _ _ _ z => z.elim, fun k hk => by rw [List.mem_singleton.mp hk]; exact Nat.zero_lt_one⟩
  obtain ⟨lss, ids, ns, n, j1, j2, qs, hR, rfl, hn, h1, h2, h0, d12, d1, d2, dn⟩ := hr
  obtain ⟨hk, S'⟩ := S.pop
  obtain ⟨r, vs, e1, e2, e3, e4, e5⟩ := S'.own S'.pop.1 h0
  cases e2
  rw [of_dpa_ints e5] at e4
  have L : ∀ {j : Nat} {c : OC}, ow[j]? = some c → j < ps.length := fun h => by rw [S'.pl]; exact (List.getElem?_eq_some_iff.mp h).1
  obtain ⟨tp, ht, e⟩ := hk
  cases e
  obtain ⟨ws, t1, t2⟩ := S'.ok n tp _ ht hn
  obtain ⟨a1, g1⟩ : ∃ a1, ps[j1]? = some a1 := ⟨_, List.getElem?_eq_getElem (L h1)⟩
  obtain ⟨a2, g2⟩ : ∃ a2, ps[j2]? = some a2 := ⟨_, List.getElem?_eq_getElem (L h2)⟩
  obtain ⟨b1, b2, b3, b4⟩ := S'.ok j1 a1 _ g1 h1
  obtain ⟨c1, us, c2, c3⟩ := S'.ok j2 a2 _ g2 h2
  rw [of_dpa_ints c3] at c2
  have ew : ws = [.ref a1, .ref a2] := by
    cases t2 with
    | cons hx t => cases t with
      | cons hy t =>
        cases t
        obtain ⟨x1, y1, rfl⟩ := hx
        obtain ⟨x2, y2, rfl⟩ := hy
        rw [g1] at y1; cases y1
        rw [g2] at y2; cases y2
        rfl
  rw [ew] at t1
  have noD : ∀ x, x ≠ p → Hd x = none → H x = none := fun x hx hd => by
    cases z : H x with
    | none => rfl
    | some u => rw [S.eh _ _ (by rw [hid_ne hx]; exact z)] at hd; cases hd
  have ap : ∀ {j : Nat} {x : Addr}, ps[j]? = some x → j ≠ 0 → x ≠ p := fun hj hne => S'.apart e1 hj (fun z => hne z.symm)
  have kn : ∀ x ∈ qs, x ≠ p := fun x hx => S'.kidNe (List.mem_of_getElem? e1) (kids_mem h1 hx)
  have nk := S'.nk
  have nq : qs.Nodup := ((List.nodup_append.mp nk).2.1).sublist (kid_sub h1)
  refine q lss ids ns a1 a2 qs tp _ hR (S.eh.trans S.dh) e4 ⟨t1, b2, c2, ?_, ?_, fun x hx => ?_⟩
  · exact lil_prd b4
  · refine List.nodup_cons.mpr ⟨fun z => ?_, List.nodup_cons.mpr ⟨fun z => ?_, nq⟩⟩
    · rcases List.mem_cons.mp z with z | z
      · exact S'.apart g2 g1 (fun e => d12 e.symm) z
      · exact S'.kidNe (List.mem_of_getElem? g1) (kids_mem h1 z) rfl
    · exact S'.kidNe (List.mem_of_getElem? g2) (kids_mem h1 z) rfl
  · rcases List.mem_cons.mp hx with rfl | hx
    · exact noD _ (ap g1 d1) b1
    · rcases List.mem_cons.mp hx with rfl | hx
      · exact noD _ (ap g2 d2) c1
      · exact noD _ (kn x hx) (b3 x hx)
end
section
variable {P : Program} {w : World} {K : PySem.W.Frag} {mg : Str → Option Value} {base : Heap} {x qual : Str} {st : Stmt} {f : Addr} {fd : FuncData} {N ps : List Str} {k : Nat}
theorem ok_L {α : Type} {inp : α → List Int} {args : α → List PyData} {pre : α → Prop} {R : α → List (List Int) → List Int → List Int → Prop} (F : Fun K x qual st f fd) (S : FnScope N ps (defScope st)) (hl : ∀ a, (args a).length + 1 = ps.length)
    (body : ∀ (cdv : Value) (A : Around) (outer : List Env) (s : Shared) (H : Hp) (E : XK), Rm k (A.deeper (envOfC qual (defScope st) s.heap.objs.size f cdv)) →
      ∃ t, PSs (cxOf CX0 P w K mg base N qual (defScope st) f cdv A outer s H E).nox (defBody st) t ∧ ∀ a, pre a → SS K t (mstM N (args a)) [.lst ((inp a).map PyData.int)] (PretL (R a))) : FnG P w K mg base CX0 (k + 1) f fd ps (spL inp args pre R K) := by
  refine fnG_of F S (fun vs H Q E h => ?_) fun cdv A outer s H vs Q E hr h => ?_
  · obtain ⟨a, p, rest, rfl, _, h1, _⟩ := h
    rw [List.length_cons, dpa_len h1, hl]
  · obtain ⟨t, h1, h2⟩ := body cdv A outer s H E hr
    exact ⟨t, h1.nox, fin_L h h2⟩
end
end LD

/-! for i, (..) in enumerate(xs). -/
namespace LD
open PySem PySem.Spec PyProof.Rows L2
section
variable {K : PySem.W.Frag} {m : Env'} {ow ow1 : List OC} {P : Post} {k : Knd} {ar : TA} {g : TG} {js : List Nat}
theorem ss_enumG {j1 : Nat} {tbd : TS} (I : Nat → Env' → List OC → Prop) (fl : Bool) (ds : List PyData) (h : EA K ar m ow [k] ow1) (h0 : I 0 m ow1) (hs : ∀ i m ow, i ≤ ds.length → I i m ow → seqOf ow k = some (fl, ds))
    (ht : ∀ i d m ow, ds[i]? = some d → I i m ow → ∃ m', ST K g js fl d (m.set j1 (some (.v (.int (i : Int))))) m' ∧ SS K tbd m' ow { nx := I (i + 1), rt := P.rt, bk := P.nx, ct := I (i + 1), n0 := ow1.length }) (he : ∀ m ow, I ds.length m ow → P.nx m ow) :
    SS K (tFor (iEnum K ar) (gTup K 2 (gCons (gName j1) (gCons g gNil))) tbd) m ow P := fun He Fr ts σ xs H D S F =>
  h He Fr ts σ xs H _ S fun ys H1 hyl ⟨Hd, ps, S1⟩ => by
    obtain ⟨y, rfl⟩ := one hyl
    obtain ⟨p, us, rfl, hsq, _⟩ := seq_ok S1 S1.pop.1 (hs 0 _ _ (Nat.zero_le _) h0)
    refine ⟨p, us, rfl, hsq, fun i n σ H => n = ds.length - i ∧ i ≤ ds.length ∧ ∃ m ow, I i m ow ∧ SA K He Fr m ow (k :: ts) σ (.ref p :: xs) H, ⟨_, rfl, Nat.zero_le _, _, _, h0, _, _, S1⟩, ?_⟩
    rintro i n σ2 H2 ⟨rfl, hi, m2, ow2, I2, Hd2, ps2, S2⟩
    obtain ⟨p2, us2, e, hsq2, hd2⟩ := seq_ok S2 S2.pop.1 (hs i _ _ hi I2)
    cases e
    have hlen := dpa_len hd2
    by_cases hlt : i < ds.length
    · have ha : ds[i]? = some ds[i] := List.getElem?_eq_getElem hlt
      refine .inr ⟨⟨us2, us2[i]'(by omega), hsq2, List.getElem?_eq_getElem (by omega)⟩, _, fun σ' H' h => ⟨ds.length - (i + 1), by omega, rfl, hlt, h⟩, fun x H' hy => ?_⟩
      obtain ⟨T, x, rfl, hT, rfl, hy⟩ := hy
      have hx := hy us2 hsq2
      obtain ⟨d, h1, h2⟩ := dpa_at hd2 hx
      have e : Same H2 (upd H2 T (.tup [.int (i : Int), x])) := fun a o q => by rw [upd_ne (ne_of_none q hT)]; exact q
      have S3 := S2.grow e
      obtain ⟨m', hS, hb⟩ := ht i d m2 ow2 h1 I2
      refine ⟨T, [.int (i : Int), x], rfl, .inl (.inl upd_same), rfl, _, _, rfl, ?_⟩
      refine ⟨_, _, rfl, ?_⟩
      refine hS He Fr Hd2 ps2 _ _ _ _ _ x _ (S3.store (x := .int (i : Int)) (k := .v (.int (i : Int))) rfl j1) h2 fun σ' S' w => ⟨rfl, ?_⟩
      exact hb He Fr (k :: ts) _ (.ref p :: xs) _ _ ⟨Hd2, ps2, S'⟩ ⟨fun m ow σ H q S => ⟨m, ow, q, S⟩, fun k' m ow σ x H q S => F.rt _ _ _ _ _ _ q (S.drop2 rfl), fun m ow σ H q S => F.nx _ _ _ _ q S.drop, fun m ow σ H q S => ⟨m, ow, q, S⟩, S1.inT⟩
    · have e : i = ds.length := by omega
      subst e
      exact .inl ⟨⟨us2, hsq2, by omega⟩, F.nx _ _ _ _ (he _ _ I2) ⟨Hd2, ps2, S2.pop.2⟩⟩
end
end LD
namespace LD
open PySem PySem.Spec PyProof.Rows L2
theorem extend_any (l : Addr) (items : Array Value) (n : Nat) (b : Addr) (items2 : Array Value) (n2 : Nat) (dd : Option Addr) (sl : Array (Option Value)) (hc0 : ¬(!items.isEmpty && Builtin.List.listTooLong (items.size + items2.size)) = true) (hc1 : items.size ≤ sizeLine) (hs2 : items.size + items2.size ≤ sizeLine + 1) :
    Meets (Builtin.«list.extend» ⟨[.ref l, .ref b], []⟩) (fun _ R s => s.heap.get? l = some { cls := .type "list", dict := none, data := .seq items n, slots := #[] } ∧ s.heap.get? b = some { cls := .type "list", dict := dd, data := .seq items2 n2, slots := sl } ∧ R (.ok (.ret Value.none)) { s with heap := s.heap.update l (Obj.mapSeq fun x => x ++ items2), toks := s.toks }) :=
  .of_wp fun prog w A R s h => by
    obtain ⟨hp, g, d, tk, os⟩ := s; obtain ⟨hl, hb, h⟩ := h; have f1 := AutoSeq1.idx_int; have f2 := AutoSeq1.sub_tuple_tuple; have f3 := AutoSeq1.sub_list_list; have f4 := AutoSeq1.sub_tuple_list; have f5 := AutoSeq1.sub_list_tuple;
    have hz' : (items ++ items2).size ≤ sizeLine + 1 := by rw [Array.size_append]; exact hs2
    wp_walk using (wpAny_updateSeq hl rfl (hz := hc1) (_hz' := hz')), AutoSeq1.wpAny_loadPart' hl, AutoSeq1.wpAny_loadPart' hb; exact ⟨_, rfl, h⟩
/-- xs.extend(ys), ys any list -/
def rExtS (K : PySem.W.Frag) : V → List V → Hp → VK → Prop := fun x vs H Q => ∃ l b xs zs, x = .ref l ∧ vs = [.ref b] ∧ H l = some (.lst xs) ∧ SqL K H b zs ∧ xs.length + zs.length ≤ sizeLine ∧ Q .non (upd H l (.lst (xs ++ zs)))
theorem mt_extS {X : Cx} : MtM X "list.extend" (rExtS X.K) := by
  intro pins s σ H x vs v us Q I rx rv h
  obtain ⟨l, b, xs, zs, rfl, rfl, hH, hB, hz, q⟩ := h
  cases rx
  obtain ⟨u, rfl, ru⟩ := rv.one
  cases ru
  obtain ⟨z, its, n, r, hl, e⟩ := I.lstM hH
  obtain ⟨its2, r2, hp, _⟩ := I.list hB
  obtain ⟨o2, n2, e2, k1, k2, k3⟩ := hp
  have hl2 := r2.length
  have hl1 := r.length
  have hsz : its.toArray.size + its2.toArray.size ≤ sizeLine := by rw [List.size_toArray, List.size_toArray]; omega
  have hlong : ¬ (!its.toArray.isEmpty && Builtin.List.listTooLong (its.toArray.size + its2.toArray.size)) = true := by
    rw [notLongL hsz, Bool.and_false]
    exact Bool.false_ne_true
  obtain ⟨c2, d2, dt2, sl2⟩ := o2
  cases k1
  cases k2
  cases k3
  refine call_meets F.slot_list_extend ⟨_, e, rfl⟩ F.entry_list_extend (F.args_list_extend_2 _ _)
    (extend_any l its.toArray n b its2.toArray n2 _ sl2 hlong (by rw [List.size_toArray]; omega) (by omega)) ⟨e, e2, ?_⟩
  refine ⟨.non, _, I.lset (its' := its ++ its2) hH e (by simp) (r.append r2) ?_, rfl, q⟩
  rw [List.length_append]
  omega
theorem mt_extSK {X : Cx} {K : PySem.W.Frag} (hK : X.K = K) : MtM X "list.extend" (rExtS K) := hK ▸ mt_extS
section
variable {K : PySem.W.Frag} {m : Env'} {ow ow1 ow2 : List OC} {k : Knd} {ar : TA} {to : TE} {n : Nat} {ds es : List PyData} {fl : Bool}
theorem ee_extendS {ds0 : List PyData} (h : EE K to m ow (.own n) ow1) (h0 : ow1[n]? = some (.lst ds0)) (ha : EA K ar m ow1 [k] ow2) (hn : ow2[n]? = some (.lst ds)) (hs : seqOf ow2 k = some (fl, es)) (hf : (fl || imms es) = true) (hz : ds.length + es.length ≤ 1000000) :
    EE K (tBM K "list" (rExtS K) to ar) m ow (.v .non) (ow2.set n (.lst (ds ++ es))) := fun He Fr ts σ xs H Q S q =>
  h He Fr ts σ xs H _ S fun x H1 ⟨Hd, ps, S1⟩ => ⟨S1.isL h0, ha He Fr _ σ _ H1 _ ⟨Hd, ps, S1⟩ fun ys H2 hl ⟨Hd2, ps2, S2⟩ => by
    obtain ⟨hp, S3⟩ := S2.args hl
    obtain ⟨y, rfl⟩ : ∃ y, ys = [y] := by match ys, hl with | [y], _ => exact ⟨y, rfl⟩
    cases hp with
    | cons hy _ =>
      obtain ⟨p, vs, e1, rfl, _, e2, e3⟩ := S3.own S3.pop.1 hn
      obtain ⟨p', vs', rfl, g2, g3⟩ := seq_ok S3 hy hs
      exact ⟨p, p', vs, vs', rfl, rfl, e2, g2, by rw [dpa_len e3, dpa_len g3, sizeLine_eq]; omega, q _ _ ⟨Hd2, ps2, ((S3.pop.2.write e1 hn (dpa_app e3 (prt g3 hf))).push rfl)⟩⟩⟩
end
end LD

/-! Calls whose arguments have outcomes; inner lists of one's own: != and pop(i). -/
namespace LD
open PySem PySem.Spec PyProof.Rows L2
section
variable {K : PySem.W.Frag} {m : Env'} {ow ow1 ow2 : List OC} {k k2 : Knd} {α : Type} {inp : α → List Int} {args : α → List PyData} {pre : α → Prop} {R : α → PyData → List Int → Prop} {ar : TA} {E : XK} {to : TE} {P : Post} {n i : Nat} {q : Addr} {qs : List Addr} {lss : List (List PyData)} {ds : List PyData} {e : PyData}
theorem ex_callRA {Y : Knd → List OC → Prop} {RA : List Knd → List OC → Prop} (b : Bool) (h : EXA K ar m ow RA)
    (hA : ∀ ks ow1, RA ks ow1 → ∃ (a : α) (n : Nat) (ks' : List Knd), ks = .own n :: ks' ∧ ow1[n]? = some (.lst ((inp a).map PyData.int)) ∧ adxs n ow1 ks' = some (args a) ∧ pre a ∧ ∀ d ns, R a d ns → Y (resK b (ow1.set n (.lst (ns.map PyData.int))) d) (resO b (ow1.set n (.lst (ns.map PyData.int))) d)) :
    EX K (tCall (spR inp args pre R K) [] E ar) m ow Y := fun He Fr ts σ xs H Q S qq =>
  h He Fr ts σ xs H _ S fun ks ys H1 ow1 hr hl ⟨Hd, ps, S1⟩ => by
    obtain ⟨a, n, ks', rfl, hn, ha, hp, hY⟩ := hA ks ow1 hr
    obtain ⟨h1, S2⟩ := S1.args hl
    rw [List.append_nil]
    cases h1 with
    | cons hy ht =>
    obtain ⟨p, vs, e1, rfl, e2, e3, e4⟩ := S2.own hy hn
    rw [of_dpa_ints e4] at e3
    refine ⟨a, p, _, rfl, e3, adxs_ok S2 e1 e2 ht ha, hp, fun d ns x H' Hf hR e hq f r => qq _ _ _ _ (hY d ns hR) ?_⟩
    have hpn : Hf p = none := by
      cases z : Hf p with
      | none => rfl
      | some o =>
        rcases f.2 p o z with t | t
        · have := f.1 p o z
          rw [hq] at this
          cases this
          cases t
        · rw [e3] at t; cases t
    have S3 := S2.write (vs := ns.map V.int) e1 hn (dpa_ints ns)
    have sm : Same (upd H1 p (.lst (ns.map V.int))) H' := fun c o hc => by
      by_cases z : c = p
      · subst z; rw [upd_same] at hc; cases hc; exact hq
      · rw [upd_ne z] at hc; exact e _ _ (by rw [hid_ne z]; exact hc)
    have f' : Frs (upd H1 p (.lst (ns.map V.int))) Hf H' := ⟨f.1, fun c o hc => (f.2 c o hc).imp id fun t => by
      have z : c ≠ p := fun z => by rw [z, hpn] at hc; cases hc
      rw [upd_ne z]; exact t⟩
    refine S3.res b sm f' ?_
    cases d with
    | list ds =>
      obtain ⟨r0, us, a1, a2, a3, a4, a5⟩ := r
      refine ⟨r0, us, a1, ?_, a3, a4, a5⟩
      rw [upd_ne (fun z => by rw [z, e3] at a2; cases a2)]
      exact a2
    | none => exact r
    | bool _ => exact r
    | int _ => exact r
    | str _ => exact r
    | tuple _ => exact r
    | dict _ => exact r
theorem exa_last {te : TE} {X : Knd → List OC → Prop} (h : EX K te m ow X) : EXA K (tCons te tNil) m ow (fun ks ow' => ∃ k, ks = [k] ∧ X k ow') := exa_cons h fun k ow1 hx => fun He Fr ts σ xs H Q S q => q [] [] H ow1 ⟨k, rfl, hx⟩ rfl S
theorem exa_ee {te : TE} {ta : TA} {RA : List Knd → List OC → Prop} (h : EE K te m ow k ow1) (h2 : EXA K ta m ow1 (fun ks ow' => RA (k :: ks) ow')) : EXA K (tCons te ta) m ow RA := fun He Fr ts σ xs H Q S q =>
  h He Fr ts σ xs H _ S fun x H1 S1 => h2 He Fr _ σ _ H1 _ S1 fun ks ys H2 ow2 hr hl S2 => q (k :: ks) (x :: ys) H2 ow2 hr (by simp [hl]) S2
theorem kid_at {He Fr Hd H : Hp} {ps : List Addr} {ts : List Knd} {σ : L2.St} {xs : List V} (S : SB K He Fr Hd ps m ow ts σ xs H) (hn : ow[n]? = some (.tr qs lss)) (hi : qs[i]? = some q) (hl : lss[i]? = some ds) : ∃ vs, H q = some (.lst vs) ∧ DpAll K (port He Hd) vs ds := by
  have hl' : n < ps.length := by rw [S.pl]; exact (List.getElem?_eq_some_iff.mp hn).1
  obtain ⟨_, _, _, h4⟩ := S.ok n _ _ (List.getElem?_eq_getElem hl') hn
  obtain ⟨q', e1, e2⟩ := prd_get h4 hl
  rw [hi] at e1
  cases e1
  exact e2
theorem rr_neKid (hn : ow[n]? = some (.tr qs lss)) (hi : qs[i]? = some q) (hl : lss[i]? = some ds) (h2 : ad ow k2 = some e) (s1 : SeqAt.shaped (.list ds) = true) (s2 : SeqAt.shaped e = true) : RR K (rNeD K) m ow (.v (.ref q)) k2 (.v (.bl (!PyData.eqv (.list ds) e))) ow := by
  rintro He Fr ts σ x y xs H Q ⟨Hd, ps, S⟩ f
  obtain ⟨vs, g1, g2⟩ := kid_at S.pop.2.pop.2 hn hi hl
  have hx : x = .ref q := S.pop.2.pop.1
  subst hx
  exact ⟨.list ds, e, dp_hand (.lst (.inl (.inl g1)) (dpa_mono S.sub g2)) (nod_shaped s1), dp_hand (ad_ok S S.pop.1 h2) (nod_shaped s2), s1, s2, f _ H ⟨Hd, ps, S.pop.2.pop.2.push rfl⟩⟩
theorem dpa_eraseJ {Hq : Hp} : ∀ {vs : List V} {ds : List PyData} (j : Nat), DpAll K Hq vs ds → DpAll K Hq (vs.eraseIdx j) (ds.eraseIdx j)
  | _, _, _, .nil => .nil
  | _, _, 0, .cons _ t => t
  | _, _, j + 1, .cons h t => .cons h (dpa_eraseJ j t)
/-- xs[i].pop(j), xs a list of lists of one's own -/
theorem ss_kidpop {z : Int} {j : Nat} (h : EE K to m ow (.v (.ref q)) ow1) (h0 : ow1[n]? = some (.tr qs lss)) (hi : qs[i]? = some q) (hl : lss[i]? = some ds) (ha : EA K ar m ow1 [.v (.int z)] ow2) (hn : ow2[n]? = some (.tr qs lss)) (hz : z = (j : Int)) (hj : j < ds.length) (hb : ds.length < 10000000) (f : P.nx m (ow2.set n (.tr qs (lss.set i (ds.eraseIdx j))))) :
    SS K (tDrop (tBM K "list" rPopAt to ar)) m ow P := fun He Fr ts σ xs H D S F =>
  h He Fr ts σ xs H _ S fun x H1 ⟨Hd, ps, S1⟩ => by
    cases (show x = .ref q from S1.pop.1)
    obtain ⟨us, g1, _⟩ := kid_at S1.pop.2 h0 hi hl
    refine ⟨.inl ⟨rfl, us, .inl (.inl g1)⟩, ha He Fr _ σ _ H1 _ ⟨Hd, ps, S1⟩ fun ys H2 hl2 ⟨Hd2, ps2, S2⟩ => ?_⟩
    obtain ⟨y, rfl⟩ : ∃ y, ys = [y] := one hl2
    obtain ⟨hp, S3⟩ := S2.args hl2
    cases hp with
    | cons hy _ =>
    cases (show y = .int z from hy)
    obtain ⟨vs, g2, g3⟩ := kid_at S3.pop.2 hn hi hl
    have lv := dpa_len g3
    refine ⟨q, vs, z, j, _, rfl, rfl, g2, by omega, by omega, by rw [hz]; exact seqIx (by omega), List.getElem?_eq_getElem (by omega), F.nx _ _ _ _ f ⟨Hd2, ps2, S3.pop.2.writeKid hn hi (dpa_eraseJ j g3)⟩⟩
theorem cc_lenR (h : ow[n]? = some (.tr qs lss)) : CC K (rLn K) m ow [.own n] (.v (.int (qs.length : Int))) ow := by
  rintro He Fr ts σ ys xs H Q hl ⟨Hd, ps, S⟩ f
  obtain ⟨y, rfl⟩ := one hl
  have S1 : SB K He Fr Hd ps m ow (.own n :: ts) σ (y :: xs) H := S
  obtain ⟨p, e1, rfl, e2, e3, e4, e5⟩ := S1.ownT S1.pop.1 h
  exact ⟨p, _, rfl, .inl (.inl (.inl e3)), by rw [List.length_map]; exact f _ H ⟨Hd, ps, S1.pop.2.push rfl⟩⟩
end
end LD

/-! Lists of objects of one's own: [e for x in range(n)] with e one's own, +, append. -/
namespace LD
open PySem PySem.Spec PyProof.Rows L2
section
variable {K : PySem.W.Frag} {He Fr H : Hp} {m : Env'} {ow ow1 ow2 : List OC} {ts : List Knd} {σ : L2.St} {xs : List V} {P : Post} {ar : TA} {te to : TE} {tt : TT} {i : Int} {n n2 j : Nat} {k k' : Knd} {ks ks2 : List Knd} {vs : List Nat}
def SoFarK (K : PySem.W.Frag) (He Fr : Hp) (m : Env') (ow : List OC) (ts : List Knd) (σ : L2.St) (xs : List V) (D : Addr) (ks : List Knd) (H : Hp) : Prop :=
  ∃ Hd ps acc, H D = some (.lst acc) ∧ SB K He Fr Hd ps m ow ts σ xs (hid H D) ∧ PySem.Paired (KOk K (port He Hd) Hd ps) acc ks
theorem lck_turn {D : Addr} {x : V} {kx : Knd} {Nx : Hp → Prop} (hj : j ∈ vs) (hF : Fr D = none) (ht : EB K tt ((wipeM m vs).set j (some kx)) ow true ow) (he : EE K te ((wipeM m vs).set j (some kx)) ow k' ow2) (hz : ks.length < 10000000)
    (hx : ∀ Hd ps, SB K He Fr Hd ps m ow ts σ xs (hid H D) → KOk K (port He Hd) Hd ps x kx)
    (S : SoFarK K He Fr m ow ts σ xs D ks H) (q : ∀ H', SoFarK K He Fr m ow2 ts σ xs D (ks ++ [k']) H' → Nx H') :
    gName j x (wipe σ vs) H fun σ2 H2 => wipe σ2 vs = wipe σ vs ∧ tt σ2 H2 fun b H3 => if b = true then te σ2 H3 fun y H4 => ∃ acc, H4 D = some (.lst acc) ∧ acc.length < sizeLine ∧ Nx (upd H4 D (.lst (acc ++ [y]))) else Nx H3 := by
  obtain ⟨Hd, ps, acc, hD, S, hacc⟩ := S
  obtain ⟨zs, hz1, hz2⟩ := hold S.sv
  have hx := hx Hd ps S
  have S1 := (S.lock hD rfl).tvs (prd_app hacc (prd_app hz1 S.tv))
  have lz := PySem.Paired.length hz1
  have la := PySem.Paired.length hacc
  have S2 := (S1.wipe vs).store hx j
  refine ⟨wipe_again σ vs j _ hj, ht He _ _ _ _ _ _ ⟨_, _, S2⟩ fun H3 ⟨Hd3, ps3, S3⟩ => ?_⟩
  rw [if_pos rfl]
  refine he He _ _ _ _ _ _ ⟨_, _, S3⟩ fun y H4 ⟨Hd4, ps4, S4⟩ => ?_
  obtain ⟨hy, S4⟩ := S4.pop
  obtain ⟨e, S5⟩ := S4.unlock hF
  obtain ⟨t1, t2⟩ := prd_split la S5.tv
  obtain ⟨t3, t4⟩ := prd_split lz t2
  have S6 := (S5.svs (hz2 _ _ _ t3)).tvs t4
  exact ⟨acc, e, by rw [la, sizeLine_eq]; omega, q _ ⟨Hd4, ps4, acc ++ [y], upd_same, by rw [hid_upd]; exact S6, prd_app t1 (.cons hy .nil)⟩⟩
theorem lck_begin {Hd : Hp} {ps : List Addr} {D : Addr} (S : SB K He Fr Hd ps m ow ts σ xs H) (hD : H D = none) : SoFarK K He Fr m ow ts σ xs D [] (upd H D (.lst [])) := by
  refine ⟨Hd, ps, [], upd_same, ?_, .nil⟩
  have e : hid (upd H D (.lst [])) D = H := by
    funext a
    unfold hid upd
    split
    · subst_vars; exact hD.symm
    · rfl
  rw [e]
  exact S
theorem lck_end {D : Addr} (S : SoFarK K He Fr m ow ts σ xs D ks H) (hF : Fr D = none) : SA K He Fr m (ow ++ [.gen (fun _ vs => HO.lst vs) ks]) (.own ow.length :: ts) σ (.ref D :: xs) H := by
  obtain ⟨Hd, ps, acc, hD, S, hacc⟩ := S
  have nD : Hd D = none := by
    cases z : Hd D with
    | none => rfl
    | some u => have := S.dh _ _ z; rw [hid_at] at this; cases this
  have nP : D ∉ ps ++ kids ow := fun h => by obtain ⟨o, z⟩ := S.inH h; rw [hid_at] at z; cases z
  exact ⟨Hd, _, (S.grow (hid_sub H D)).pushC (c0 := .gen (fun _ vs => HO.lst vs) ks) hF nP ⟨nD, acc, hD, rfl, hacc⟩⟩
/-- [e for x in range(n)], e one's own -/
theorem ee_lcRK (oW : Nat → List OC) (kS : Nat → List Knd) (hl : EA K ar m ow [.v (.int i)] (oW 0)) (hn : i = (n : Int)) (h0 : kS 0 = [])
    (hT : ∀ a, a < n → EB K tt ((wipeM m vs).set j (some (.v (.int (a : Int))))) (oW a) true (oW a) ∧ ∃ k', EE K te ((wipeM m vs).set j (some (.v (.int (a : Int))))) (oW a) k' (oW (a + 1)) ∧ kS (a + 1) = kS a ++ [k'])
    (hj : j ∈ vs) (hz : ∀ a, a ≤ n → (kS a).length < 10000000) (hz2 : n < 10000000) :
    EE K (tLc (iRng1 ar) (gName j) tt te vs) m ow (.own (oW n).length) (oW n ++ [.gen (fun _ vs => HO.lst vs) (kS n)]) := fun He Fr ts σ xs H Q S q =>
  hl He Fr ts σ xs H _ S fun ys H1 hyl ⟨Hd, ps, S0⟩ => by
    obtain ⟨hp, S1⟩ := S0.args hyl
    obtain ⟨y, rfl⟩ := one hyl
    subst hn
    cases hp with
    | cons hy _ =>
    have hy : y = .int n := hy
    subst hy
    refine ⟨n, rfl, by omega, by omega, fun D hD => ?_⟩
    have hF := S1.noF hD
    refine ⟨fun a k H => k = n - a ∧ a ≤ n ∧ SoFarK K He Fr m (oW a) ts σ xs D (kS a) H, ⟨_, rfl, Nat.zero_le _, by rw [h0]; exact lck_begin S1 hD⟩, ?_⟩
    rintro a k H2 ⟨rfl, hi, S2⟩
    by_cases hlt : a < n
    · refine .inr ⟨by show a < (n : Int).toNat; omega, _, fun H' h => ⟨n - (a + 1), by omega, rfl, hlt, h⟩, fun x H' hy => ?_⟩
      obtain ⟨rfl, rfl⟩ := hy
      obtain ⟨h1, k', h2, h3⟩ := hT a hlt
      refine lck_turn hj hF h1 h2 (hz a hi) (fun Hd4 ps4 S4 => ?_) S2 fun H' h => ?_
      · show V.int (0 + (a : Int)) = V.int (a : Int)
        rw [Int.zero_add]
      · rw [h3]; exact h
    · have e : a = n := by omega
      subst e
      exact .inl ⟨by show (a : Int).toNat ≤ a; omega, q _ _ (lck_end S2 hF)⟩
/-- + of two lists of one's own objects -/
theorem rr_catG (h1 : ow[n]? = some (.gen (fun _ vs => HO.lst vs) ks)) (h2 : ow[n2]? = some (.gen (fun _ vs => HO.lst vs) ks2)) (hz : ks.length + ks2.length ≤ 1000000) : RR K (rCatS K) m ow (.own n) (.own n2) (.own ow.length) (ow ++ [.gen (fun _ vs => HO.lst vs) (ks ++ ks2)]) := by
  rintro He Fr ts σ x y xs H Q ⟨Hd, ps, S⟩ q
  obtain ⟨p2, vs2, e1, rfl, e2, e3, _, e5⟩ := S.ownG S.pop.1 h2
  obtain ⟨p, vs, g1, rfl, g2, g3, _, g5⟩ := S.ownG S.pop.2.pop.1 h1
  refine ⟨p, p2, vs, vs2, rfl, rfl, .inl (.inl g3), .inl (.inl e3), by rw [PySem.Paired.length e5, PySem.Paired.length g5, sizeLine_eq]; omega, fun r hr => q _ _ ?_⟩
  have S1 := S.pop.2.pop.2
  have e : Same H (upd H r (.lst (vs ++ vs2))) := fun a o z => by rw [upd_ne (ne_of_none z hr)]; exact z
  have nD : Hd r = none := by
    cases z : Hd r with
    | none => rfl
    | some o => rw [S1.dh _ _ z] at hr; cases hr
  have nP : r ∉ ps ++ kids ow := fun h => by obtain ⟨o, w⟩ := S1.inH h; rw [hr] at w; cases w
  exact ⟨Hd, _, (S1.grow e).pushC (c0 := .gen (fun _ vs => HO.lst vs) (ks ++ ks2)) (S1.noF hr) nP ⟨nD, _, upd_same, rfl, prd_app g5 e5⟩⟩
/-- xs.append(e), e one's own -/
theorem ss_appG (h : EE K to m ow (.own n) ow1) (h0 : ow1[n]? = some (.gen (fun _ vs => HO.lst vs) ks)) (ha : EA K ar m ow1 [k] ow2) (hn : ow2[n]? = some (.gen (fun _ vs => HO.lst vs) ks)) (hz : ks.length < 1000000) (q : P.nx m (ow2.set n (.gen (fun _ vs => HO.lst vs) (ks ++ [k])))) : SS K (tDrop (tBM K "list" rAppend to ar)) m ow P := fun He Fr ts σ xs H D S F =>
  h He Fr ts σ xs H _ S fun x H1 ⟨Hd, ps, S1⟩ => by
    obtain ⟨p, vs, e1, rfl, e2, e3, e4, e5⟩ := S1.ownG S1.pop.1 h0
    refine ⟨.inl ⟨rfl, _, .inl (.inl e3)⟩, ha He Fr _ σ _ H1 _ ⟨Hd, ps, S1⟩ fun ys H2 hl ⟨Hd2, ps2, S2⟩ => ?_⟩
    obtain ⟨y, rfl⟩ : ∃ y, ys = [y] := one hl
    obtain ⟨hp, S3⟩ := S2.args hl
    cases hp with
    | cons hy _ =>
    obtain ⟨p2, vs2, f1, f2, f3, f4, f5, f6⟩ := S3.ownG S3.pop.1 hn
    cases f2
    refine ⟨p, vs2, y, rfl, rfl, f4, by rw [PySem.Paired.length f6, sizeLine_eq]; omega, F.nx _ _ _ _ q ⟨Hd2, ps2, S3.pop.2.writeC (o := .lst (vs2 ++ [y])) f1 hn f3 ⟨f3, _, upd_same, rfl, prd_app f6 (.cons hy .nil)⟩⟩⟩
end
end LD

/-! Values of any kind: an empty dict as data, tuple(xs), isinstance and comparisons of what is not known. -/
namespace LD
open PySem PySem.Spec PyProof.Rows L2
theorem kit_dict_int : kitB "dict" "int" = some false := by decide +kernel
theorem kit_dict_bool : kitB "dict" "bool" = some false := by decide +kernel
theorem kit_dict_list : kitB "dict" "list" = some false := by decide +kernel
theorem kit_dict_tuple : kitB "dict" "tuple" = some false := by decide +kernel
theorem kit_dict_str : kitB "dict" "str" = some false := by decide +kernel
def rTo (K : PySem.W.Frag) : List V → Hp → VK → Prop := fun xs H Q => ∃ p ys, xs = [.ref p] ∧ ((SqL K H p ys ∧ ∀ l, H l = none → Q (.ref l) (upd H l (.tup ys))) ∨ (SqT K H p ys ∧ Q (.ref p) H))
theorem call_tupK {X : Cx} {K : PySem.W.Frag} (hK : X.K = K) : CallR X (.type "tuple") (rTo K) := hK ▸ call_tuple_of
section
variable {K : PySem.W.Frag} {He Fr Hd H : Hp} {ps : List Addr} {m : Env'} {ow ow1 : List OC} {ts : List Knd} {σ : L2.St} {xs : List V} {k : Knd} {ds : List PyData} {d : PyData} {fl : Bool} {te : TE} {b c : Bool}
/-- {} that stays as it is -/
theorem ee_dnewF : EE K tDNewK m ow (.dat (.dict [])) ow := fun He Fr ts σ xs H Q ⟨Hd, ps, S⟩ q => fun p hp => by
  have e : Same H (upd H p (.dK [])) := fun a o z => by rw [upd_ne (ne_of_none z hp)]; exact z
  have c : ∀ a o, (if a = p then some (HO.dK []) else none) = some o → a = p ∧ o = .dK [] := fun a o q => by
    split at q
    · cases q; exact ⟨by assumption, rfl⟩
    · cases q
  obtain ⟨Hd', S', e1, e2, _⟩ := S.ext (Hf := fun a => if a = p then some (.dK []) else none) e (fun a o q => (by obtain ⟨rfl, rfl⟩ := c a o q; exact upd_same)) fun a o q => .inr (by obtain ⟨rfl, rfl⟩ := c a o q; exact hp)
  exact q _ _ ⟨Hd', ps, S'.push (k := .dat (.dict [])) (.dic (.inl (e2 p _ (if_pos rfl))))⟩
/-- tuple(xs) of a list -/
theorem cc_tupL (h : seqOf ow k = some (fl, ds)) (hp : (fl || imms ds) = true) : CC K (rTo K) m ow [k] (.dat (.tuple ds)) ow := by
  rintro He Fr ts σ ys xs H Q hl ⟨Hd, ps, S⟩ q
  obtain ⟨y, rfl⟩ := one hl
  obtain ⟨p, vs, rfl, h1, h2⟩ := seq_ok S S.pop.1 h
  exact ⟨p, vs, rfl, .inl ⟨h1, fun r hr => q _ _ (S.pop.2.madeT hr (prt h2 hp))⟩⟩
end
/-- the name of the type of data -/
def tyD : PyData → String
  | .none => "NoneType"
  | .bool _ => "bool"
  | .int _ => "int"
  | .str _ => "str"
  | .list _ => "list"
  | .tuple _ => "tuple"
  | .dict _ => "dict"
theorem tyn_ek (ow : List OC) (b : Bool) (d : PyData) : tyn ow (ek b d) = some (tyD d) := by cases b <;> cases d <;> rfl
theorem tyn_ka (ow : List OC) (d : PyData) : tyn ow (ka d) = some (tyD d) := by cases d <;> rfl
theorem tyn_kd (ow : List OC) (d : PyData) : tyn ow (kd d) = some (tyD d) := by cases d <;> rfl
theorem ad_ek (ow : List OC) (b : Bool) (d : PyData) : ad ow (ek b d) = some d := by cases b <;> cases d <;> rfl
def isTup : PyData → Bool
  | .tuple _ => true
  | _ => false
def isLst : PyData → Bool
  | .list _ => true
  | _ => false
def isStr : PyData → Bool
  | .str _ => true
  | _ => false
/-- int, or bool -/
def isNum : PyData → Bool
  | .int _ => true
  | .bool _ => true
  | _ => false
def isBoo : PyData → Bool
  | .bool _ => true
  | _ => false
theorem kit_tup (d : PyData) : kitB (tyD d) "tuple" = some (isTup d) := by cases d <;> first | exact kit_NoneType_tuple | exact kit_bool_tuple | exact kit_int_tuple | exact kit_str_tuple | exact kit_list_tuple | exact kit_tuple_tuple | exact kit_dict_tuple
theorem kit_lst (d : PyData) : kitB (tyD d) "list" = some (isLst d) := by cases d <;> first | exact kit_NoneType_list | exact kit_bool_list | exact kit_int_list | exact kit_str_list | exact kit_list_list | exact kit_tuple_list | exact kit_dict_list
theorem kit_str (d : PyData) : kitB (tyD d) "str" = some (isStr d) := by cases d <;> first | exact kit_NoneType_str | exact kit_bool_str | exact kit_int_str | exact kit_str_str | exact kit_list_str | exact kit_tuple_str | exact kit_dict_str
theorem kit_num (d : PyData) : kitB (tyD d) "int" = some (isNum d) := by cases d <;> first | exact kit_NoneType_int | exact kit_bool_int | exact kit_int_int | exact kit_str_int | exact kit_list_int | exact kit_tuple_int | exact kit_dict_int
theorem kit_boo (d : PyData) : kitB (tyD d) "bool" = some (isBoo d) := by cases d <;> first | exact kit_NoneType_bool | exact kit_bool_bool | exact kit_int_bool | exact kit_str_bool | exact kit_list_bool | exact kit_tuple_bool | exact kit_dict_bool
/-! ### small values: shown without care -/
/-- a part of a value of any kind: small, compared only where it holds no dict -/
def smE (d : PyData) : Bool := d.showable && d.leavesShort 1930 && decide (d.bulk ≤ 100) && decide (d.depth ≤ 5)
theorem smE_all : ∀ {ds : List PyData}, (∀ d ∈ ds, smE d = true) → PyData.showableAll ds = true ∧ PyData.leavesShortAll 1930 ds = true ∧ PyData.bulkAll ds ≤ 101 * ds.length ∧ PyData.depthAll ds ≤ 5
  | [], _ => ⟨rfl, rfl, by decide, by decide⟩
  | d :: r, h => by
    have e := h d (List.mem_cons_self ..)
    unfold smE at e
    rw [Bool.and_eq_true, Bool.and_eq_true, Bool.and_eq_true, decide_eq_true_eq, decide_eq_true_eq] at e
    obtain ⟨⟨⟨a, b⟩, c⟩, f⟩ := e
    obtain ⟨a2, b2, c2, d2⟩ := smE_all (ds := r) fun e he => h e (List.mem_cons_of_mem _ he)
    refine ⟨?_, ?_, ?_, ?_⟩
    · rw [PyData.showableAll, a, a2]; rfl
    · rw [PyData.leavesShortAll, b, b2]; rfl
    · rw [PyData.bulkAll, List.length_cons]; omega
    · rw [PyData.depthAll]; omega
theorem rep_smL {ds : List PyData} (h : ∀ d ∈ ds, smE d = true) (hl : ds.length ≤ 75) : repOk (.list ds) := by
  obtain ⟨a, b, c, e⟩ := smE_all h
  exact repOk_of (by rw [PyData.showable]; exact a) (by rw [PyData.leavesShort]; exact b) (by rw [PyData.bulk]; omega) (by rw [PyData.depth]; omega)
theorem rep_smT {ds : List PyData} (h : ∀ d ∈ ds, smE d = true) (hl : ds.length ≤ 75) : repOk (.tuple ds) := by
  obtain ⟨a, b, c, e⟩ := smE_all h
  exact repOk_of (by rw [PyData.showable]; exact a) (by rw [PyData.leavesShort]; exact b) (by rw [PyData.bulk]; omega) (by rw [PyData.depth]; omega)
theorem rep_sm {d : PyData} (h : smE d = true) : repOk d := by
  unfold smE at h
  rw [Bool.and_eq_true, Bool.and_eq_true, Bool.and_eq_true, decide_eq_true_eq, decide_eq_true_eq] at h
  obtain ⟨⟨⟨a, b⟩, c⟩, f⟩ := h
  exact repOk_of a b (by omega) (by omega)
theorem pd_kd (d : PyData) : pd (kd d) = some d := by cases d <;> rfl
/-! ### a def that changes the list of ints it is given first; its result, by a relation, is only looked at -/
section
variable {α : Type}
def spQ (inp : α → List Int) (args : α → List PyData) (pre : α → Prop) (R : α → PyData → List Int → Prop) (K : PySem.W.Frag) : Sp := fun vs H Q _ => ∃ a p rest, vs = .ref p :: rest ∧ H p = some (.lst ((inp a).map V.int)) ∧ DpAll K (hid H p) rest (args a) ∧ pre a ∧
  ∀ d ns x H' Hf, R a d ns → Same (hid H p) H' → H' p = some (.lst (ns.map V.int)) → Frs H Hf H' → Dp K Hf x d → Q x H'
def PretQ (R : PyData → List Int → Prop) : Post := { nx := fun _ _ => False, rt := fun k ow => ∃ d ns, R d ns ∧ pd k = some d ∧ ow[0]? = some (.lst (ns.map PyData.int)), n0 := 1 }
end
section
variable {K : PySem.W.Frag} {m : Env'} {ow ow1 : List OC} {ks : List Knd} {α : Type} {inp : α → List Int} {args : α → List PyData} {pre : α → Prop} {R : α → PyData → List Int → Prop} {ar : TA} {E : XK}
theorem ex_callQ (a : α) (n : Nat) (h : EA K ar m ow (.own n :: ks) ow1) (hn : ow1[n]? = some (.lst ((inp a).map PyData.int))) (ha : adxs n ow1 ks = some (args a)) (hp : pre a) :
    EX K (tCall (spQ inp args pre R K) [] E ar) m ow (fun k ow' => ∃ d ns, R a d ns ∧ k = kd d ∧ ow' = ow1.set n (.lst (ns.map PyData.int))) := fun He Fr ts σ xs H Q S q =>
  h He Fr ts σ xs H _ S fun ys H1 hl ⟨Hd, ps, S1⟩ => by
    obtain ⟨h1, S2⟩ := S1.args hl
    rw [List.append_nil]
    cases h1 with
    | cons hy ht =>
    obtain ⟨p, vs, e1, rfl, e2, e3, e4⟩ := S2.own hy hn
    rw [of_dpa_ints e4] at e3
    refine ⟨a, p, _, rfl, e3, adxs_ok S2 e1 e2 ht ha, hp, fun d ns x H' Hf hR e hq f r => q _ _ _ _ ⟨d, ns, hR, rfl, rfl⟩ ?_⟩
    have hpn : Hf p = none := by
      cases z : Hf p with
      | none => rfl
      | some o =>
        rcases f.2 p o z with t | t
        · have := f.1 p o z
          rw [hq] at this
          cases this
          cases t
        · rw [e3] at t; cases t
    have S3 := S2.write (vs := ns.map V.int) e1 hn (dpa_ints ns)
    have sm : Same (upd H1 p (.lst (ns.map V.int))) H' := fun c o hc => by
      by_cases z : c = p
      · subst z; rw [upd_same] at hc; cases hc; exact hq
      · rw [upd_ne z] at hc; exact e _ _ (by rw [hid_ne z]; exact hc)
    have f' : Frs (upd H1 p (.lst (ns.map V.int))) Hf H' := ⟨f.1, fun c o hc => (f.2 c o hc).imp id fun t => by
      have z : c ≠ p := fun z => by rw [z, hpn] at hc; cases hc
      rw [upd_ne z]; exact t⟩
    obtain ⟨Hd', S', _, g2, _⟩ := frs_ext S3 sm f'
    exact ⟨Hd', ps, S'.push (kd_ok (dp_mono g2 r))⟩
theorem fin_Q {t : TS} {N : List Str} {vs : List V} {Q : VK} {H : Hp} (h : spQ inp args pre R K vs H Q E) (hS : ∀ a, pre a → SS K t (mstM N (args a)) [.lst ((inp a).map PyData.int)] (PretQ (R a))) : t { nx := fun _ H' => Q .non H', rt := Q } (start N vs) H := by
  obtain ⟨a, p, rest, rfl, hH, hd, hp, q⟩ := h
  have S0 : SB K (hid H p) (fun _ => none) (hid H p) [p] (mstM N (args a)) [.lst ((inp a).map PyData.int)] [] (start N (.ref p :: rest)) [] H := by
    refine ⟨Same.refl _, hid_sub H p, fun _ _ z => (by cases z), fun _ _ z => (by cases z), fun _ _ => rfl, by simp [kids, kidC], rfl, fun n r c h1 h2 => ?_, ?_, .nil⟩
    · match n, h1, h2 with
      | 0, h1, h2 =>
        cases h1
        cases h2
        exact ⟨hid_at, _, hH, dpa_ints _⟩
      | _ + 1, h1, _ => cases h1
    · unfold L2.start mstM
      rw [List.length_cons, dpa_len hd]
      exact prd_app (.cons ⟨_, rfl, p, rfl, rfl⟩ (start_prd (N := N) hd)) (repl_prd _)
  have S1 : SA K (hid H p) (fun _ => none) (mstM N (args a)) [.lst ((inp a).map PyData.int)] [.own 0] (start N (.ref p :: rest)) [.ref p] H := ⟨_, _, S0.push ⟨p, rfl, rfl⟩⟩
  refine hS a hp _ _ _ _ _ H _ S1 ⟨fun m ow σ H' e _ => e.elim, fun k m ow σ x H' hr ⟨Hd, ps, S⟩ => ?_, fun _ _ _ _ z => z.elim, fun _ _ _ _ z => z.elim, fun k hk => by rw [List.mem_singleton.mp hk]; exact Nat.zero_lt_one⟩
  obtain ⟨d, ns, hR, hret, h0⟩ := hr
  obtain ⟨hk, S'⟩ := S.pop
  obtain ⟨r, vs, e1, e2, e3, e4, e5⟩ := S'.own S'.pop.1 h0
  cases e2
  rw [of_dpa_ints e5] at e4
  refine q d ns _ _ (port (hid H p) Hd) hR (S.eh.trans S.dh) e4 ⟨(port_sub _ _).trans S.dh, fun c o hc => ?_⟩ (pd_ok hk hret)
  obtain ⟨a1, a2⟩ := of_port hc
  refine a2.imp id fun z => ?_
  by_cases e : c = p
  · rw [e, e3] at a1; cases a1
  · rwa [hid_ne e] at z
end
section
variable {P : Program} {w : World} {K : PySem.W.Frag} {mg : Str → Option Value} {base : Heap} {x qual : Str} {st : Stmt} {f : Addr} {fd : FuncData} {N ps : List Str} {k : Nat}
theorem ok_Q {α : Type} {inp : α → List Int} {args : α → List PyData} {pre : α → Prop} {R : α → PyData → List Int → Prop} (F : Fun K x qual st f fd) (S : FnScope N ps (defScope st)) (hl : ∀ a, (args a).length + 1 = ps.length)
    (body : ∀ (cdv : Value) (A : Around) (outer : List Env) (s : Shared) (H : Hp) (E : XK), Rm k (A.deeper (envOfC qual (defScope st) s.heap.objs.size f cdv)) →
      ∃ t, PSs (cxOf CX0 P w K mg base N qual (defScope st) f cdv A outer s H E).nox (defBody st) t ∧ ∀ a, pre a → SS K t (mstM N (args a)) [.lst ((inp a).map PyData.int)] (PretQ (R a))) : FnG P w K mg base CX0 (k + 1) f fd ps (spQ inp args pre R K) := by
  refine fnG_of F S (fun vs H Q E h => ?_) fun cdv A outer s H vs Q E hr h => ?_
  · obtain ⟨a, p, rest, rfl, _, h1, _⟩ := h
    rw [List.length_cons, dpa_len h1, hl]
  · obtain ⟨t, h1, h2⟩ := body cdv A outer s H E hr
    exact ⟨t, h1.nox, fin_Q h h2⟩
end
/-! ### calls without arguments; in a list of flat data -/
section
variable {X : Cx} {x : Str} {p pos : Pos} {k j : Nat} {sp : Sp}
theorem pe_cal0 (c : Cal X.prog X.w X.K X.mg X.base k x sp) (hr : Rm j X.A) (hk : k ≤ j) (hg : Gl X x) (hdb : (x == ("__debug__" : Str)) = false := by decide) : PE X (.Call (.Name x p) [] [] pos) (tCall sp [] E0 tNil) := by
  obtain ⟨f, fd, ps, F, hm, hkp, hb⟩ := c.ex
  exact pe_callG0 F (hr.mono hk) hg hm hkp hb pass0 hdb
end
section
variable {K : PySem.W.Frag} {m : Env'} {ow : List OC} {k : Knd} {x : V} {ds : List PyData} {fl : Bool}
theorem rr_inF {neg : Bool} (h : seqOf ow k = some (fl, ds)) (hf : ds.all flD = true) (hx : flatV x = true) : RR K (rIn K neg) m ow (.v x) k (.v (.bl (if neg then !inV x (ds.map vD) else inV x (ds.map vD)))) ow := by
  rintro He Fr ts σ x' y xs H Q ⟨Hd, ps, S⟩ q
  obtain ⟨p, vs, rfl, h1, h2⟩ := seq_ok S S.pop.1 h
  obtain ⟨rfl, h3⟩ := flat_vD h2 hf
  cases (show x' = x from S.pop.2.pop.1)
  exact ⟨p, _, rfl, .inl h1, hx, h3, q _ H ⟨Hd, ps, S.pop.2.pop.2.push rfl⟩⟩
end
/-! ### a list of any values against an empty one -/
def rNeN (K : PySem.W.Frag) : R2 := fun x y H Q => ∃ p q us, x = .ref p ∧ y = .ref q ∧ SqL K H p us ∧ SqL K H q [] ∧ Q (.bl (!us.isEmpty)) H
def rEqN (K : PySem.W.Frag) : R2 := fun x y H Q => ∃ p q us, x = .ref p ∧ y = .ref q ∧ SqL K H p us ∧ SqL K H q [] ∧ Q (.bl us.isEmpty) H
section
variable {X : Cx}
theorem op_neN (hu : X.A.units + 64 < cLine) : OpR X (compareOp .NotEq) (rNeN X.K) := by
  intro pins s σ H x y v u Q I rx ry h
  obtain ⟨p, q, us, rfl, rfl, h1, h2, hq⟩ := h
  cases rx
  cases ry
  obtain ⟨is, r1, l1, _⟩ := I.list h1
  obtain ⟨js, r2, l2, _⟩ := I.list h2
  cases r2
  cases us with
  | nil =>
    cases r1
    exact SeqAt.RcNeAt.lists (e := fun _ => true) l1.isList l2.isList rfl (by omega) (fun j h => absurd h (Nat.not_lt_zero _)) _ _ _ _ ⟨.bl _, H, I, rfl, hq⟩
  | cons z zs =>
    cases r1 with
    | cons a b => exact SeqAt.RcNeAt.lists_lengths l1.isList l2.isList (by simp) (by omega) _ _ _ _ ⟨.bl _, H, I, rfl, hq⟩
theorem op_neNK {K : PySem.W.Frag} (hK : X.K = K) (hu : X.A.units + 64 < cLine) : OpR X (compareOp .NotEq) (rNeN K) := hK ▸ op_neN hu
theorem op_eqN (hu : X.A.units + 64 < cLine) : OpR X (compareOp .Eq) (rEqN X.K) := by
  intro pins s σ H x y v u Q I rx ry h
  obtain ⟨p, q, us, rfl, rfl, h1, h2, hq⟩ := h
  cases rx
  cases ry
  obtain ⟨is, r1, l1, _⟩ := I.list h1
  obtain ⟨js, r2, l2, _⟩ := I.list h2
  cases r2
  cases us with
  | nil =>
    cases r1
    exact SeqAt.RcAt.lists (e := fun _ => true) l1.isList l2.isList rfl (by omega) (fun j h => absurd h (Nat.not_lt_zero _)) _ _ _ _ ⟨.bl _, H, I, rfl, hq⟩
  | cons z zs =>
    cases r1 with
    | cons a b => exact SeqAt.RcAt.lists_lengths l1.isList l2.isList (by simp) (by omega) _ _ _ _ ⟨.bl _, H, I, rfl, hq⟩
theorem op_eqNK {K : PySem.W.Frag} (hK : X.K = K) (hu : X.A.units + 64 < cLine) : OpR X (compareOp .Eq) (rEqN K) := hK ▸ op_eqN hu
end
section
variable {K : PySem.W.Frag} {m : Env'} {ow : List OC} {k1 k2 : Knd} {ds : List PyData} {f1 f2 : Bool}
theorem emp_len {α β : Type} {xs : List α} {ys : List β} (h : xs.length = ys.length) : xs.isEmpty = ys.isEmpty := by cases xs <;> cases ys <;> first | rfl | cases h
theorem rr_neN (h1 : seqOf ow k1 = some (f1, ds)) (h2 : seqOf ow k2 = some (f2, [])) : RR K (rNeN K) m ow k1 k2 (.v (.bl (!ds.isEmpty))) ow := by
  rintro He Fr ts σ x y xs H Q ⟨Hd, ps, S⟩ q
  obtain ⟨p2, us, rfl, a2, c2⟩ := seq_ok S S.pop.1 h2
  obtain ⟨p1, vs, rfl, a1, c1⟩ := seq_ok S S.pop.2.pop.1 h1
  cases c2
  exact ⟨p1, p2, vs, rfl, rfl, a1, a2, by rw [emp_len (dpa_len c1)]; exact q _ H ⟨Hd, ps, S.pop.2.pop.2.push rfl⟩⟩
theorem rr_eqN (h1 : seqOf ow k1 = some (f1, ds)) (h2 : seqOf ow k2 = some (f2, [])) : RR K (rEqN K) m ow k1 k2 (.v (.bl ds.isEmpty)) ow := by
  rintro He Fr ts σ x y xs H Q ⟨Hd, ps, S⟩ q
  obtain ⟨p2, us, rfl, a2, c2⟩ := seq_ok S S.pop.1 h2
  obtain ⟨p1, vs, rfl, a1, c1⟩ := seq_ok S S.pop.2.pop.1 h1
  cases c2
  exact ⟨p1, p2, vs, rfl, rfl, a1, a2, by rw [emp_len (dpa_len c1)]; exact q _ H ⟨Hd, ps, S.pop.2.pop.2.push rfl⟩⟩
end
end LD

/-! {k: v for x in xs for y in ys}: a clause of a comprehension as a loop of its own, twice used. -/
namespace LD
open PySem PySem.Spec PyProof.Rows L2
/-- the tests of a clause -/
def tests (ifs : List Expr) (env : Env) : Sem Bool := forIn ifs true fun c r => if r = true then do let k ← isTrue c env (eval c env); pure (ForInStep.yield k) else pure (ForInStep.yield r)
/-- how a clause's turn goes: an item, the store, the tests, then act -/
def TurnOf (M : Model) (A : Around) (e : Expr) (k : Nat) (it acc : Value) (env : Env) (tg : Expr) (ifs : List Expr) (act : Sem Unit) : Prop :=
  ∀ (Q : PySem.Fin → Shared → Prop) (E : Value → Shared → Prop) (s : Shared), wpAny M A (pyNext it) (fun r s1 => match r with
      | none => Q (.done .next) s1
      | some v => wpAny M A (letOwnedTupleGo tg it v) (fun _ s2 => wpAny M A (assign tg env v) (fun _ s3 => wpAny M A (tests ifs env) (fun ok s4 =>
          if ok = true then wpAny M A act (fun _ s5 => Q (.again (.compLoop e k it acc env)) s5) (fun _ _ => False) s4 else Q (.again (.compLoop e k it acc env)) s4) (fun _ _ => False) s3) (fun _ _ => False) s2) (fun _ _ => False) s1) (fun _ _ => False) s →
    wpAny M A (compTurn e k it acc env) Q E s
theorem wpF {α : Type} {M : Model} {A : Around} {t : Sem α} {Q : α → Shared → Prop} {E : Value → Shared → Prop} {s : Shared} (h : wpAny M A t Q (fun _ _ => False) s) : wpAny M A t Q E s := thnF h fun _ _ q => q
section
variable {Y : Cx} {P0 : List (Addr × Obj)} {σ0 : L2.St} {H0 : Hp} {s0 : Shared} {e : Expr} {k : Nat} {tg : Expr} {ifs : List Expr} {act : Sem Unit} {it : Addr} {acc : Value} {fp : List Addr} {tn : Nat → Heap → Prop} {J : It} {g : TG} {tt : TT} {vs : List Nat} {Fin : Hp → Prop}
theorem clause_loop (AS : L2.St → Hp → (Hp → Prop) → Prop) (hc : Y.calm = true) (hxe : Y.xe = fun _ _ => False)
    (eq : TurnOf (model Y.prog Y.w) Y.A e k (.ref it) acc Y.env tg ifs act)
    (hden : ∀ Q E s, wpAny (model Y.prog Y.w) Y.A ((compTurn e k (.ref it) acc Y.env).onRaise (fun x => do noteFrame x Y.env; theTreesLotGoes x)) Q E s → wpAny (model Y.prog Y.w) (Y.A.under (.compLoop e k (.ref it) acc Y.env)) ((model Y.prog Y.w).den (.compLoop e k (.ref it) acc Y.env)) Q E s)
    (T : Turn Y.prog Y.w Y.K tg J fp it tn) (pg : PG Y tg g) (pt : PTs Y ifs tt) (I0 : Inv Y P0 (wipe σ0 vs) H0 s0) (st0 : tn 0 s0.heap) (f0 : ∀ b ∈ fp, FpOk Y P0 H0 b)
    (W : Nat → Nat → Hp → Prop) {m0 : Nat} (w0 : W 0 m0 H0)
    (turn : ∀ i m H, W i m H → (J.stop i H ∧ Fin H) ∨ (J.go i H ∧ ∃ Nx : Hp → Prop, (∀ H', Nx H' → ∃ m', m' < m ∧ W (i + 1) m' H') ∧ ∀ x H', J.yld i H x H' → g x (wipe σ0 vs) H' fun σ2 H2 => wipe σ2 vs = wipe σ0 vs ∧ tt σ2 H2 fun b H3 => if b = true then AS σ2 H3 Nx else Nx H3))
    (hact : ∀ (pins : List (Addr × Obj)) (σ2 : L2.St) (H : Hp) (s : Shared) (Nx : Hp → Prop), Inv Y pins σ2 H s → AS σ2 H Nx →
      wpAny (model Y.prog Y.w) Y.A act (fun _ s' => ∃ σ' H', Inv Y pins σ' H' s' ∧ σ'.length = σ2.length ∧ (∀ (j : Nat) v, (wipe σ2 vs)[j]? = some (some v) → σ'[j]? = some (some v)) ∧ Nx H') (fun _ _ => False) s) :
    codeAny (model Y.prog Y.w) Y.A (.compLoop e k (.ref it) acc Y.env) (fun r s' => match r with
      | .ok f => f = .next ∧ ∃ H', Inv Y P0 (wipe σ0 vs) H' s' ∧ Fin H'
      | .error _ => False) s0 := by
  have here : ∀ {H : Hp}, (∀ b ∈ fp, H b = none) → ∀ b ∈ fp, FpOk Y P0 H b := fun hn b hb => ⟨hn b hb, (f0 b hb).2⟩
  refine codeAny_loop rfl (fun n s' => ∃ i H', Inv Y P0 (wipe σ0 vs) H' s' ∧ tn i s'.heap ∧ (∀ b ∈ fp, H' b = none) ∧ W i n H') (fun n s hI => ?_) m0 ⟨0, H0, I0, st0, fun b hb => (f0 b hb).1, w0⟩
  obtain ⟨i, H1, I1, st1, n1, w1⟩ := hI
  refine hden _ _ _ (wpAny_noted ?_)
  refine eq _ _ _ ?_
  rcases turn i n H1 w1 with ⟨stop, fin⟩ | ⟨go, Nx, hNx, step⟩
  · refine thnF (T.done Y rfl rfl rfl hc i P0 s (wipe σ0 vs) H1 (fun _ _ => False) I1 (here n1) st1 stop) fun r s2 ⟨hr, I2⟩ => ?_
    subst hr
    exact ⟨rfl, H1, I2, fin⟩
  · refine thnF (T.item Y rfl rfl rfl hc i P0 s (wipe σ0 vs) H1 (fun _ _ => False) I1 (here n1) st1 go) fun r s2 ⟨u, hr, h2⟩ => ?_
    subst hr
    refine thnF h2 fun _ s3 ⟨x, H3, I3, r3, y3, st3, n3⟩ => ?_
    have I3' := I3.pinned (here n3) (T.obj _ _ st3)
    have stay : ∀ {σ' : L2.St} {H' : Hp} {s' : Shared}, Inv Y (P0 ++ pinsAt fp s3.heap) σ' H' s' → σ'.length = (wipe σ0 vs).length → (∀ (j : Nat) v, (wipe σ0 vs)[j]? = some (some v) → σ'[j]? = some (some v)) → Nx H' →
        ∃ m, m < n ∧ ∃ i H', Inv Y P0 (wipe σ0 vs) H' s' ∧ tn i s'.heap ∧ (∀ b ∈ fp, H' b = none) ∧ W i m H' := fun {σ' H' s'} I' hl hk nx => by
      obtain ⟨m', hm, w'⟩ := hNx H' nx
      have pin : ∀ b ∈ fp, ∀ o, s3.heap.get? b = some o → s'.heap.get? b = some o ∧ H' b = none := fun b hb o eo =>
        let z := I'.pin (b, o) (List.mem_append_right _ (List.mem_append_right _ (mem_pinsAt hb eo)))
        ⟨z.1, z.2.1⟩
      refine ⟨m', hm, i + 1, H', (I'.unpinned (pins := P0)).weak hl.symm hk, T.keep _ _ _ st3 fun b hb o eo => (pin b hb o eo).1, fun b hb => ?_, w'⟩
      obtain ⟨o, eo, _⟩ := T.obj _ _ st3 b hb
      exact (pin b hb o eo).2
    have q3 := pg.run _ s3 _ H3 x u _ I3' r3 (step x H3 y3)
    rw [hxe] at q3
    refine thnF q3 fun _ s4 ⟨σ4, H4, I4, hw4, q4⟩ => ?_
    have q4 := pt.run _ s4 σ4 H4 _ I4 q4
    rw [hxe] at q4
    refine thnF q4 fun b s5 ⟨H5, I5, q5⟩ => ?_
    have hl4 : σ4.length = (wipe σ0 vs).length := by rw [← hw4, wipe_length]
    have hk4 : ∀ (j : Nat) v, (wipe σ0 vs)[j]? = some (some v) → σ4[j]? = some (some v) := fun j v ev => by
      rw [← hw4] at ev
      exact (wipe_some ev).1
    cases b with
    | false =>
      simp only [Bool.false_eq_true, if_false] at q5 ⊢
      exact ⟨by first | rfl | trivial, stay I5 hl4 hk4 q5⟩
    | true =>
      simp only [if_true] at q5 ⊢
      refine thnF (hact _ σ4 H5 s5 Nx I5 q5) fun _ s6 ⟨σ6, H6, I6, hl6, hk6, nx⟩ => ?_
      exact ⟨by first | rfl | trivial, stay I6 (hl6.trans hl4) (fun j v ev => hk6 j v (by rw [hw4]; exact ev)) nx⟩
end
/-! ### the two clauses of a dict comprehension -/
abbrev dc2 (kx vx tg iter tg1 iter1 : Expr) (ifs ifs1 : List Expr) (scope : Scope) (pos : Pos) : Expr := .DictComp kx vx [⟨tg, iter, ifs, 0⟩, ⟨tg1, iter1, ifs1, 0⟩] scope pos
section
variable {kx vx tg iter tg1 iter1 : Expr} {ifs ifs1 : List Expr} {scope : Scope} {pos : Pos}
def putAct (kx vx : Expr) (D : Addr) (env : Env) : Sem Unit := do
  let a ← eval kx env
  let b ← holding [a] (eval vx env)
  standAt { kx.pos with endLine := vx.pos.endLine, endCol := vx.pos.endCol }
  holding [a, b] (dictSet D a b)
def innAct (e iter1 : Expr) (acc : Value) (env : Env) : Sem Unit := do
  let z ← eval iter1 env
  standAt iter1.pos
  let z ← foldedSetIterable iter1 env z
  let _ ← runOwn (.compStart e 1 (← holding [z] (pyIter z)) acc env) env
/-- act, then the rest -/
theorem inn_then {M : Model} {A : Around} {e iter1 : Expr} {acc : Value} {env : Env} {F : PySem.Fin} {Q : PySem.Fin → Shared → Prop} {E : Value → Shared → Prop} {s : Shared} (h : wpAny M A (innAct e iter1 acc env) (fun _ s5 => Q F s5) (fun _ _ => False) s) :
    wpAny M A (do
      let z ← eval iter1 env
      standAt iter1.pos
      let z ← foldedSetIterable iter1 env z
      let _ ← runOwn (.compStart e 1 (← holding [z] (pyIter z)) acc env) env
      pure F) Q E s := by
  have q : (innAct e iter1 acc env >>= fun _ => (pure F : Sem PySem.Fin)) = (do
      let z ← eval iter1 env
      standAt iter1.pos
      let z ← foldedSetIterable iter1 env z
      let _ ← runOwn (.compStart e 1 (← holding [z] (pyIter z)) acc env) env
      pure F) := by
    unfold innAct
    simp only [bind_assoc, pure_bind]
  rw [← q]
  exact wpAny_bind (thnF h fun _ s5 h5 => wpAny_pure h5)
theorem turn0 {M : Model} {A : Around} (it : Value) (D : Addr) (env : Env) : TurnOf M A (dc2 kx vx tg iter tg1 iter1 ifs ifs1 scope pos) 0 it (.ref D) env tg ifs (innAct (dc2 kx vx tg iter tg1 iter1 ifs ifs1 scope pos) iter1 (.ref D) env) := fun Q E s h => by
  have eq : compTurn (dc2 kx vx tg iter tg1 iter1 ifs ifs1 scope pos) 0 it (.ref D) env = (do
      standAt iter.pos
      match ← pyNext it with
      | none => pure (.done .next)
      | some v =>
        letOwnedTupleGo tg it v
        assign tg env v
        let mut go := true
        for c in ifs do
          if go then go ← isTrue c env (eval c env)
        if go then
          let z ← eval iter1 env
          standAt iter1.pos
          let z ← foldedSetIterable iter1 env z
          let _ ← runOwn (.compStart (dc2 kx vx tg iter tg1 iter1 ifs ifs1 scope pos) 1 (← holding [z] (pyIter z)) (.ref D) env) env
        again (.compLoop (dc2 kx vx tg iter tg1 iter1 ifs ifs1 scope pos) 0 it (.ref D) env)) := by rfl
  rw [eq]
  refine wpAny_bind (wpAny_standAt (wpAny_bind (thnF h fun r s1 h1 => ?_)))
  match r, h1 with
  | none, h1 => exact wpAny_pure h1
  | some v, h1 =>
    refine wpAny_bind (thnF h1 fun _ s2 h2 => wpAny_bind (thnF h2 fun _ s3 h3 => wpAny_bind (thnF h3 fun ok s4 h4 => ?_)))
    cases ok with
    | false => exact wpAny_pure h4
    | true =>
      have h4 : wpAny M A (innAct (dc2 kx vx tg iter tg1 iter1 ifs ifs1 scope pos) iter1 (.ref D) env) (fun _ s5 => Q (.again (.compLoop (dc2 kx vx tg iter tg1 iter1 ifs ifs1 scope pos) 0 it (.ref D) env)) s5) (fun _ _ => False) s4 := h4
      exact inn_then h4
theorem turn1 {M : Model} {A : Around} (it : Value) (D : Addr) (env : Env) : TurnOf M A (dc2 kx vx tg iter tg1 iter1 ifs ifs1 scope pos) 1 it (.ref D) env tg1 ifs1 (putAct kx vx D env) := fun Q E s h => by
  have eq : compTurn (dc2 kx vx tg iter tg1 iter1 ifs ifs1 scope pos) 1 it (.ref D) env = (do
      standAt iter1.pos
      match ← pyNext it with
      | none => pure (.done .next)
      | some v =>
        letOwnedTupleGo tg1 it v
        assign tg1 env v
        let mut go := true
        for c in ifs1 do
          if go then go ← isTrue c env (eval c env)
        if go then putAct kx vx D env
        again (.compLoop (dc2 kx vx tg iter tg1 iter1 ifs ifs1 scope pos) 1 it (.ref D) env)) := by rfl
  rw [eq]
  refine wpAny_bind (wpAny_standAt (wpAny_bind (thnF h fun r s1 h1 => ?_)))
  match r, h1 with
  | none, h1 => exact wpAny_pure h1
  | some v, h1 =>
    refine wpAny_bind (thnF h1 fun _ s2 h2 => wpAny_bind (thnF h2 fun _ s3 h3 => wpAny_bind (thnF h3 fun ok s4 h4 => ?_)))
    cases ok with
    | false => exact wpAny_pure h4
    | true =>
      have h4 : wpAny M A (putAct kx vx D env) (fun _ s5 => Q (.again (.compLoop (dc2 kx vx tg iter tg1 iter1 ifs ifs1 scope pos) 1 it (.ref D) env)) s5) (fun _ _ => False) s4 := h4
      exact wpAny_bind (thnF h4 fun _ s5 h5 => wpAny_pure h5)
theorem start1 {prog : Program} {w : World} {A : Around} {R : Result → Shared → Prop} {s : Shared} {it acc : Value} {env : Env} (h0 : codeAny (model prog w) A (.compLoop (dc2 kx vx tg iter tg1 iter1 ifs ifs1 scope pos) 1 it acc env) R s)
    (h : ∀ (Q : Value → Shared → Prop) (E : Value → Shared → Prop), Q it s → wpAny (model prog w) A (pyIter it) Q E s) : codeAny (model prog w) A (.compStart (dc2 kx vx tg iter tg1 iter1 ifs ifs1 scope pos) 1 it acc env) R s := by
  refine codeAny_of_tree (show wpAny (model prog w) A ((compStart (dc2 kx vx tg iter tg1 iter1 ifs ifs1 scope pos) 1 it acc env).onRaise fun x => do noteFrame x env; standAt theWindowsPlace) _ _ s from wpAny_notedAt ?_)
  unfold compStart
  refine (show wpAny (model prog w) A (ask >>= _) _ _ s from wpAny_bind (wpAny_askSetting (wpAny_ite ?_)))
  have fin : Fin.again (.compLoop (dc2 kx vx tg iter tg1 iter1 ifs ifs1 scope pos) 1 it acc env) = Fin.again (.compLoop (dc2 kx vx tg iter tg1 iter1 ifs ifs1 scope pos) 1 it acc env) := rfl
  split
  · first | exact wpAny_bind (wpAny_pure (wpAny_pure ⟨rfl, h0⟩)) | exact wpAny_pure ⟨rfl, h0⟩
  · first | exact wpAny_bind (wpAny_rule (wpAny_bind (wpAny_standAt (wpAny_bind (h _ _ (wpAny_pure ⟨rfl, h0⟩)))))) | (refine wpAny_bind (wpAny_rule (show wpAny (model prog w) A (standAt iter1.pos >>= _) _ _ s from ?_)); exact wpAny_bind (wpAny_standAt (wpAny_bind (h _ _ (wpAny_pure ⟨rfl, h0⟩)))))
end
/-- d[k] = v, then Nx -/
def putS (tk tv : TE) (D : Addr) (σ : L2.St) (H : Hp) (Nx : Hp → Prop) : Prop := tk σ H fun y H1 => tv σ H1 fun z H2 => ∃ kvs k, y = kV k ∧ H2 D = some (.dK kvs) ∧ kvs.length < sizeLine ∧ Nx (upd H2 D (.dK (putK kvs k z)))
/-- the second clause, then Nx -/
def innS (wi1 : TI) (g1 : TG) (tt1 : TT) (tk tv : TE) (vs1 : List Nat) (D : Addr) (σ : L2.St) (H : Hp) (Nx : Hp → Prop) : Prop := wi1 σ H fun J H1 => ∃ W : Nat → Nat → Hp → Prop, (∃ m, W 0 m H1) ∧ ∀ i m H, W i m H →
  (J.stop i H ∧ Nx H) ∨ (J.go i H ∧ ∃ Nx1 : Hp → Prop, (∀ H', Nx1 H' → ∃ m', m' < m ∧ W (i + 1) m' H') ∧ ∀ x H', J.yld i H x H' → g1 x (wipe σ vs1) H' fun σ2 H2 => wipe σ2 vs1 = wipe σ vs1 ∧ tt1 σ2 H2 fun b H3 => if b = true then putS tk tv D σ2 H3 Nx1 else Nx1 H3)
def tDc2 (wi : TI) (g : TG) (tt : TT) (wi1 : TI) (g1 : TG) (tt1 : TT) (tk tv : TE) (vs vs1 : List Nat) : TE := fun σ H Q => wi σ H fun J H1 => ∀ D, H1 D = none → ∃ W : Nat → Nat → Hp → Prop, (∃ m, W 0 m (upd H1 D (.dK []))) ∧ ∀ i m H, W i m H →
  (J.stop i H ∧ Q (.ref D) H) ∨ (J.go i H ∧ ∃ Nx : Hp → Prop, (∀ H', Nx H' → ∃ m', m' < m ∧ W (i + 1) m' H') ∧ ∀ x H', J.yld i H x H' → g x (wipe σ vs) H' fun σ2 H2 => wipe σ2 vs = wipe σ vs ∧ tt σ2 H2 fun b H3 => if b = true then innS wi1 g1 tt1 tk tv vs1 D σ2 H3 Nx else Nx H3)
section
variable {Y : Cx} {kx vx tg iter tg1 iter1 : Expr} {ifs ifs1 : List Expr} {scope : Scope} {pos : Pos} {wi1 : TI} {g1 : TG} {tt1 : TT} {tk tv : TE} {vs1 vs : List Nat} {D : Addr} {pins : List (Addr × Obj)} {σ : L2.St} {H : Hp} {s : Shared} {Nx : Hp → Prop}
theorem put_act (hxe : Y.xe = fun _ _ => False) (pk : PE Y kx tk) (pv : PE Y vx tv) (I : Inv Y pins σ H s) (h : putS tk tv D σ H Nx) :
    wpAny (model Y.prog Y.w) Y.A (putAct kx vx D Y.env) (fun _ s' => ∃ H', Inv Y pins σ H' s' ∧ Nx H') (fun _ _ => False) s := by
  unfold putAct
  have q1 := pk.run pins s σ H _ I h
  rw [hxe] at q1
  refine wpAny_bind (thnF q1 fun a s1 ⟨y, H1, I1, r1, h1⟩ => ?_)
  have q2 := pv.run pins s1 σ H1 _ I1 h1
  rw [hxe] at q2
  refine wpAny_bind (wpAny_holding (thnF q2 fun b s2 ⟨z, H2, I2, r2, kvs, k, ek, hD, hz, nx⟩ => ?_))
  subst ek
  exact wpAny_bind (wpAny_standAt (wpAny_holding (d_dictSet I2 hD hz r1 r2 fun s3 I3 => ⟨_, I3, nx⟩)))
theorem inn_act (hc : Y.calm = true) (hxe : Y.xe = fun _ _ => False) (hv : ∀ i ∈ vs1, i ∈ vs) (pi : PI Y tg1 iter1 wi1) (pg : PG Y tg1 g1) (pt : PTs Y ifs1 tt1) (pk : PE Y kx tk) (pv : PE Y vx tv) (hs : ∀ x, foldedSetIterable iter1 Y.env x = pure x)
    (I : Inv Y pins σ H s) (h : innS wi1 g1 tt1 tk tv vs1 D σ H Nx) :
    wpAny (model Y.prog Y.w) Y.A (innAct (dc2 kx vx tg iter tg1 iter1 ifs ifs1 scope pos) iter1 (.ref D) Y.env) (fun _ s' => ∃ σ' H', Inv Y pins σ' H' s' ∧ σ'.length = σ.length ∧ (∀ (j : Nat) v, (wipe σ vs)[j]? = some (some v) → σ'[j]? = some (some v)) ∧ Nx H') (fun _ _ => False) s := by
  unfold innAct
  have q1 := pi.run pins s σ H _ I h
  rw [hxe] at q1
  refine wpAny_bind (thnF q1 fun v s1 h1 => wpAny_bind (wpAny_standAt (wpAny_bind (wpAny_of_eq (hs v) (wpAny_bind (wpAny_holding (thnF h1 fun iv s2 h2 => ?_)))))))
  obtain ⟨it, fp, tn, J, H2, rfl, I2, T, st2, f2, W, ⟨m0, w0⟩, turn⟩ := h2
  have I2' : Inv Y pins (wipe σ vs1) H2 s2 := I2.weak (wipe_length _ _) fun j v e => (wipe_some e).1
  have loop := clause_loop (e := dc2 kx vx tg iter tg1 iter1 ifs ifs1 scope pos) (k := 1) (acc := .ref D) (putS tk tv D) hc hxe (turn1 _ _ _) (fun _ _ _ h => h) T pg pt I2' st2 f2 W w0 turn fun pins σ2 H s Nx1 I3 h3 => thnF (put_act hxe pk pv I3 h3) fun _ s4 ⟨H4, I4, nx⟩ => ⟨σ2, H4, I4, rfl, fun j v e => (wipe_some e).1, nx⟩
  refine wpAny_bind (wpAny_runOwn ?_)
  rw [Around.mark_none]
  refine codeAny_mono (start1 loop fun Q E hq => T.self _ 0 s2 Q E st2 hq) fun r s' hr => ?_
  match r, hr with
  | .ok f, ⟨_, H', I', nx⟩ =>
    have done : ∃ σ' H', Inv Y pins σ' H' s' ∧ σ'.length = σ.length ∧ (∀ (j : Nat) v, (wipe σ vs)[j]? = some (some v) → σ'[j]? = some (some v)) ∧ Nx H' := ⟨wipe σ vs1, H', I', wipe_length _ _, fun j v e => by
      obtain ⟨e1, e2⟩ := wipe_some e
      rw [wipe_out fun z => e2 (hv j z)]
      exact e1, nx⟩
    first | exact wpAny_pure done | exact wpAny_bind (wpAny_pure (wpAny_pure done))
  | .error _, h => exact h.elim
end
section
variable {X : Cx} {kx vx tg iter tg1 iter1 : Expr} {ifs ifs1 : List Expr} {scope : Scope} {own : List (Str × Nat)} {pos : Pos} {wi wi1 : TI} {g g1 : TG} {tt tt1 : TT} {tk tv : TE} {vs1 : List Nat} {pins : List (Addr × Obj)} {σ : L2.St} {H : Hp} {s : Shared}
/-- what the parts of the block are, wherever it begins -/
structure Parts (X : Cx) (kx vx tg tg1 iter1 : Expr) (ifs ifs1 : List Expr) (scope : Scope) (g g1 : TG) (wi1 : TI) (tt tt1 : TT) (tk tv : TE) (fp : List Addr) (s : Shared) (H : Hp) (C : Addr) (cl : List (Str × Addr)) : Prop where
  g0 : PG (X.blk s H scope (compEnvC scope cl C X.env) fp) tg g
  t0 : PTs (X.blk s H scope (compEnvC scope cl C X.env) fp) ifs tt
  i1 : PI (X.blk s H scope (compEnvC scope cl C X.env) fp) tg1 iter1 wi1
  g1 : PG (X.blk s H scope (compEnvC scope cl C X.env) fp) tg1 g1
  t1 : PTs (X.blk s H scope (compEnvC scope cl C X.env) fp) ifs1 tt1
  k1 : PE (X.blk s H scope (compEnvC scope cl C X.env) fp) kx tk
  v1 : PE (X.blk s H scope (compEnvC scope cl C X.env) fp) vx tv
theorem dc2_core {use : Option (Value → Sem Unit)} {Qf : Value → Shared → Prop} {Q : VK} {pos' : Pos} (hc : X.calm = true) (hN : X.N.Nodup) (I : Inv X pins σ H s) (hi : PI X tg iter wi) (ok : BlkOk X.N X.env.scope scope own) (hv : ∀ i ∈ vs1, i ∈ own.map (·.2))
    (parts : ∀ (s : Shared) (H : Hp) (C : Addr) (cl : List (Str × Addr)) (fp : List Addr), Parts X kx vx tg tg1 iter1 ifs ifs1 scope g g1 wi1 tt tt1 tk tv fp s H C cl)
    (hs : ∀ x, foldedSetIterable iter X.env x = pure x) (hs1 : ∀ env x, foldedSetIterable iter1 env x = pure x) (h : tDc2 wi g tt wi1 g1 tt1 tk tv (own.map (·.2)) vs1 σ H Q)
    (out : ∀ D C s' m H', Inv X pins σ H' s' → Q (.ref D) H' → s'.heap.Ns C m → FpOk X pins H' C → compPost (model X.prog X.w) X.A X.xe use Qf (.ref D) C (.ok .next) s') :
    wpAny (model X.prog X.w) X.A (comprehension (dc2 kx vx tg iter tg1 iter1 ifs ifs1 scope pos) scope X.env pos' newDict false (eval iter X.env) use) Qf X.xe s := by
  have free : ∀ y ∈ scope.names, y.2 = .free → ∃ c, X.env.cells.lookup y.1 = some c := fun y hy e => (ok.free y hy e).elim (fun z => I.ok.has _ (.inl z)) fun z => I.ok.has _ (.inr z)
  refine wpAny_comprehension_free (use := use) rfl hs (closure_ok free) ok.kind (fun y hy e => by rw [ok.uniq y hy, e]) (thn (hi.run pins s σ H _ I h) fun v s1 h1 => thn h1 fun iv s2 h2 => ?_)
  obtain ⟨it, fp, tn, J, H2, rfl, I2, T, st2, f2, q⟩ := h2
  refine wpAny_newObj_type (newEnv_comp ?_)
  obtain ⟨D, hD⟩ : ∃ D, D = s2.heap.objs.size := ⟨_, rfl⟩
  have nD : H2 D = none := I2.hok.fresh (Nat.le_of_eq hD.symm)
  obtain ⟨W, ⟨m0, w0⟩, turn⟩ := q D nD
  rw [← hD]
  obtain ⟨s3, hs3⟩ : ∃ s3 : Shared, s3 = { s2 with heap := s2.heap.push { cls := .type "dict", data := .dict #[] } } := ⟨_, rfl⟩
  have e3 : s3.heap = s2.heap.push { cls := .type "dict", data := .dict #[] } := by rw [hs3]
  have I3 : Inv X pins σ (upd H2 D (.dK [])) s3 := by
    rw [hs3, hD]
    exact I2.laid (t' := s2.toks) (fun b o e => Heap.get?_push_of_some _ e) (Nat.le_refl _) (dk_empty s2.heap I2.big)
  have young : ∀ b ∈ fp, b < s2.heap.objs.size := fun b hb => by
    obtain ⟨o, e, _⟩ := T.obj _ _ st2 b hb
    exact Heap.lt_size e
  have f3 : ∀ b ∈ fp, FpOk X pins (upd H2 D (.dK [])) b ∧ b < s3.heap.objs.size := fun b hb => by
    have lt := young b hb
    refine ⟨⟨?_, (f2 b hb).2⟩, by rw [e3, Heap.size_push]; exact Nat.lt_succ_of_lt lt⟩
    rw [upd_ne (by rw [hD]; exact Nat.ne_of_lt lt)]
    exact (f2 b hb).1
  have st3 : tn 0 s3.heap := T.keep _ _ _ st2 fun b _ o e => by rw [e3]; exact Heap.get?_push_of_some _ e
  have I4 := block_start I3 ok hN f3
  have pp := parts s3 (upd H2 D (.dK [])) s3.heap.objs.size (cellsFrom (s3.heap.objs.size + 1) scope.names (cloFrom X.env.cells scope.names [])) fp
  rw [← hs3]
  obtain ⟨ce, hce⟩ : ∃ ce, ce = compEnvC scope (cellsFrom (s3.heap.objs.size + 1) scope.names (cloFrom X.env.cells scope.names [])) s3.heap.objs.size X.env := ⟨_, rfl⟩
  obtain ⟨pg, pt, pi, pg1, pt1, pk, pv⟩ := pp
  show codeAny _ _ (.compStart (dc2 kx vx tg iter tg1 iter1 ifs ifs1 scope pos) 0 (.ref it) (.ref D) (compEnvC scope (cellsFrom (s3.heap.objs.size + 1) scope.names (cloFrom X.env.cells scope.names [])) s3.heap.objs.size X.env)) (compPost (model X.prog X.w) X.A X.xe use Qf (.ref D) s3.heap.objs.size) { s3 with heap := pushCells (s3.heap.push { cls := .type "dict", data := .dict #[] }) scope.names }
  rw [← hce] at I4 pg pt pi pg1 pt1 pk pv ⊢
  have cL : ce.locals = s3.heap.objs.size := by rw [hce]; rfl
  obtain ⟨H3, hH3⟩ : ∃ H3, H3 = upd H2 D (.dK []) := ⟨_, rfl⟩
  rw [← hH3] at I3 I4 pg pt pi pg1 pt1 pk pv w0 f3
  obtain ⟨s4, hs4⟩ : ∃ s4 : Shared, s4 = { s3 with heap := pushCells (s3.heap.push { cls := .type "dict", data := .dict #[] }) scope.names } := ⟨_, rfl⟩
  rw [← hs4] at I4 ⊢
  have st4 : tn 0 s4.heap := T.keep _ _ _ st3 fun b _ o e => by rw [hs4]; exact pushCells_keeps _ _ _ _ (Heap.get?_push_of_some _ e)
  have f4 : ∀ b ∈ fp, FpOk (X.blk s3 H3 scope ce fp) [] H3 b := fun b hb => ⟨(f3 b hb).1.1, (I4.ok.exf b hb).1, I4.ok.exfs b hb, .inl hb, fun x c e => (I4.ok.exf b hb).2 x c e, fun p hp => absurd (show p ∈ ([] : List (Addr × Obj)) ++ [] from hp) (by simp)⟩
  have loop := clause_loop (Y := X.blk s3 H3 scope ce fp) (e := dc2 kx vx tg iter tg1 iter1 ifs ifs1 scope pos) (k := 0) (acc := .ref D) (innS wi1 g1 tt1 tk tv vs1 D) hc rfl (turn0 _ _ _) (fun _ _ _ h => h) T pg pt I4 st4 f4 W w0 turn
    fun pins σ2 H s Nx I5 h5 => inn_act (iter := iter) (ifs := ifs) (tg := tg) (scope := scope) (pos := pos) hc rfl hv pi pg1 pt1 pk pv (hs1 _) I5 h5
  have back : codeAny (model X.prog X.w) X.A (.compLoop (dc2 kx vx tg iter tg1 iter1 ifs ifs1 scope pos) 0 (.ref it) (.ref D) ce) (compPost (model X.prog X.w) X.A X.xe use Qf (.ref D) s3.heap.objs.size) s4 := by
    refine codeAny_mono loop fun r s5 hr => ?_
    match r, hr with
    | .ok f, ⟨hf, H5, I5, qq⟩ =>
      subst hf
      have I6 : Inv X pins σ H5 s5 := I3.call' (ch := fp) I5.os I5.base I5.hok I5.bare fun b hb => ⟨(f3 b hb).1.2.2.2.1, (f3 b hb).1.2.1, (f3 b hb).1.2.2.2.2.1, (f3 b hb).1.2.2.2.2.2⟩
      have nC : H5 s3.heap.objs.size = none := by
        have z : H5 ce.locals = none := I5.free
        rwa [cL] at z
      obtain ⟨m, hn, _⟩ := I5.loc
      have hn : s5.heap.Ns ce.locals m := hn
      rw [cL] at hn
      exact out D s3.heap.objs.size s5 m H5 I6 qq hn (I3.fpOk (Nat.le_refl _) nC)
    | .error _, z => exact z.elim
  exact codeAny_compStart_dict back (T.self X.A 0 _ _ _ st4 back)
theorem pe_dc2 (hc : X.calm = true) (hN : X.N.Nodup) (hi : PI X tg iter wi) (ok : BlkOk X.N X.env.scope scope own) (hv : ∀ i ∈ vs1, i ∈ own.map (·.2))
    (parts : ∀ (s : Shared) (H : Hp) (C : Addr) (cl : List (Str × Addr)) (fp : List Addr), Parts X kx vx tg tg1 iter1 ifs ifs1 scope g g1 wi1 tt tt1 tk tv fp s H C cl)
    (hs : ∀ x, foldedSetIterable iter X.env x = pure x := by intro _; rfl) (hs1 : ∀ env x, foldedSetIterable iter1 env x = pure x := by intro _ _; rfl) :
    PE X (dc2 kx vx tg iter tg1 iter1 ifs ifs1 scope pos) (tDc2 wi g tt wi1 g1 tt1 tk tv (own.map (·.2)) vs1) := by
  refine ⟨fun pins s σ H Q I h => ?_⟩
  rw [arm_eval_DictComp]
  refine dc2_core hc hN I hi ok hv parts hs hs1 h fun D C s' m H' I' q hn ⟨f0, f1, f2, f3, f4, f5⟩ => ⟨m, hn, fun h' sb => ⟨.ref D, H', I'.turned (t' := s'.toks) (fun b o hb e => (sb.2 b hb).trans e) f0 f1 f3 f4 f5, rfl, q⟩⟩
theorem ps_setDc2 {i : Nat} {y : Str} {py spos : Pos} (hc : X.calm = true) (hN : X.N.Nodup) (hy : X.N[i]? = some y) (hyl : X.env.scope.names.lookup y = some .local) (hsw : swapsWith (dc2 kx vx tg iter tg1 iter1 ifs ifs1 scope pos) (some (.Name y py)) spos.line X.env = pure true)
    (hi : PI X tg iter wi) (ok : BlkOk X.N X.env.scope scope own) (hv : ∀ i ∈ vs1, i ∈ own.map (·.2))
    (parts : ∀ (s : Shared) (H : Hp) (C : Addr) (cl : List (Str × Addr)) (fp : List Addr), Parts X kx vx tg tg1 iter1 ifs ifs1 scope g g1 wi1 tt tt1 tk tv fp s H C cl)
    (hs : ∀ x, foldedSetIterable iter X.env x = pure x := by intro _; rfl) (hs1 : ∀ env x, foldedSetIterable iter1 env x = pure x := by intro _ _; rfl) :
    PS X (.Assign [.Name y py] (dc2 kx vx tg iter tg1 iter1 ifs ifs1 scope pos) spos) (tAsg (tDc2 wi g tt wi1 g1 tt1 tk tv (own.map (·.2)) vs1) (gName i)) := by
  refine ⟨fun pins s σ H D I h => ?_⟩
  rw [exec_Assign_Name_used _ _ _ _ hsw]
  refine wpAny_bind (wpAny_standAt (wpAny_bind (show wpAny _ X.A (do let _ ← comprehension (dc2 kx vx tg iter tg1 iter1 ifs ifs1 scope pos) scope X.env (firstIterPos [⟨tg, iter, ifs, 0⟩, ⟨tg1, iter1, ifs1, 0⟩] pos) newDict false (eval iter X.env) (some (assign (.Name y py) X.env))) _ _ s from ?_)))
  have h : tDc2 wi g tt wi1 g1 tt1 tk tv (own.map (·.2)) vs1 σ H (fun x H1 => gName i x σ H1 D.nx) := h
  refine wpAny_bind (thn (dc2_core (Qf := fun _ s' => SP X pins D .next s') hc hN I hi ok hv parts hs hs1 h fun L C s' m H' I' q hn ⟨f0, f1, f2, f3, f4, f5⟩ => ?_) fun _ s' hq => wpAny_pure (wpAny_pure hq))
  refine (show wpAny _ _ (assign (.Name y py) X.env (.ref L)) _ _ _ from wpAny_assign_Name (store_ok2 (v := V.ref L) I' hN hy (.inl hyl) rfl (fun s2 I2 ⟨a, sb, ha⟩ => ?_) (.inr hyl)))
  have ne : C ≠ a := ha.elim (fun z => by rw [z]; exact f1) fun z e => f4 y a z e.symm
  exact ⟨m, hn.sameBut sb ne, fun h3 sb3 => ⟨_, H', I2.turned (t' := s2.toks) (fun b o hb e => (sb3.2 b hb).trans e) f0 f1 f3 f4 f5, q⟩⟩
end
end LD

/-! Reading a dict made by two for clauses; a tuple of an own dict and an own list as a result. -/
namespace LD
open PySem PySem.Spec PyProof.Rows L2
section
variable {K : PySem.W.Frag} {He Fr Hd H : Hp} {ps : List Addr} {m : Env'} {ow ow1 : List OC} {ts : List Knd} {σ : L2.St} {xs : List V} {k : Knd} {tl1 tk tv : TE} {ar : TA} {j j1 : Nat} {vs vs1 : List Nat} {fl fl1 : Bool} {α β : Type}
theorem yes_then {σ : L2.St} {H : Hp} {A B : Hp → Prop} (h : A H) : tYes σ H fun b H3 => if b = true then A H3 else B H3 := by
  show (if true = true then A H else B H)
  rw [if_pos rfl]; exact h
/-- the dict so far -/
def SoD (K : PySem.W.Frag) (He Fr : Hp) (m : Env') (ow : List OC) (ts : List Knd) (σ : L2.St) (xs : List V) (D : Addr) (L : List (Key × PyData)) (H : Hp) : Prop :=
  ∃ Hd ps acc, H D = some (.dK acc) ∧ SB K He Fr Hd ps m ow ts σ xs (hid H D) ∧ KP K (port He Hd) acc (mergeD [] L) ∧ acc.length ≤ L.length
theorem sod_turn {D : Addr} {L : List (Key × PyData)} {kx : Knd} {ky : Key} {d : PyData} {x : V} {Nx : Hp → Prop} (hj : j ∈ vs) (hF : Fr D = none)
    (hk : EE K tk ((wipeM m vs).set j (some kx)) ow (.v (kV ky)) ow) (he : ∃ k', pd k' = some d ∧ EE K tv ((wipeM m vs).set j (some kx)) ow k' ow) (hz : L.length < 1000000)
    (hx : ∀ Hd ps, SB K He Fr Hd ps m ow ts σ xs (hid H D) → KOk K (port He Hd) Hd ps x kx)
    (S : SoD K He Fr m ow ts σ xs D L H) (q : ∀ H', SoD K He Fr m ow ts σ xs D (L ++ [(ky, d)]) H' → Nx H') :
    gName j x (wipe σ vs) H fun σ2 H2 => wipe σ2 vs = wipe σ vs ∧ tYes σ2 H2 fun b H3 => if b = true then putS tk tv D σ2 H3 Nx else Nx H3 := by
  obtain ⟨Hd2, ps2, acc, hD2, S3, hacc, hal⟩ := S
  have hx := hx Hd2 ps2 S3
  obtain ⟨zs, hz1, hz2⟩ := hold S3.sv
  have S5 := (S3.lock hD2 rfl).tvs (prd_app (dpa_prd (ps := ps2) (kp_split hacc)) (prd_app hz1 S3.tv))
  have lz := PySem.Paired.length hz1
  have la : (acc.map (·.2)).length = ((mergeD [] L).map (·.2)).length := by rw [List.length_map, List.length_map, kp_len hacc]
  have S6 := (S5.wipe vs).store hx j
  refine ⟨wipe_again σ vs j _ hj, ?_⟩
  obtain ⟨k', hk', he⟩ := he
  refine hk He _ _ _ _ _ _ ⟨_, _, S6⟩ fun y H4 S8 => he He _ _ _ _ _ _ S8 fun z H5 ⟨Hd5, ps5, S9⟩ => ?_
  obtain ⟨hzv, S9⟩ := S9.pop
  obtain ⟨hyv, S9b⟩ := S9.pop
  cases (show y = kV ky from hyv)
  obtain ⟨e5, S10⟩ := S9b.unlock hF
  have la2 : (acc.map (·.2)).length = (((mergeD [] L).map (·.2)).map Knd.dat).length := by rw [la]; simp
  obtain ⟨t1, t2⟩ := prd_split la2 S10.tv
  obtain ⟨t3, t4⟩ := prd_split lz t2
  have S11 := (S10.svs (hz2 _ _ _ t3)).tvs t4
  have h5 := kp_join (kp_keys hacc) (of_dpa_prd t1)
  refine ⟨acc, ky, rfl, e5, by rw [sizeLine_eq]; omega, q _ ⟨Hd5, ps5, _, upd_same, by rw [hid_upd]; exact S11, ?_, ?_⟩⟩
  · rw [mergeD_snoc]
    exact kp_put h5 (pd_ok hzv hk') _
  · have e6 := kp_len (kp_put h5 (pd_ok hzv hk') ky)
    have e7 := putD_len (mergeD [] L) ky d
    have e8 := kp_len hacc
    rw [List.length_append, List.length_singleton]
    omega
theorem sod_inner {D : Addr} {L : List (Key × PyData)} {bs : List β} {embb : β → PyData} {ke : β → Key} {f : β → PyData} {k1 : Knd} {Nx : Hp → Prop} (hF : Fr D = none) (hl1 : EE K tl1 m ow k1 ow) (hs1 : seqOf ow k1 = some (fl1, bs.map embb))
    (hT : ∀ b ∈ bs, EE K tk ((wipeM m vs1).set j1 (some (ek fl1 (embb b)))) ow (.v (kV (ke b))) ow ∧ ∃ k', pd k' = some (f b) ∧ EE K tv ((wipeM m vs1).set j1 (some (ek fl1 (embb b)))) ow k' ow) (hj1 : j1 ∈ vs1) (hz : L.length + bs.length < 1000000)
    (S : SoD K He Fr m ow ts σ xs D L H) (q : ∀ H', SoD K He Fr m ow ts σ xs D (L ++ bs.map fun b => (ke b, f b)) H' → Nx H') :
    innS (iList K tl1) (gName j1) tYes tk tv vs1 D σ H Nx := by
  obtain ⟨Hd, ps, acc, hD, S, hacc, hal⟩ := S
  have la : (acc.map (·.2)).length = ((mergeD [] L).map (·.2)).length := by rw [List.length_map, List.length_map, kp_len hacc]
  have S3 := (S.lock hD rfl).tvs (prd_app (dpa_prd (ps := ps) (kp_split hacc)) S.tv)
  refine hl1 He _ _ _ _ H _ ⟨_, _, S3⟩ fun x1 H4 ⟨Hd4, ps4, S4⟩ => ?_
  obtain ⟨p, us, rfl, hsq, _⟩ := seq_ok S4 S4.pop.1 hs1
  refine ⟨p, rfl, ⟨us, hsq⟩, ?_⟩
  have back : SoD K He Fr m ow (k1 :: ts) σ (.ref p :: xs) D L H4 := by
    obtain ⟨e, S5⟩ := S4.unlock hF
    obtain ⟨h1, S6⟩ := S5.pop
    have la2 : (acc.map (·.2)).length = (((mergeD [] L).map (·.2)).map Knd.dat).length := by rw [la]; simp
    obtain ⟨t1, t2⟩ := prd_split la2 S6.tv
    exact ⟨_, _, acc, e, S6.tvs (.cons h1 t2), kp_join (kp_keys hacc) (of_dpa_prd t1), hal⟩
  refine ⟨fun i n H => n = bs.length - i ∧ i ≤ bs.length ∧ SoD K He Fr m ow (k1 :: ts) σ (.ref p :: xs) D (L ++ (bs.take i).map fun b => (ke b, f b)) H, ⟨_, rfl, Nat.zero_le _, by rw [List.take_zero]; simpa using back⟩, ?_⟩
  rintro i n H5 ⟨rfl, hi, S5⟩
  obtain ⟨Hd6, ps6, acc6, e1, S6, e2, _⟩ := id S5
  obtain ⟨p2, us2, e, hsq2, hd2⟩ := seq_ok S6 S6.pop.1 hs1
  cases e
  have hsq2 := (hid_sub H5 D).seq hsq2
  have hlen : us2.length = bs.length := by rw [dpa_len hd2, List.length_map]
  by_cases hlt : i < bs.length
  · have hb : bs[i]? = some bs[i] := List.getElem?_eq_getElem hlt
    refine .inr ⟨⟨us2, us2[i]'(by omega), hsq2, List.getElem?_eq_getElem (by omega)⟩, _, fun H' h => ⟨bs.length - (i + 1), by omega, rfl, hlt, h⟩, fun x H' hy => ?_⟩
    obtain ⟨rfl, hy⟩ := hy
    obtain ⟨hk, he⟩ := hT bs[i] (List.getElem_mem hlt)
    refine sod_turn hj1 hF hk he ?_ (fun Hd4 ps4 S4 => ?_) S5 fun H' h => ?_
    · rw [List.length_append, List.length_map, List.length_take]; omega
    · obtain ⟨p4, us4, e, hsq4, hd4⟩ := seq_ok S4 S4.pop.1 hs1
      cases e
      have hx := hy us4 ((hid_sub H' D).seq hsq4)
      obtain ⟨d, h1, h2⟩ := dpa_at hd4 hx
      rw [List.getElem?_map, hb] at h1
      cases h1
      exact ek_ok h2
    · rw [List.take_add_one, hb]
      rw [List.append_assoc] at h
      show SoD _ _ _ _ _ _ _ _ _ (L ++ (List.take i bs ++ [bs[i]]).map _) _
      rw [List.map_append]
      exact h
  · have e : i = bs.length := by omega
    subst e
    refine .inl ⟨⟨us2, hsq2, by omega⟩, q _ ?_⟩
    rw [List.take_length] at S5
    obtain ⟨Hd7, ps7, acc7, f1, S7, f2, f3⟩ := S5
    exact ⟨Hd7, ps7, acc7, f1, S7.pop.2, f2, f3⟩
/-- {k: v for i, x in enumerate(xs) for y in ys} -/
theorem ee_dc2E {j1 j2 j3 : Nat} {tl1 : TE} {vs vs1 : List Nat} (as : List α) (emb : α → PyData) (bs : Nat × α → List β) (embb : β → PyData) (ke : Nat × α → β → Key) (f : Nat × α → β → PyData) (hl : EA K ar m ow [k] ow1) (hs : seqOf ow1 k = some (fl, as.map emb))
    (hT : ∀ (i : Nat) (a : α), as[i]? = some a → (∃ k1, EE K tl1 ((((wipeM m vs).set j1 (some (.v (.int (i : Int)))))).set j2 (some (ek fl (emb a)))) ow1 k1 ow1 ∧ seqOf ow1 k1 = some (fl1, (bs (i, a)).map embb)) ∧ ∀ b ∈ bs (i, a),
      EE K tk ((wipeM ((((wipeM m vs).set j1 (some (.v (.int (i : Int)))))).set j2 (some (ek fl (emb a)))) vs1).set j3 (some (ek fl1 (embb b)))) ow1 (.v (kV (ke (i, a) b))) ow1 ∧ ∃ k', pd k' = some (f (i, a) b) ∧ EE K tv ((wipeM ((((wipeM m vs).set j1 (some (.v (.int (i : Int)))))).set j2 (some (ek fl (emb a)))) vs1).set j3 (some (ek fl1 (embb b)))) ow1 k' ow1)
    (h1 : j1 ∈ vs) (h2 : j2 ∈ vs) (h3 : j3 ∈ vs1) (hz : (((List.range as.length).zip as).flatMap fun p => (bs p).map fun b => (ke p b, f p b)).length < 1000000) :
    EE K (tDc2 (iEnum K ar) (gTup K 2 (gNs [j1, j2])) tYes (iList K tl1) (gName j3) tYes tk tv vs vs1) m ow (.own ow1.length) (ow1 ++ [.dic (mergeD [] (((List.range as.length).zip as).flatMap fun p => (bs p).map fun b => (ke p b, f p b)))]) := fun He Fr ts σ xs H Q S q =>
  hl He Fr ts σ xs H _ S fun ys H1 hyl ⟨Hd, ps, S1⟩ => by
    obtain ⟨y, rfl⟩ := one hyl
    obtain ⟨p, us, rfl, hsq, _⟩ := seq_ok S1 S1.pop.1 hs
    refine ⟨p, us, rfl, hsq, fun D hD => ?_⟩
    have hF := S1.noF hD
    have hid0 : ∀ o, hid (upd H1 D o) D = H1 := fun o => by
      funext a
      unfold hid upd
      split
      · subst_vars; exact hD.symm
      · rfl
    have zl : ((List.range as.length).zip as).length = as.length := by rw [List.length_zip, List.length_range, Nat.min_self]
    obtain ⟨g, hg⟩ : ∃ g : Nat × α → List (Key × PyData), g = fun p => (bs p).map fun b => (ke p b, f p b) := ⟨_, rfl⟩
    rw [← hg] at hz q
    refine ⟨fun i n H => n = as.length - i ∧ i ≤ as.length ∧ SoD K He Fr m ow1 (k :: ts) σ (.ref p :: xs) D (((((List.range as.length).zip as).take i)).flatMap g) H, ⟨_, rfl, Nat.zero_le _, Hd, ps, [], upd_same, by rw [hid0]; exact S1, .nil, Nat.le_refl _⟩, ?_⟩
    rintro i n H2 ⟨rfl, hi, S2⟩
    obtain ⟨Hd2, ps2, acc, hD2, S3, hacc, hal⟩ := id S2
    obtain ⟨p2, us2, e, hsq2, hd2⟩ := seq_ok S3 S3.pop.1 hs
    cases e
    have hsq2 := (hid_sub H2 D).seq hsq2
    have hlen : us2.length = as.length := by rw [dpa_len hd2, List.length_map]
    by_cases hlt : i < as.length
    · have ha : as[i]? = some as[i] := List.getElem?_eq_getElem hlt
      have hzi : ((List.range as.length).zip as)[i]? = some (i, as[i]) := by rw [List.getElem?_zip_eq_some]; exact ⟨by rw [List.getElem?_range hlt], ha⟩
      have est : (((List.range as.length).zip as).take (i + 1)).flatMap g = (((List.range as.length).zip as).take i).flatMap g ++ (bs (i, as[i])).map fun b => (ke (i, as[i]) b, f (i, as[i]) b) := by
        rw [List.take_add_one, hzi, List.flatMap_append]
        congr 1
        show [(i, as[i])].flatMap g = _
        rw [hg]; simp
      have ele : ((((List.range as.length).zip as).take i).flatMap g).length + (bs (i, as[i])).length < 1000000 := by
        have e1 : ((((List.range as.length).zip as).take i).flatMap g).length + (bs (i, as[i])).length = ((((List.range as.length).zip as).take (i + 1)).flatMap g).length := by rw [est, List.length_append, List.length_map]
        rw [e1]
        refine Nat.lt_of_le_of_lt ?_ hz
        have e2 : ((List.range as.length).zip as).flatMap g = (((List.range as.length).zip as).take (i + 1)).flatMap g ++ (((List.range as.length).zip as).drop (i + 1)).flatMap g := by rw [← List.flatMap_append, List.take_append_drop]
        rw [e2, List.length_append]; omega
      refine .inr ⟨⟨us2, us2[i]'(by omega), hsq2, List.getElem?_eq_getElem (by omega)⟩, _, fun H' h => ⟨as.length - (i + 1), by omega, rfl, hlt, h⟩, fun x H' hy => ?_⟩
      obtain ⟨T, x, rfl, hTn, rfl, hy⟩ := hy
      have hx := hy us2 hsq2
      obtain ⟨d, g1, g2⟩ := dpa_at hd2 hx
      rw [List.getElem?_map, ha] at g1
      cases g1
      refine ⟨T, [.int (i : Int), x], rfl, .inl (.inl upd_same), rfl, _, _, rfl, ?_⟩
      refine ⟨_, _, rfl, rfl, ?_⟩
      -- the turn
      have S4 := S3.grow (hid_grow (D := D) (o := .tup [.int (i : Int), x]) hTn)
      have hDT : D ≠ T := fun z => by rw [← z, hD2] at hTn; cases hTn
      have hD3 : upd H2 T (.tup [.int (i : Int), x]) D = some (.dK acc) := by rw [upd_ne hDT]; exact hD2
      obtain ⟨zs, hz1, hz2⟩ := hold S4.sv
      have lz := PySem.Paired.length hz1
      have S5 := S4.tvs (prd_app hz1 S4.tv)
      have S6 := ((S5.wipe vs).store (x := .int (i : Int)) (k := .v (.int (i : Int))) rfl j1).store (ek_ok g2) j2
      obtain ⟨⟨k1, hl1, hs1⟩, hT1⟩ := hT i as[i] ha
      refine ⟨by rw [wipe_set _ h2, wipe_set _ h1, wipe_wipe], ?_⟩
      refine yes_then ?_
      refine sod_inner (ke := ke (i, as[i])) (f := f (i, as[i])) hF hl1 hs1 hT1 h3 ele ⟨Hd2, ps2, acc, hD3, S6, hacc, hal⟩ fun H' S' => ?_
      obtain ⟨Hd7, ps7, acc7, f1, S7, f2, f3⟩ := S'
      obtain ⟨t3, t4⟩ := prd_split lz S7.tv
      rw [est]
      exact ⟨Hd7, ps7, acc7, f1, (S7.svs (hz2 _ _ _ t3)).tvs t4, f2, f3⟩
    · have e : i = as.length := by omega
      subst e
      refine .inl ⟨⟨us2, hsq2, by omega⟩, q _ _ ?_⟩
      rw [List.take_of_length_le (by rw [zl]; exact Nat.le_refl _)] at S2
      obtain ⟨Hd2, ps2, acc, hD2, S3, hacc, hal⟩ := S2
      have nD : Hd2 D = none := by
        cases z : Hd2 D with
        | none => rfl
        | some o => have := S3.dh _ _ z; rw [hid_at] at this; cases this
      have nP : D ∉ ps2 ++ kids ow1 := fun h => by obtain ⟨o, w⟩ := S3.inH h; rw [hid_at] at w; cases w
      have S4 := S3.grow (hid_sub H2 D)
      exact ⟨Hd2, _, (S4.pop.2).pushC (c0 := .dic (mergeD [] (((List.range as.length).zip as).flatMap g))) hF nP ⟨nD, acc, hD2, hacc⟩⟩
end
/-! ### (dict, list) -/
def lV (kvs : List (Int × Int)) : List (Key × V) := kvs.map fun p => (.inl p.1, .int p.2)
def lP (kvs : List (Int × Int)) : List (Key × PyData) := kvs.map fun p => (.inl p.1, .int p.2)
theorem kp_lP {K : PySem.W.Frag} {Hq : Hp} : ∀ kvs : List (Int × Int), KP K Hq (lV kvs) (lP kvs)
  | [] => .nil
  | p :: r => .cons ⟨rfl, .int _⟩ (kp_lP r)
theorem of_kp_lP {K : PySem.W.Frag} {Hq : Hp} : ∀ {kvs : List (Int × Int)} {vs : List (Key × V)}, KP K Hq vs (lP kvs) → vs = lV kvs
  | [], _, .nil => rfl
  | p :: r, v :: vs, .cons h t => by
    have e := of_kp_lP t
    obtain ⟨k, y⟩ := v
    obtain ⟨h1, h2⟩ := h
    have h1 : k = .inl p.1 := h1
    have h2 : Dp K Hq y (.int p.2) := h2
    cases h2
    subst h1
    rw [e]; rfl
def PuOk (H H' : Hp) (p1 p2 t : Addr) (kvs : List (Int × Int)) (ids : List Int) : Prop :=
  H' t = some (.tup [.ref p1, .ref p2]) ∧ H' p1 = some (.dK (lV kvs)) ∧ H' p2 = some (.lst (ids.map V.int)) ∧ p1 ≠ p2 ∧ H p1 = none ∧ H p2 = none
def spU {α : Type} (args : α → List PyData) (pre : α → Prop) (o1 : α → List (Int × Int)) (o2 : α → List Int) (K : PySem.W.Frag) : Sp := fun vs H Q _ => ∃ a, DpAll K H vs (args a) ∧ pre a ∧ ∀ p1 p2 t H', Same H H' → PuOk H H' p1 p2 t (o1 a) (o2 a) → Q (.ref t) H'
def PretU (kvs : List (Int × Int)) (ids : List Int) : Post := { nx := fun _ _ => False, rt := fun k ow => ∃ n j1 j2, k = .own n ∧ ow[n]? = some (.tpl [.own j1, .own j2]) ∧ ow[j1]? = some (.dic (lP kvs)) ∧ ow[j2]? = some (.lst (ids.map PyData.int)) ∧ j1 ≠ j2 }
section
variable {K : PySem.W.Frag} {m : Env'} {ow ow1 : List OC} {ks ts : List Knd} {α : Type} {args : α → List PyData} {pre : α → Prop} {o1 : α → List (Int × Int)} {o2 : α → List Int} {ar : TA} {E : XK} {He Fr Hd H H' : Hp} {ps : List Addr} {σ : L2.St} {xs : List V} {p1 p2 t : Addr} {kvs : List (Int × Int)} {ids : List Int}
theorem SB.resU (S : SB K He Fr Hd ps m ow ts σ xs H) (e : Same H H') (r : PuOk H H' p1 p2 t kvs ids) : ∃ Hd', SB K He Fr Hd' ((ps ++ [p1]) ++ [p2]) m (ow ++ [.dic (lP kvs), .lst (ids.map PyData.int)]) ts σ xs H' := by
  obtain ⟨r1, r2, r3, r4, r5, r6⟩ := r
  obtain ⟨Hd', S', _, e2, e3⟩ := frs_ext S e (Hf := fun _ => none) ⟨fun _ _ z => (by cases z), fun _ _ z => (by cases z)⟩
  have nP : ∀ x, H x = none → x ∉ ps ++ kids ow := fun x hx h => by obtain ⟨o, w⟩ := S.inH h; rw [hx] at w; cases w
  have S1 := (S'.pushC (c0 := .dic (lP kvs)) (S.noF r5) (nP _ r5) ⟨e3 p1 r5 rfl, _, r2, kp_lP _⟩).pop.2
  have ek : kids (ow ++ [OC.dic (lP kvs)]) = kids ow := by rw [kids_app, kids_one]; simp [kidC]
  have m2 : p2 ∉ (ps ++ [p1]) ++ kids (ow ++ [OC.dic (lP kvs)]) := fun h => by
    rw [ek] at h
    rcases List.mem_append.mp h with h | h
    · rcases List.mem_append.mp h with h | h
      · exact nP p2 r6 (List.mem_append_left _ h)
      · exact r4 (List.mem_singleton.mp h).symm
    · exact nP p2 r6 (List.mem_append_right _ h)
  have S2 := (S1.pushC (c0 := .lst (ids.map PyData.int)) (S.noF r6) m2 ⟨e3 p2 r6 rfl, _, r3, dpa_ints _⟩).pop.2
  have eo : (ow ++ [OC.dic (lP kvs)]) ++ [OC.lst (ids.map PyData.int)] = ow ++ [.dic (lP kvs), .lst (ids.map PyData.int)] := by simp
  rw [eo] at S2
  exact ⟨_, S2⟩
/-- a, b = f(..) -/
theorem ss_callU {i j : Nat} {P : Post} (a : α) (h : EA K ar m ow ks ow1) (ha : ads ow1 ks = some (args a)) (hp : pre a)
    (hq : P.nx ((m.set i (some (.own ow1.length))).set j (some (.own (ow1.length + 1)))) (ow1 ++ [.dic (lP (o1 a)), .lst ((o2 a).map PyData.int)])) :
    SS K (tAsg (tCall (spU args pre o1 o2 K) [] E ar) (gTup K 2 (gNs [i, j]))) m ow P := fun He Fr ts σ xs H D S F =>
  h He Fr ts σ xs H _ S fun ys H1 hl ⟨Hd, ps, S1⟩ => by
    obtain ⟨h1, S2⟩ := S1.args hl
    refine ⟨a, by rw [List.append_nil]; exact ads_ok S2 h1 ha, hp, fun p1 p2 t H' e r => ?_⟩
    obtain ⟨Hd', S4⟩ := S2.resU e r
    have l1 : ps.length = ow1.length := S2.pl
    have k1 : KOk K (port He Hd') Hd' ((ps ++ [p1]) ++ [p2]) (.ref p1) (.own ow1.length) := ⟨p1, by rw [List.getElem?_append_left (by simp; omega), ← l1, List.getElem?_append_right (Nat.le_refl _)]; simp, rfl⟩
    have k2 : KOk K (port He Hd') Hd' ((ps ++ [p1]) ++ [p2]) (.ref p2) (.own (ow1.length + 1)) := ⟨p2, by rw [← l1, List.getElem?_append_right (by simp)]; simp, rfl⟩
    refine ⟨t, [.ref p1, .ref p2], rfl, .inl (.inl r.1), rfl, ?_⟩
    exact store_all [i, j] rfl (.cons k1 (.cons k2 .nil)) S4 fun σ' S' => F.nx _ _ _ _ hq ⟨_, _, S'⟩
theorem fin_U {t : TS} {N : List Str} {vs : List V} {Q : VK} {H : Hp} (h : spU args pre o1 o2 K vs H Q E) (hS : ∀ a, pre a → SS K t (mst N (args a)) [] (PretU (o1 a) (o2 a))) : t { nx := fun _ H' => Q .non H', rt := Q } (start N vs) H := by
  obtain ⟨a, hd, hp, q⟩ := h
  have S0 : SB K H (fun _ => none) H [] (mst N (args a)) [] [] (start N vs) [] H :=
    ⟨Same.refl H, Same.refl H, fun _ _ z => (by cases z), fun _ _ z => (by cases z), fun _ z => (by cases z), List.nodup_nil, rfl, fun _ _ _ z => (by cases z), start_ok hd, .nil⟩
  refine hS a hp H _ [] _ [] H _ ⟨_, _, S0⟩ ⟨fun m ow σ H' e _ => e.elim, fun k m ow σ x H' hr ⟨Hd, ps, S⟩ => ?_, fun _ _ _ _ z => z.elim, fun _ _ _ _ z => z.elim, fun _ z => (by cases z)⟩
  obtain ⟨n, j1, j2, rfl, hn, h1, h2, d12⟩ := hr
  obtain ⟨hk, S'⟩ := S.pop
  have L : ∀ {j : Nat} {c : OC}, ow[j]? = some c → j < ps.length := fun h => by rw [S'.pl]; exact (List.getElem?_eq_some_iff.mp h).1
  obtain ⟨tp, ht, e⟩ := hk
  cases e
  obtain ⟨ws, t1, t2⟩ := S'.ok n tp _ ht hn
  obtain ⟨a1, g1⟩ : ∃ a1, ps[j1]? = some a1 := ⟨_, List.getElem?_eq_getElem (L h1)⟩
  obtain ⟨a2, g2⟩ : ∃ a2, ps[j2]? = some a2 := ⟨_, List.getElem?_eq_getElem (L h2)⟩
  obtain ⟨b1, ds, b2, b3⟩ := S'.ok j1 a1 _ g1 h1
  obtain ⟨c1, us, c2, c3⟩ := S'.ok j2 a2 _ g2 h2
  rw [of_dpa_ints c3] at c2
  rw [of_kp_lP b3] at b2
  have ew : ws = [.ref a1, .ref a2] := by
    cases t2 with
    | cons hx t => cases t with
      | cons hy t =>
        cases t
        obtain ⟨x1, y1, rfl⟩ := hx
        obtain ⟨x2, y2, rfl⟩ := hy
        rw [g1] at y1; cases y1
        rw [g2] at y2; cases y2
        rfl
  rw [ew] at t1
  have noD : ∀ x, Hd x = none → H x = none := fun x hd => by
    cases z : H x with
    | none => rfl
    | some u => rw [S.eh _ _ z] at hd; cases hd
  exact q a1 a2 tp _ (S.eh.trans S.dh) ⟨t1, b2, c2, S'.apart g2 g1 (fun e => d12 e.symm), noD _ b1, noD _ c1⟩
end
section
variable {P : Program} {w : World} {K : PySem.W.Frag} {mg : Str → Option Value} {base : Heap} {x qual : Str} {st : Stmt} {f : Addr} {fd : FuncData} {N ps : List Str} {k : Nat}
theorem ok_U {α : Type} {args : α → List PyData} {pre : α → Prop} {o1 : α → List (Int × Int)} {o2 : α → List Int} (F : Fun K x qual st f fd) (S : FnScope N ps (defScope st)) (hl : ∀ a, (args a).length = ps.length)
    (body : ∀ (cdv : Value) (A : Around) (outer : List Env) (s : Shared) (H : Hp) (E : XK), Rm k (A.deeper (envOfC qual (defScope st) s.heap.objs.size f cdv)) →
      ∃ t, PSs (cxOf CX0 P w K mg base N qual (defScope st) f cdv A outer s H E).nox (defBody st) t ∧ ∀ a, pre a → SS K t (mst N (args a)) [] (PretU (o1 a) (o2 a))) : FnG P w K mg base CX0 (k + 1) f fd ps (spU args pre o1 o2 K) := by
  refine fnG_of F S (fun vs H Q E h => ?_) fun cdv A outer s H vs Q E hr h => ?_
  · obtain ⟨a, h1, _⟩ := h
    rw [dpa_len h1, hl]
  · obtain ⟨t, h1, h2⟩ := body cdv A outer s H E hr
    exact ⟨t, h1.nox, fin_U h h2⟩
end
end LD

/-! [e for x in xs] with e one's own, over a list; len of a list of one's own objects. -/
namespace LD
open PySem PySem.Spec PyProof.Rows L2
theorem pe_bmK {X : Cx} {K : PySem.W.Frag} {o e : Expr} {es : List Expr} {to : TE} {t : TA} {name : Str} {apos cpos : Pos} {T id : String} {r : V → List V → Hp → VK → Prop} (hK : X.K = K) (pa : PlainAttrs T) (slot : Slot T name id) (hty : typeOf (.builtin id) = pure (.type "method_descriptor")) (hm : MtR X id r) (ho : PE X o to) (ha : PA X (e :: es) t)
    (hbase : attributeBase o name X.env (eval o X.env) = eval o X.env := by rfl)
    (hfew : ((backTo cpos (starEach (e :: es) X.env)).all (fun x => !x.1) && (backToKw cpos (keywordEach [] X.env)).all (fun x => x.1.isSome)
      && decide ((e :: es).length + ([] : List Keyword).length + (if ([] : List Keyword).isEmpty then 0 else 1) < 30)) = true := by rfl)
    (hline : (apos.endLine == cpos.line) = true := by rfl) (hs : starEach (e :: es) X.env = (false, eval e X.env) :: starEach es X.env := by rfl) (hplain : (backTo cpos (starEach es X.env)).any (·.1) = false := by rfl) :
    PE X (.Call (.Attribute o name apos) (e :: es) [] cpos) (tBM K T r to t) := hK ▸ pe_bm pa slot hty hm ho ha hbase hfew hline hs hplain
theorem mt_indexK {X : Cx} {K : PySem.W.Frag} (hK : X.K = K) : MtR X "list.index" (rIndex K) := hK ▸ mt_index
theorem call_loK {X : Cx} {K : PySem.W.Frag} (hK : X.K = K) : CallR X (.type "list") (rLo K) := hK ▸ call_lo
section
variable {K : PySem.W.Frag} {m : Env'} {ow : List OC} {tl te : TE} {tt : TT} {j n : Nat} {k : Knd} {ks : List Knd} {vs : List Nat} {fl : Bool} {α : Type}
theorem cc_lenG (h : ow[n]? = some (.gen (fun _ vs => HO.lst vs) ks)) : CC K (rLn K) m ow [.own n] (.v (.int (ks.length : Int))) ow := by
  rintro He Fr ts σ ys xs H Q hl ⟨Hd, ps, S⟩ q
  obtain ⟨y, rfl⟩ := one hl
  obtain ⟨p, vs, e1, rfl, e2, e3, _, e5⟩ := S.ownG S.pop.1 h
  exact ⟨p, vs, rfl, .inl (.inl (.inl e3)), by rw [PySem.Paired.length e5]; exact q _ H ⟨Hd, ps, S.pop.2.push rfl⟩⟩
/-- xs[a:b], the same items -/
theorem ee_sliceA {te : TE} {tl th : TO} {lo hi : Option Int} {ow1 ow2 ow3 : List OC} {ds : List PyData} (h : EE K te m ow k ow1) (h1 : EO K tl m ow1 lo ow2) (h2 : EO K th m ow2 hi ow3) (hs : seqOf ow3 k = some (fl, ds)) :
    EE K (tSl (rSlL K) te tl th) m ow (.arg (.list (cutD ds lo hi))) ow3 := fun He Fr ts σ xs H Q S q =>
  h He Fr ts σ xs H _ S fun x H1 S1 => h1 He Fr _ σ _ H1 _ S1 fun H2 S2 => h2 He Fr _ σ _ H2 _ S2 fun H3 ⟨Hd, ps, S3⟩ => by
    obtain ⟨p, vs, rfl, a, c⟩ := seq_ok S3 S3.pop.1 hs
    refine ⟨p, vs, rfl, a, fun q' hq => q _ _ (S3.pop.2.madeA hq (regA_sub (He := He) fl ?_))⟩
    unfold cutV cutD
    rw [dpa_len c]
    exact dpa_take _ (dpa_drop _ c)
/-- [e for x in xs], e one's own -/
theorem ee_lcLK (as : List α) (emb : α → PyData) (oW : Nat → List OC) (kS : Nat → List Knd) (hl : EE K tl m ow k (oW 0)) (hs : ∀ i, i ≤ as.length → seqOf (oW i) k = some (fl, as.map emb)) (h0 : kS 0 = [])
    (hT : ∀ i a, as[i]? = some a → EB K tt ((wipeM m vs).set j (some (ek fl (emb a)))) (oW i) true (oW i) ∧ ∃ k', EE K te ((wipeM m vs).set j (some (ek fl (emb a)))) (oW i) k' (oW (i + 1)) ∧ kS (i + 1) = kS i ++ [k'])
    (hj : j ∈ vs) (hz : ∀ a, a ≤ as.length → (kS a).length < 10000000) :
    EE K (tLc (iList K tl) (gName j) tt te vs) m ow (.own (oW as.length).length) (oW as.length ++ [.gen (fun _ vs => HO.lst vs) (kS as.length)]) := fun He Fr ts σ xs H Q S q =>
  hl He Fr ts σ xs H _ S fun x H1 ⟨Hd, ps, S1⟩ => by
    obtain ⟨p, us, rfl, hsq, _⟩ := seq_ok S1 S1.pop.1 (hs 0 (Nat.zero_le _))
    refine ⟨p, rfl, ⟨us, hsq⟩, fun D hD => ?_⟩
    have hF := S1.noF hD
    refine ⟨fun i n H => n = as.length - i ∧ i ≤ as.length ∧ SoFarK K He Fr m (oW i) (k :: ts) σ (.ref p :: xs) D (kS i) H, ⟨_, rfl, Nat.zero_le _, by rw [h0]; exact lck_begin S1 hD⟩, ?_⟩
    rintro i n H2 ⟨rfl, hi, S2⟩
    obtain ⟨Hd2, ps2, acc, e1, S3, e2⟩ := id S2
    obtain ⟨p2, us2, e, hsq2, hd2⟩ := seq_ok S3 S3.pop.1 (hs i hi)
    cases e
    have hsq2 := (hid_sub H2 D).seq hsq2
    have hlen : us2.length = as.length := by rw [dpa_len hd2, List.length_map]
    by_cases hlt : i < as.length
    · have ha : as[i]? = some as[i] := List.getElem?_eq_getElem hlt
      refine .inr ⟨⟨us2, us2[i]'(by omega), hsq2, List.getElem?_eq_getElem (by omega)⟩, _, fun H' h => ⟨as.length - (i + 1), by omega, rfl, hlt, h⟩, fun x H' hy => ?_⟩
      obtain ⟨rfl, hy⟩ := hy
      obtain ⟨h1, k', h2, h3⟩ := hT i as[i] ha
      refine lck_turn hj hF h1 h2 (hz i hi) (fun Hd4 ps4 S4 => ?_) S2 fun H' h => ?_
      · obtain ⟨p4, us4, e, hsq4, hd4⟩ := seq_ok S4 S4.pop.1 (hs i hi)
        cases e
        have hx := hy us4 ((hid_sub H' D).seq hsq4)
        obtain ⟨d, g1, g2⟩ := dpa_at hd4 hx
        rw [List.getElem?_map, ha] at g1
        cases g1
        exact ek_ok g2
      · rw [h3]; exact h
    · have e : i = as.length := by omega
      subst e
      refine .inl ⟨⟨us2, hsq2, by omega⟩, q _ _ ?_⟩
      obtain ⟨Hd5, ps5, S5⟩ := lck_end S2 hF
      obtain ⟨g1, g2⟩ := S5.pop
      exact ⟨Hd5, ps5, g2.pop.2.push g1⟩
end
/-! ### dicts with the same pairs, the values data -/
section
variable {X : Cx}
def rEqDD (K : PySem.W.Frag) : R2 := fun x y H Q => ∃ a b ks ls, x = .ref a ∧ y = .ref b ∧ H a = some (.dK ks) ∧ H b = some (.dK ls) ∧ ks.length = ls.length ∧ (∀ p ∈ ks, ∃ v d, valV ls p.1 = some v ∧ Dp K H p.2 d ∧ Dp K H v d ∧ SeqAt.shaped d = true ∧ PyData.eqv d d = true) ∧ Q (.bl true) H
theorem hits_allD {pins : List (Addr × Obj)} {σ : L2.St} {H : Hp} {s : Shared} {A : Around} (I : Inv X pins σ H s) (hu : A.units + 65 < cLine) {kvs : List (Key × V)} {vb : List (Key × Value)} (rb : KV kvs vb) {ks : List (Key × V)} {va : List (Key × Value)} (ra : KV ks va) :
    (∀ p ∈ ks, ∃ v d, valV kvs p.1 = some v ∧ Dp X.K H p.2 d ∧ Dp X.K H v d ∧ SeqAt.shaped d = true ∧ PyData.eqv d d = true) → PySem.W.KeqHits A.in1 s vb va true := by
  unfold KV at ra
  induction ra with
  | nil => intro _; exact .nil
  | @cons p q ps qs h t ih =>
    intro hp
    obtain ⟨h1, h2⟩ := h
    obtain ⟨w, d, e, d1, d2, sh, ee⟩ := hp p List.mem_cons_self
    have rr : RelO (some w) (valueAt vb p.1) := by rw [← e]; exact rb.val p.1
    obtain ⟨y, hy, ry⟩ := rr.some_of
    obtain ⟨k, v⟩ := q
    have h1' : p.1 = k := h1
    rw [h1'] at hy
    obtain ⟨as, r1⟩ := Dp.reads I d _ _ d1 h2
    obtain ⟨bs, r2⟩ := Dp.reads I d _ _ d2 ry
    have q := PySem.W.keq_at (A := A) r1 r2 sh sh (by show A.units + 1 + 64 < cLine; omega)
    rw [ee] at q
    show PySem.W.KeqHits A.in1 s vb ((k, v) :: qs) (true && true)
    exact .hit hy q (ih fun p' hm => hp p' (List.mem_cons_of_mem _ hm))
theorem op_eqDD (hu : X.A.units + 65 < cLine) : OpR X (compareOp .Eq) (rEqDD X.K) := by
  intro pins s σ H x y v u Q I rx ry h
  obtain ⟨a, b, ks, ls, rfl, rfl, ea, eb, hlen, hp, q⟩ := h
  obtain rfl : v = Value.ref a := rx
  obtain rfl : u = Value.ref b := ry
  obtain ⟨_, ya, va, ra, da⟩ := (show ObjOk X.prog X.w H s.heap a (.dK ks) from I.hok a _ ea)
  obtain ⟨_, yb, vb, rb, db⟩ := (show ObjOk X.prog X.w H s.heap b (.dK ls) from I.hok b _ eb)
  have hl : va.length = vb.length := by rw [← ra.length, ← rb.length]; exact hlen
  exact PySem.W.keq_eq (knd := mixKind X.prog X.w) (r := true) ya yb da db (by omega) (fun _ => hits_allD I hu rb ra hp) (fin_bl I q (by simp [hl]))
theorem op_eqDDK {K : PySem.W.Frag} (hK : X.K = K) (hu : X.A.units + 65 < cLine) : OpR X (compareOp .Eq) (rEqDD K) := hK ▸ op_eqDD hu
end
section
variable {K : PySem.W.Frag} {m : Env'} {ow : List OC} {kvs ls : List (Key × PyData)}
theorem rr_eqDD {n n2 : Nat} (h1 : ow[n]? = some (.dic kvs)) (h2 : ow[n2]? = some (.dic ls)) (hl : kvs.length = ls.length) (hp : ∀ kv ∈ kvs, valD ls kv.1 = some kv.2 ∧ SeqAt.shaped kv.2 = true ∧ PyData.eqv kv.2 kv.2 = true) : RR K (rEqDD K) m ow (.own n) (.own n2) (.v (.bl true)) ow := by
  rintro He Fr ts σ x y xs H Q ⟨Hd, ps, S⟩ q
  obtain ⟨p2, us, _, rfl, _, e2, e3⟩ := S.ownD S.pop.1 h2
  obtain ⟨p1, vs, _, rfl, _, e5, e6⟩ := S.pop.2.ownD S.pop.2.pop.1 h1
  refine ⟨p1, p2, vs, us, rfl, rfl, e5, e2, by rw [kp_len e6, kp_len e3, hl], fun v hv => ?_, q _ H ⟨Hd, ps, S.pop.2.pop.2.push rfl⟩⟩
  obtain ⟨i, hi⟩ := List.mem_iff_getElem?.mp hv
  have hi2 := (List.getElem?_eq_some_iff.mp hi).1
  have hk : kvs[i]? = some (kvs[i]'(by rw [← kp_len e6]; exact hi2)) := List.getElem?_eq_getElem _
  obtain ⟨v', g1, g2, g3⟩ := prd_get e6 hk
  rw [hi] at g1
  cases g1
  obtain ⟨f1, f2, f3⟩ := hp _ (List.mem_of_getElem? hk)
  obtain ⟨z, z1, z2⟩ := kp_get e3 f1
  exact ⟨z, _, by rw [g2]; exact z1, dp_mono S.sub g3, dp_mono S.sub z2, f2, f3⟩
/-- xs != [], xs a list of lists of one's own -/
theorem rr_neNT {n : Nat} {k2 : Knd} {f2 : Bool} {qs : List Addr} {lss : List (List PyData)} (h1 : ow[n]? = some (.tr qs lss)) (h2 : seqOf ow k2 = some (f2, [])) : RR K (rNeN K) m ow (.own n) k2 (.v (.bl (!qs.isEmpty))) ow := by
  rintro He Fr ts σ x y xs H Q ⟨Hd, ps, S⟩ q
  obtain ⟨p2, us, rfl, a2, c2⟩ := seq_ok S S.pop.1 h2
  obtain ⟨p1, e1, rfl, e3, e4, _, _⟩ := S.pop.2.ownT S.pop.2.pop.1 h1
  cases c2
  exact ⟨p1, p2, qs.map V.ref, rfl, rfl, .inl (.inl e4), a2, by rw [List.isEmpty_map]; exact q _ H ⟨Hd, ps, S.pop.2.pop.2.push rfl⟩⟩
end
end LD

/-! [e for x in range(n)], e with several possible results that change what is there. -/
namespace LD
open PySem PySem.Spec PyProof.Rows L2
section
variable {K : PySem.W.Frag} {He Fr H : Hp} {m : Env'} {ow ow0 : List OC} {ts : List Knd} {σ : L2.St} {xs : List V} {ar : TA} {te : TE} {i : Int} {n j : Nat} {vs : List Nat} {X : Knd → List OC → Prop}
theorem lcx_turn {D : Addr} {ds : List PyData} {x : V} {kx : Knd} {Nx : Hp → Prop} (hj : j ∈ vs) (hF : Fr D = none) (he : EX K te ((wipeM m vs).set j (some kx)) ow X) (hz : ds.length < 10000000)
    (hx : ∀ Hd ps, SB K He Fr Hd ps m ow ts σ xs (hid H D) → KOk K (port He Hd) Hd ps x kx)
    (S : SoFar K He Fr m ow ts σ xs D ds H) (q : ∀ k ow2, X k ow2 → ∃ d, pd k = some d ∧ ∀ H', SoFar K He Fr m ow2 ts σ xs D (ds ++ [d]) H' → Nx H') :
    gName j x (wipe σ vs) H fun σ2 H2 => wipe σ2 vs = wipe σ vs ∧ tYes σ2 H2 fun b H3 => if b = true then te σ2 H3 fun y H4 => ∃ acc, H4 D = some (.lst acc) ∧ acc.length < sizeLine ∧ Nx (upd H4 D (.lst (acc ++ [y]))) else Nx H3 := by
  obtain ⟨Hd, ps, acc, hD, S, hacc⟩ := S
  obtain ⟨zs, hz1, hz2⟩ := hold S.sv
  have hx := hx Hd ps S
  have S1 := (S.lock hD rfl).tvs (prd_app (dpa_prd (ps := ps) hacc) (prd_app hz1 S.tv))
  have lz := PySem.Paired.length hz1
  have la := dpa_len hacc
  have S2 := (S1.wipe vs).store hx j
  refine ⟨wipe_again σ vs j _ hj, ?_⟩
  refine yes_then ?_
  refine he He _ _ _ _ _ _ ⟨_, _, S2⟩ fun k' ow2 y H4 hX ⟨Hd4, ps4, S4⟩ => ?_
  obtain ⟨d, hk', q⟩ := q k' ow2 hX
  obtain ⟨hy, S4⟩ := S4.pop
  obtain ⟨e, S5⟩ := S4.unlock hF
  obtain ⟨t1, t2⟩ := prd_split (by rw [List.length_map]; exact la) S5.tv
  obtain ⟨t3, t4⟩ := prd_split lz t2
  exact ⟨acc, e, by rw [la, sizeLine_eq]; omega, q _ ⟨Hd4, ps4, acc ++ [y], upd_same, by rw [hid_upd]; exact (S5.svs (hz2 _ _ _ t3)).tvs t4, dpa_app (of_dpa_prd t1) (.cons (pd_ok hy hk') .nil)⟩⟩
theorem ex_lcRI (b : Bool) (I : Nat → List PyData → List OC → Prop) (hl : EA K ar m ow [.v (.int i)] ow0) (hn : i = (n : Int)) (h0 : I 0 [] ow0)
    (hT : ∀ a ds ow', a < n → I a ds ow' → EX K te ((wipeM m vs).set j (some (.v (.int (a : Int))))) ow' (fun k ow2 => ∃ d, pd k = some d ∧ I (a + 1) (ds ++ [d]) ow2)) (hj : j ∈ vs) (hz : n < 10000000) :
    EX K (tLc (iRng1 ar) (gName j) tYes te vs) m ow (fun k ow' => ∃ ds ow2, I n ds ow2 ∧ k = newK b ow2 ds ∧ ow' = newO b ow2 ds) := fun He Fr ts σ xs H Q S q =>
  hl He Fr ts σ xs H _ S fun ys H1 hyl ⟨Hd, ps, S0⟩ => by
    obtain ⟨hp, S1⟩ := S0.args hyl
    obtain ⟨y, rfl⟩ := one hyl
    subst hn
    cases hp with
    | cons hy _ =>
    have hy : y = .int n := hy
    subst hy
    refine ⟨n, rfl, by omega, by omega, fun D hD => ?_⟩
    have hF := S1.noF hD
    refine ⟨fun a k H => k = n - a ∧ a ≤ n ∧ ∃ ds ow', I a ds ow' ∧ ds.length = a ∧ SoFar K He Fr m ow' ts σ xs D ds H, ⟨_, rfl, Nat.zero_le _, [], ow0, h0, rfl, lc_begin S1 hD⟩, ?_⟩
    rintro a k H2 ⟨rfl, hi, ds, ow', hI, hlen, S2⟩
    by_cases hlt : a < n
    · refine .inr ⟨by show a < (n : Int).toNat; omega, _, fun H' h => ⟨n - (a + 1), by omega, rfl, hlt, h⟩, fun x H' hy => ?_⟩
      obtain ⟨rfl, rfl⟩ := hy
      refine lcx_turn hj hF (hT a ds ow' hlt hI) (by omega) (fun Hd4 ps4 S4 => ?_) S2 fun k ow2 ⟨d, hd, hI2⟩ => ⟨d, hd, fun H' h => ⟨ds ++ [d], ow2, hI2, by rw [List.length_append, hlen]; rfl, h⟩⟩
      show V.int (0 + (a : Int)) = V.int (a : Int)
      rw [Int.zero_add]
    · have e : a = n := by omega
      subst e
      exact .inl ⟨by show (a : Int).toNat ≤ a; omega, q _ _ _ _ ⟨ds, ow', hI, rfl, rfl⟩ (lc_end b S2)⟩
end
section
variable {K : PySem.W.Frag} {m : Env'} {ow : List OC} {P : Post} {te : TE} {c1 c2 : TT} {t u : TS} {X : Knd → List OC → Prop} {b c : Bool}
/-- if t1 and t2 and not e: .. -/
theorem ss_ifAANX (hA : EB K c1 m ow b ow) (hB : b = true → EB K c2 m ow c ow) (h : b = true → c = true → ∃ X : Knd → List OC → Prop, EX K te m ow X ∧ ∀ k ow1, X k ow1 → k = .v (.bl true) ∧ SS K u m ow1 P) (hu : SS K u m ow P) : SS K (tIfS (tAnd c1 (tAnd c2 (tNot (tB te)))) t u) m ow P := fun He Fr ts σ xs H D S F =>
  hA He Fr ts σ xs H _ S fun H1 S1 => by
    cases b with
    | false =>
      rw [if_neg Bool.false_ne_true]
      show (if false = true then _ else _)
      rw [if_neg Bool.false_ne_true]
      exact hu He Fr ts σ xs H1 D S1 F
    | true =>
      rw [if_pos rfl]
      refine hB rfl He Fr ts σ xs H1 _ S1 fun H2 S2 => ?_
      cases c with
      | false =>
        rw [if_neg Bool.false_ne_true]
        show (if false = true then _ else _)
        rw [if_neg Bool.false_ne_true]
        exact hu He Fr ts σ xs H2 D S2 F
      | true =>
        rw [if_pos rfl]
        obtain ⟨X, h, hX⟩ := h rfl rfl
        refine h He Fr ts σ xs H2 _ S2 fun k ow' x H3 hx S3 => ?_
        obtain ⟨rfl, hu⟩ := hX k ow' hx
        refine ⟨true, S3.top, ?_⟩
        show (if (!true) = true then _ else _)
        rw [if_neg (by decide)]
        exact hu He Fr ts σ xs H3 D S3.drop F
end
end LD

namespace My
open PySem PySem.Spec PyProof.Rows L2 LD
def topS (i : Nat) : Stmt := PySem.Challenge.pw_lateids_k33_sure_order_of_ids.main.body.getD i (.Pass ⟨0, 0, 0, 0⟩)
abbrev s_is_integer : Stmt := topS 9
theorem sc_is_integer : FnScope ["value"] ["value"] (defScope s_is_integer) := ⟨rfl, rfl, rfl, by decide +kernel, rfl, by decide +kernel, by decide +kernel⟩
abbrev s_returned_by : Stmt := topS 20
theorem sc_returned_by : FnScope ["log", "rows", "row"] ["log"] (defScope s_returned_by) := ⟨rfl, rfl, rfl, by decide +kernel, rfl, by decide +kernel, by decide +kernel⟩
abbrev s_blocks_of : Stmt := topS 22
theorem sc_blocks_of : FnScope ["log", "ids", "end", "polls", "cursors", "rows", "found", "row", "number", "cursor"] ["log", "ids"] (defScope s_blocks_of) := ⟨rfl, rfl, rfl, by decide +kernel, rfl, by decide +kernel, by decide +kernel⟩
abbrev s_bag : Stmt := topS 26
theorem sc_bag : FnScope ["_law_script", "_law_index", "_law_mixed", "_law_cell"] ["_law_script", "_law_index"] (defScope s_bag) := ⟨rfl, rfl, rfl, by decide +kernel, rfl, by decide +kernel, by decide +kernel⟩
abbrev s_take : Stmt := topS 27
theorem sc_take : FnScope ["_law_bag_here", "_law_size", "_law_found", "_law_wide"] ["_law_bag_here", "_law_size"] (defScope s_take) := ⟨rfl, rfl, rfl, by decide +kernel, rfl, by decide +kernel, by decide +kernel⟩
abbrev s_parts : Stmt := topS 29
theorem sc_parts : FnScope ["_law_log_here", "_law_ids", "_law_lost", "_law_still", "_law_one", "_law_passed", "_law_poll", "_law_returned"] ["_law_log_here", "_law_ids"] (defScope s_parts) := ⟨rfl, rfl, rfl, by decide +kernel, rfl, by decide +kernel, by decide +kernel⟩
abbrev s_is_between : Stmt := topS 10
theorem sc_is_between : FnScope ["value", "low", "high"] ["value", "low", "high"] (defScope s_is_between) := ⟨rfl, rfl, rfl, by decide +kernel, rfl, by decide +kernel, by decide +kernel⟩
abbrev s_unknown_id : Stmt := topS 21
theorem sc_unknown_id : FnScope ["log", "ids", "row"] ["log", "ids"] (defScope s_unknown_id) := ⟨rfl, rfl, rfl, by decide +kernel, rfl, by decide +kernel, by decide +kernel⟩
abbrev s_p_check_one_of : Stmt := topS 24
theorem sc_p_check_one_of : FnScope ["ids", "row"] ["ids", "row"] (defScope s_p_check_one_of) := ⟨rfl, rfl, rfl, by decide +kernel, rfl, by decide +kernel, by decide +kernel⟩
abbrev s_log : Stmt := topS 28
theorem sc_log : FnScope ["_law_bag_here", "_law_most", "_law_polls", "_law_wide", "_law_rare", "_law_log_here", "_law_ids", "_law_here", "_law_lists", "_law_room", "_law_poll", "_law_turn"] ["_law_bag_here", "_law_most", "_law_polls"] (defScope s_log) := ⟨rfl, rfl, rfl, by decide +kernel, rfl, by decide +kernel, by decide +kernel⟩
abbrev s_drawn_order : Stmt := topS 30
theorem sc_drawn_order : FnScope ["_law_bag_here", "_law_log_here", "_law_ids", "_law_lost", "_law_still", "_law_lists", "_law_found", "_law_first", "_law_free", "_law_one", "_law_returned", "_law_spot"] ["_law_bag_here", "_law_log_here", "_law_ids"] (defScope s_drawn_order) := ⟨rfl, rfl, rfl, by decide +kernel, rfl, by decide +kernel, by decide +kernel⟩
abbrev s_ends : Stmt := topS 31
theorem sc_ends : FnScope ["_law_log_here", "_law_ids", "_law_one", "_law_lost", "_law_still", "_law_own", "_law_poll", "_law_returned"] ["_law_log_here", "_law_ids", "_law_one"] (defScope s_ends) := ⟨rfl, rfl, rfl, by decide +kernel, rfl, by decide +kernel, by decide +kernel⟩
abbrev s_is_id : Stmt := topS 11
theorem sc_is_id : FnScope ["value"] ["value"] (defScope s_is_id) := ⟨rfl, rfl, rfl, by decide +kernel, rfl, by decide +kernel, by decide +kernel⟩
abbrev s_is_order : Stmt := topS 12
theorem sc_is_order : FnScope ["value", "row"] ["value"] (defScope s_is_order) := ⟨rfl, rfl, rfl, by decide +kernel, rfl, by decide +kernel, by decide +kernel⟩
abbrev s_are_ids : Stmt := topS 13
theorem sc_are_ids : FnScope ["value"] ["value"] (defScope s_are_ids) := ⟨rfl, rfl, rfl, by decide +kernel, rfl, by decide +kernel, by decide +kernel⟩
abbrev s_check_ids : Stmt := topS 14
theorem sc_check_ids : FnScope ["ids"] ["ids"] (defScope s_check_ids) := ⟨rfl, rfl, rfl, by decide +kernel, rfl, by decide +kernel, by decide +kernel⟩
abbrev s_is_log : Stmt := topS 17
theorem sc_is_log : FnScope ["value", "rows"] ["value"] (defScope s_is_log) := ⟨rfl, rfl, rfl, by decide +kernel, rfl, by decide +kernel, by decide +kernel⟩
abbrev s_check_log : Stmt := topS 19
theorem sc_check_log : FnScope ["log"] ["log"] (defScope s_check_log) := ⟨rfl, rfl, rfl, by decide +kernel, rfl, by decide +kernel, by decide +kernel⟩
abbrev s_p_check_fitting : Stmt := topS 23
theorem sc_p_check_fitting : FnScope ["log", "ids", "row"] ["log", "ids"] (defScope s_p_check_fitting) := ⟨rfl, rfl, rfl, by decide +kernel, rfl, by decide +kernel, by decide +kernel⟩
abbrev s_surely_ahead : Stmt := topS 18
theorem sc_surely_ahead : FnScope ["log", "ids", "one", "other", "found"] ["log", "ids", "one", "other"] (defScope s_surely_ahead) := ⟨rfl, rfl, rfl, by decide +kernel, rfl, by decide +kernel, by decide +kernel⟩
abbrev s_right : Stmt := topS 32
theorem sc_right : FnScope ["_law_bag_here", "_law_log_here", "_law_ids", "_law_kept", "_law_orders", "_law_turn", "_law_one", "_law_other", "_law_due", "_law_wrong", "_law_order"] ["_law_bag_here", "_law_log_here", "_law_ids"] (defScope s_right) := ⟨rfl, rfl, rfl, by decide +kernel, rfl, by decide +kernel, by decide +kernel⟩
abbrev s_law : Stmt := topS 33
theorem sc_law : FnScope ["_law_script", "_law_index", "_law_bag_here", "_law_most", "_law_log_here", "_law_ids", "_law_one", "_law_other"] ["_law_script"] (defScope s_law) := ⟨rfl, rfl, rfl, by decide +kernel, rfl, by decide +kernel, by decide +kernel⟩
/-- what the top has written -/
structure Txt (K : PySem.W.Frag) (mg : Str → Option Value) : Prop where
  n_abs : mg "abs" = none
  n_all : mg "all" = none
  n_bool : mg "bool" = none
  n_enumerate : mg "enumerate" = none
  n_int : mg "int" = none
  n_isinstance : mg "isinstance" = none
  n_len : mg "len" = none
  n_list : mg "list" = none
  n_max : mg "max" = none
  n_min : mg "min" = none
  n_range : mg "range" = none
  n_repr : mg "repr" = none
  n_set : mg "set" = none
  n_sorted : mg "sorted" = none
  k_GREATEST_ID : ∃ t, mg "GREATEST_ID" = some (.int 1000000000000000000000000000000 t)
  k_MOST_IDS : ∃ t, mg "MOST_IDS" = some (.int 30 t)
  k_MOST_LISTS : ∃ t, mg "MOST_LISTS" = some (.int 12 t)
  d_is_integer : Def K mg "is_integer" s_is_integer ["value"]
  d_returned_by : Def K mg "returned_by" s_returned_by ["log"]
  d_blocks_of : Def K mg "blocks_of" s_blocks_of ["log", "ids"]
  d_bag : Def K mg "_law_bag" s_bag ["_law_script", "_law_index"]
  d_take : Def K mg "_law_take" s_take ["_law_bag_here", "_law_size"]
  d_parts : Def K mg "_law_parts" s_parts ["_law_log_here", "_law_ids"]
  d_is_between : Def K mg "is_between" s_is_between ["value", "low", "high"]
  d_unknown_id : Def K mg "unknown_id" s_unknown_id ["log", "ids"]
  d_p_check_one_of : Def K mg "_check_one_of" s_p_check_one_of ["ids", "row"]
  d_log : Def K mg "_law_log" s_log ["_law_bag_here", "_law_most", "_law_polls"]
  d_drawn_order : Def K mg "_law_drawn_order" s_drawn_order ["_law_bag_here", "_law_log_here", "_law_ids"]
  d_ends : Def K mg "_law_ends" s_ends ["_law_log_here", "_law_ids", "_law_one"]
  d_is_id : Def K mg "is_id" s_is_id ["value"]
  d_is_order : Def K mg "is_order" s_is_order ["value"]
  d_are_ids : Def K mg "are_ids" s_are_ids ["value"]
  d_check_ids : Def K mg "check_ids" s_check_ids ["ids"]
  d_is_log : Def K mg "is_log" s_is_log ["value"]
  d_check_log : Def K mg "check_log" s_check_log ["log"]
  d_p_check_fitting : Def K mg "_check_fitting" s_p_check_fitting ["log", "ids"]
  d_surely_ahead : Def K mg "surely_ahead" s_surely_ahead ["log", "ids", "one", "other"]
  d_right : Def K mg "_law_right" s_right ["_law_bag_here", "_law_log_here", "_law_ids"]
  d_law : Def K mg "law" s_law ["_law_script"]
/-! ### what the checks say -/
def isI : PyData → Bool
  | .int _ => true
  | _ => false
/-- of any kind -/
def noD (d : PyData) : Prop := ∀ kvs : List (PyData × PyData), d = .dict kvs → True
def inB (d : PyData) (lo hi : Int) : Bool := match d with
  | .int i => decide (lo ≤ i) && decide (i ≤ hi)
  | _ => false
def gId : Int := 1000000000000000000000000000000
theorem gId_eq : gId = 10 ^ 30 := by decide
/-- an order: at most 30 different ids -/
structure OkO (ns : List Int) : Prop where
  len : ns.length ≤ 30
  ids : ∀ n ∈ ns, 1 ≤ n ∧ n ≤ gId
  nd : ns.Nodup
def lI (ns : List Int) : PyData := .list (ns.map PyData.int)
theorem gId_log {i : Int} (h0 : 0 ≤ i) (h1 : i ≤ gId) : i.natAbs.log2 < 1920 := log_lt (a := 120) (by
  have e : (2 : Nat) ^ 120 = 1329227995784915872903807060280344576 := by decide
  have g : gId = 1000000000000000000000000000000 := rfl
  omega) (by decide) (by decide)
theorem idx_ok {l : List Int} {x : Int} (h : x ∈ l) (nd : l.Nodup) : l[l.idxOf x]? = some x ∧ ∀ j < l.idxOf x, l[j]? ≠ some x := by
  have hl := List.idxOf_lt_length_of_mem h
  refine ⟨by rw [List.getElem?_eq_getElem hl, List.getElem_idxOf], fun j hj e => ?_⟩
  obtain ⟨a, b⟩ := List.getElem?_eq_some_iff.mp e
  have := (List.getElem_inj nd).mp (b.trans (List.getElem_idxOf hl).symm)
  omega
theorem OkO.perm {l k : List Int} (h : OkO l) (p : k.Perm l) : OkO k := ⟨by rw [p.length_eq]; exact h.len, fun n hn => h.ids n (p.mem_iff.mp hn), p.nodup_iff.mpr h.nd⟩
theorem OkO.rep {l : List Int} (h : OkO l) : repOk (lI l) := rep_ints (fun n hn => gId_log (by have := (h.ids n hn).1; omega) (h.ids n hn).2) (by have := h.len; omega)
theorem OkO.sub {l k : List Int} (h : OkO l) (s : k.Sublist l) : OkO k := ⟨Nat.le_trans s.length_le h.len, fun n hn => h.ids n (s.subset hn), h.nd.sublist s⟩
theorem OkO.top {l : List Int} (h : OkO l) : 0 ≤ mxd l 0 ∧ mxd l 0 ≤ gId := by
  by_cases e : l = []
  · subst e; decide
  · have := h.ids _ (mxd_mem (d := 0) e)
    omega
theorem mxd_snoc {l : List Int} {x : Int} (h : ∀ y ∈ l, 1 ≤ y) (hx : 1 ≤ x) : mxd (l ++ [x]) 0 = if mxd l 0 < x then x else mxd l 0 := by
  have hm : ∀ y ∈ l ++ [x], y ∈ l ∨ y = x := fun y hy => by simpa using hy
  split
  · rename_i h1
    exact (mxd_eq (by simp) fun y hy => (hm y hy).elim (fun z => by have := mxd_le (d := 0) z; omega) fun z => by omega).symm
  · rename_i h1
    have e : l ≠ [] := fun e => by subst e; exact h1 (by show (0 : Int) < x; omega)
    exact (mxd_eq (by have := mxd_mem (d := 0) e; simp [this]) fun y hy => (hm y hy).elim (fun z => mxd_le z) fun z => by omega).symm
theorem take_snoc {l : List Int} {j : Nat} {x : Int} (h : l[j]? = some x) : l.take (j + 1) = l.take j ++ [x] := by
  rw [List.take_add_one, h]; rfl
/-- the tops of the moments 0 to i -/
def tpsN (os : List Int) (i : Nat) : List Int := (List.range (i + 1)).map fun p => mxd (os.take p) 0
def tps (os : List Int) : List Int := tpsN os os.length
theorem tps_at {os : List Int} {p : Nat} (h : p ≤ os.length) : (tps os)[p]? = some (mxd (os.take p) 0) := by
  unfold tps tpsN
  rw [List.getElem?_map, List.getElem?_range (by omega)]; rfl
theorem tps_len (os : List Int) : (tps os).length = os.length + 1 := by unfold tps tpsN; rw [List.length_map, List.length_range]
theorem tpsN_succ (os : List Int) (i : Nat) : tpsN os (i + 1) = tpsN os i ++ [mxd (os.take (i + 1)) 0] := by
  unfold tpsN
  rw [List.range_succ, List.map_append]; rfl
theorem tpsN_last (os : List Int) (i : Nat) : atI ((tpsN os i).map PyData.int) (-1) = some (.int (mxd (os.take i) 0)) := by
  have hl : ((tpsN os i).map PyData.int).length = i + 1 := by unfold tpsN; rw [List.length_map, List.length_map, List.length_range]
  unfold atI
  rw [ixLast (by omega), hl]
  show ((tpsN os i).map PyData.int)[i]? = _
  unfold tpsN
  rw [List.map_map, List.getElem?_map, List.getElem?_range (by omega)]; rfl
theorem take_snocT {l : List Int} {j : Nat} {x : Int} (h : l[j]? = some x) : l.take (j + 1) = l.take j ++ [x] := by
  rw [List.take_add_one, h]; rfl
theorem mxd_snocT {l : List Int} {x : Int} (h : ∀ y ∈ l, 1 ≤ y) (hx : 1 ≤ x) : mxd (l ++ [x]) 0 = if x > mxd l 0 then x else mxd l 0 := by
  have hm : ∀ y ∈ l ++ [x], y ∈ l ∨ y = x := fun y hy => by simpa using hy
  split
  · rename_i h1
    exact (mxd_eq (by simp) fun y hy => (hm y hy).elim (fun z => by have := mxd_le (d := 0) z; omega) fun z => by omega).symm
  · rename_i h1
    have e : l ≠ [] := fun e => by subst e; exact h1 (by show (0 : Int) < x; omega)
    exact (mxd_eq (by have := mxd_mem (d := 0) e; simp [this]) fun y hy => (hm y hy).elim (fun z => mxd_le z) fun z => by omega).symm
structure AscO (ids : List Int) : Prop where
  ok : OkO ids
  asc : ids.Pairwise (· < ·)
theorem AscO.srt {ids : List Int} (h : AscO ids) : srt ids = ids := (srt_eq (List.Perm.refl _) (h.asc.imp fun h => by omega)).symm
theorem AscO.sub {ids l : List Int} (h : AscO ids) (s : l.Sublist ids) : AscO l := ⟨h.ok.sub s, h.asc.sublist s⟩
def PrOk (p : Int × Int) : Prop := (0 ≤ p.1 ∧ p.1 ≤ 30) ∧ (0 ≤ p.2 ∧ p.2 ≤ gId)
structure CtOk (a : List (Int × Int) × List Int) : Prop where
  len : a.1.length ≤ 12
  prs : ∀ p ∈ a.1, PrOk p
  ids : AscO a.2
def cD (C : List (Int × Int)) : PyData := .list (C.map pD)
def btw (o c : Int) (ids : List Int) : List Int := ids.filter fun r => decide (o < r) && decide (r ≤ c)
def passL (C : List (Int × Int)) (ids : List Int) : List (List Int) := ((0 :: C.map Prod.snd).zip C).map fun x => btw x.1 x.2.2 ids
def stepB (o : Int) (p : Int × Int) (ids : List Int) : Bool := if p.2 = o then decide (p.1 ≤ 0) else !decide (btw o p.2 ids = []) && decide ((btw o p.2 ids).getLastD 0 = p.2) && decide (1 ≤ p.1) && decide (p.1 ≤ ((btw o p.2 ids).length : Int))
def fitG (ids : List Int) : Int → List (Int × Int) → Bool
  | _, [] => true
  | o, p :: r => stepB o p ids && fitG ids p.2 r
def fitB (C : List (Int × Int)) (ids : List Int) : Bool := fitG ids 0 C
def lstC (C : List (Int × Int)) : Int := (C.map Prod.snd).getLastD 0
theorem lstC_snoc (C : List (Int × Int)) (p : Int × Int) : lstC (C ++ [p]) = p.2 := by unfold lstC; rw [List.map_append]; simp [List.getLastD_eq_getLast?]
theorem old_at (C : List (Int × Int)) {i : Nat} (h : i ≤ C.length) : (0 :: C.map Prod.snd)[i]? = some (lstC (C.take i)) := by
  cases i with
  | zero => rfl
  | succ j =>
    have hj : j < C.length := by omega
    have et : C.take (j + 1) = C.take j ++ [C[j]] := by rw [List.take_add_one, List.getElem?_eq_getElem hj]; rfl
    rw [et, lstC_snoc]
    show (C.map Prod.snd)[j]? = _
    rw [List.getElem?_map, List.getElem?_eq_getElem hj]; rfl
theorem passL_len (C : List (Int × Int)) (ids : List Int) : (passL C ids).length = C.length := by
  unfold passL
  rw [List.length_map, List.length_zip, List.length_cons, List.length_map]; omega
theorem passL_at {C : List (Int × Int)} {ids : List Int} {i : Nat} {p : Int × Int} (h : C[i]? = some p) : (passL C ids)[i]? = some (btw (lstC (C.take i)) p.2 ids) := by
  have hi := (List.getElem?_eq_some_iff.mp h).1
  unfold passL
  rw [List.getElem?_map]
  have : ((0 :: C.map Prod.snd).zip C)[i]? = some (lstC (C.take i), p) := by rw [List.getElem?_zip_eq_some]; exact ⟨old_at C (by omega), h⟩
  rw [this]; rfl
/-! ### the law's own orders -/
/-- ids that rise up to last, behind i turns of steps up to st -/
structure Up (i : Nat) (st last : Int) (left : List Int) : Prop where
  len : left.length = i
  asc : left.Pairwise (· < ·)
  ids : ∀ x ∈ left, 1 ≤ x ∧ x ≤ last
  lo : 0 ≤ last
  hi : last ≤ i * st
theorem Up.start (st : Int) : Up 0 st 0 [] := ⟨rfl, List.Pairwise.nil, fun _ h => (by cases h), Int.le_refl _, by show (0 : Int) ≤ ((0 : Nat) : Int) * st; rw [Int.natCast_zero, Int.zero_mul]; exact Int.le_refl _⟩
theorem Up.next {i : Nat} {st last r : Int} {left : List Int} (h : Up i st last left) (h0 : 0 ≤ r) (h1 : r < st) : Up (i + 1) st (last + 1 + r) (left ++ [last + 1 + r]) := by
  refine ⟨by rw [List.length_append, h.len]; rfl, ?_, fun x hx => ?_, by have := h.lo; omega, ?_⟩
  · rw [List.pairwise_append]
    refine ⟨h.asc, List.pairwise_singleton _ _, fun a ha b hb => ?_⟩
    have := (h.ids a ha).2
    simp at hb
    omega
  · have := h.lo
    rcases List.mem_append.mp hx with hx | hx
    · have := h.ids x hx; omega
    · simp at hx; omega
  · have := h.hi
    rw [show ((i + 1 : Nat) : Int) = (i : Int) + 1 from rfl, Int.add_mul]
    omega
def stp (r : Int) : Int := if r = 0 then 1 else if r = 1 then 3 else 33 * 10 ^ (27 : Int).toNat
theorem stp_at {r : Int} (h0 : 0 ≤ r) (h1 : r < 3) : ([1, 3, 33 * 10 ^ (27 : Int).toNat] : List Int)[r.toNat]? = some (stp r) := by
  have : r = 0 ∨ r = 1 ∨ r = 2 := by omega
  rcases this with rfl | rfl | rfl <;> rfl
theorem e27 : (33 : Int) * 10 ^ (27 : Int).toNat = 33000000000000000000000000000 := by decide
theorem stp_lo {r : Int} : 0 < stp r := by
  unfold stp
  rw [e27]
  split
  · decide
  · split <;> decide
theorem stp_hi {r : Int} : stp r ≤ 33000000000000000000000000000 := by
  unfold stp
  rw [e27]
  split
  · decide
  · split <;> decide
theorem asc_nd {l : List Int} (h : l.Pairwise (· < ·)) : l.Nodup := h.imp fun h => by omega
theorem Up.ok {i : Nat} {r last : Int} {left : List Int} (h : Up i (stp r) last left) (hi : i ≤ 30) : OkO left := by
  have h1 := h.hi
  have h2 : (i : Int) * stp r ≤ 30 * 33000000000000000000000000000 := Int.le_trans (Int.mul_le_mul_of_nonneg_left (stp_hi) (by omega)) (Int.mul_le_mul_of_nonneg_right (by omega) (by decide))
  refine ⟨by rw [h.len]; exact hi, fun n hn => ?_, asc_nd h.asc⟩
  have := h.ids n hn
  unfold gId
  omega
theorem Up.ok2 {i : Nat} {r last : Int} {left : List Int} (h : Up i (stp r) last left) (hi : i ≤ 30) (hne : left ≠ []) : OkO (left.dropLast ++ [gId]) ∧ (left.dropLast ++ [gId]).length = i := by
  have h1 := h.hi
  have h2 : (i : Int) * stp r ≤ 30 * 33000000000000000000000000000 := Int.le_trans (Int.mul_le_mul_of_nonneg_left (stp_hi) (by omega)) (Int.mul_le_mul_of_nonneg_right (by omega) (by decide))
  have hl : (left.dropLast ++ [gId]).length = i := by
    rw [List.length_append, List.length_dropLast, List.length_singleton, ← h.len]
    have := List.length_pos_iff.mpr hne
    omega
  have hm : ∀ x ∈ left.dropLast, 1 ≤ x ∧ x < gId := fun x hx => by
    have := h.ids x (List.mem_of_mem_take (List.dropLast_eq_take ▸ hx))
    unfold gId
    omega
  refine ⟨⟨by rw [hl]; exact hi, fun n hn => ?_, ?_⟩, hl⟩
  · rcases List.mem_append.mp hn with hn | hn
    · have := hm n hn; omega
    · simp at hn; subst hn; unfold gId; omega
  · refine asc_nd ?_
    rw [List.pairwise_append]
    refine ⟨h.asc.sublist (List.dropLast_sublist _), List.pairwise_singleton _ _, fun a ha b hb => ?_⟩
    have := (hm a ha).2
    simp at hb
    omega
/-- the orders' slots -/
def oEnv (most size style last step : Int) (tk fd : Option Knd) : Env' := [some (.own 0), some (.v (.int most)), some (.v (.int size)), some (.v (.int style)), some (.own 1), some (.v (.int last)), some (.v (.int step)), tk, fd]
def pickLim (r : Int) : Int := if r = 0 then 1 else if r = 1 then 2 else if r = 2 then 4 else 30
theorem pick_at {r : Int} (h0 : 0 ≤ r) (h1 : r < 4) : ([1, 2, 4, 30] : List Int)[r.toNat]? = some (pickLim r) := by
  have : r = 0 ∨ r = 1 ∨ r = 2 ∨ r = 3 := by omega
  rcases this with rfl | rfl | rfl | rfl <;> rfl
theorem pick_lo {r : Int} : 0 < pickLim r := by
  unfold pickLim
  split
  · decide
  · split
    · decide
    · split <;> decide
theorem eqv_ints_iff : ∀ a b : List Int, PyData.eqvAll (a.map PyData.int) (b.map PyData.int) = decide (a = b)
  | [], [] => by simp [PyData.eqvAll]
  | [], _ :: _ => by simp [PyData.eqvAll]
  | _ :: _, [] => by simp [PyData.eqvAll]
  | x :: a, y :: b => by
    rw [List.map_cons, List.map_cons, PyData.eqvAll, eqv_ints_iff a b]
    by_cases h : x = y <;> by_cases h2 : a = b <;> simp [PyData.eqv, h, h2]
theorem eqv_lI (a b : List Int) : PyData.eqv (lI a) (lI b) = decide (a = b) := by
  unfold lI
  rw [PyData.eqv, eqv_ints_iff]
/-! ### the law's own draws -/
structure Src where
  a : Int
  b : Int
  c : Int
def Src.l (s : Src) : List Int := [s.a, s.b, s.c]
/-- fit for n more draws -/
structure SrcOk (n : Nat) (s : Src) : Prop where
  b0 : 0 ≤ s.b
  b1 : s.b < 2 ^ 150
  c0 : 0 ≤ s.c
  c1 : s.c + n < 2 ^ 60
theorem SrcOk.mono {n k : Nat} {s : Src} (h : SrcOk n s) (e : k ≤ n) : SrcOk k s := ⟨h.b0, h.b1, h.c0, by have := h.c1; omega⟩
def mix1 (b c : Int) : Int := (b + 67867979 * c) ^ (3 : Int).toNat % (10 ^ (39 : Int).toNat + 3)
def mix2 (b c : Int) : Int := (mix1 b c + 982451707 * c) ^ (2 : Int).toNat % (10 ^ (37 : Int).toNat + 43)
def drw (s : Src) (lim : Int) : Int := if s.a > 0 then s.a % lim else mix2 s.b (s.c + 1) / 10 ^ (7 : Int).toNat % lim
def nxt (s : Src) (lim : Int) : Src := if s.a > 0 then ⟨s.a / lim, s.b, s.c⟩ else ⟨s.a, s.b, s.c + 1⟩
theorem drw_lo (s : Src) {lim : Int} (h : 0 < lim) : 0 ≤ drw s lim := by
  unfold drw
  split <;> exact Int.emod_nonneg _ (by omega)
theorem drw_hi (s : Src) {lim : Int} (h : 0 < lim) : drw s lim < lim := by
  unfold drw
  split <;> exact Int.emod_lt_of_pos _ h
theorem nxt_ok {n : Nat} {s : Src} {lim : Int} (h : SrcOk (n + 1) s) : SrcOk n (nxt s lim) := by
  unfold nxt
  have h1 := h.c1
  have h0 := h.c0
  split
  · exact ⟨h.b0, h.b1, h.c0, by show s.c + (n : Int) < 2 ^ 60; omega⟩
  · exact ⟨h.b0, h.b1, by show 0 ≤ s.c + 1; omega, by show s.c + 1 + (n : Int) < 2 ^ 60; omega⟩
def cellOf (script : List Int) (k : Nat) : Int := script.getD k 0
def mkSrc (script : List Int) (k : Nat) : Src := ⟨if cellOf script k - 10 ^ (18 : Int).toNat > 0 then cellOf script k - 10 ^ (18 : Int).toNat else 0, (cellOf script k % (10 ^ (38 : Int).toNat + 133) + 1) * 64 + (k : Int), 0⟩
theorem mkSrc_ok {script : List Int} {k : Nat} (h : k ≤ 63) : SrcOk 1000000 (mkSrc script k) := by
  have e : (10 : Int) ^ (38 : Int).toNat + 133 = 100000000000000000000000000000000000133 := by decide
  have h1 := Int.emod_nonneg (cellOf script k) (b := 10 ^ (38 : Int).toNat + 133) (by rw [e]; decide)
  have h2 := Int.emod_lt_of_pos (cellOf script k) (b := 10 ^ (38 : Int).toNat + 133) (by rw [e]; decide)
  refine ⟨?_, ?_, Int.le_refl _, by show (0 : Int) + ((1000000 : Nat) : Int) < 2 ^ 60; decide⟩
  · show 0 ≤ (cellOf script k % (10 ^ (38 : Int).toNat + 133) + 1) * 64 + (k : Int)
    omega
  · show (cellOf script k % (10 ^ (38 : Int).toNat + 133) + 1) * 64 + (k : Int) < 2 ^ 150
    rw [e] at h2 ⊢
    have : (2 : Int) ^ 150 = 1427247692705959881058285969449495136382746624 := by decide
    rw [this]
    omega
theorem i150 : (2 : Int) ^ 150 = 1427247692705959881058285969449495136382746624 := by decide
theorem n200 : (2 : Nat) ^ 200 = 1606938044258990275541962092341162602522202993782792835301376 := by decide
theorem i60 : (2 : Int) ^ 60 = 1152921504606846976 := by decide
theorem map_erase : ∀ (l : List Int) (j : Nat), (l.map PyData.int).eraseIdx j = (l.eraseIdx j).map PyData.int
  | [], _ => rfl
  | _ :: _, 0 => rfl
  | x :: r, j + 1 => by
    show PyData.int x :: (r.map PyData.int).eraseIdx j = PyData.int x :: (r.eraseIdx j).map PyData.int
    rw [map_erase r j]
theorem erase_perm {l : List Int} {j : Nat} {x : Int} (h : l[j]? = some x) (f : List Int) : (l.eraseIdx j ++ (f ++ [x])).Perm (l ++ f) := by
  obtain ⟨hj, e⟩ := List.getElem?_eq_some_iff.mp h
  have e1 : l = l.take j ++ x :: l.drop (j + 1) := by rw [← e, ← List.drop_eq_getElem_cons hj, List.take_append_drop]
  rw [List.eraseIdx_eq_take_drop_succ]
  rw [List.perm_iff_count]
  intro a
  have e2 : List.count a l = List.count a (l.take j) + List.count a (x :: l.drop (j + 1)) := by
    rw [← List.count_append, ← e1]
  have e3 : List.count a (x :: l.drop (j + 1)) = List.count a [x] + List.count a (l.drop (j + 1)) := by
    rw [← List.count_append]; rfl
  rw [List.count_append, List.count_append, List.count_append, List.count_append, e2, e3]
  omega
def bMix (sc : List Int) (k : Nat) : Int := sc.foldl (fun x c => (x * 1000003 + c % (10 ^ (40 : Int).toNat + 121)) % (10 ^ (38 : Int).toNat + 133)) (86028121 + (k : Int))
def bAbs (sc : List Int) (k : Nat) : Int := if k < sc.length then (if sc.getD k 0 < 0 then -sc.getD k 0 else sc.getD k 0) else 0
def mkBag (sc : List Int) (k : Nat) : Src := ⟨if bAbs sc k ≥ 10 ^ (18 : Int).toNat then bAbs sc k - 10 ^ (18 : Int).toNat else 0, bMix sc k, 0⟩
theorem e40 : (10 : Int) ^ (40 : Int).toNat + 121 = 10000000000000000000000000000000000000121 := by decide
theorem e38 : (10 : Int) ^ (38 : Int).toNat + 133 = 100000000000000000000000000000000000133 := by decide
theorem bMix_ok (sc : List Int) {k : Nat} (h : k ≤ 63) : 0 ≤ bMix sc k ∧ bMix sc k < 2 ^ 150 := by
  unfold bMix
  rw [i150, e38, e40]
  have h0 : 0 ≤ 86028121 + (k : Int) ∧ 86028121 + (k : Int) < 1427247692705959881058285969449495136382746624 := by omega
  generalize 86028121 + (k : Int) = x at h0
  induction sc generalizing x with
  | nil => exact h0
  | cons c r ih =>
    refine ih _ ?_
    show 0 ≤ (x * 1000003 + c % 10000000000000000000000000000000000000121) % 100000000000000000000000000000000000133 ∧ (x * 1000003 + c % 10000000000000000000000000000000000000121) % 100000000000000000000000000000000000133 < 1427247692705959881058285969449495136382746624
    have h1 := Int.emod_nonneg (x * 1000003 + c % 10000000000000000000000000000000000000121) (b := 100000000000000000000000000000000000133) (by decide)
    have h2 := Int.emod_lt_of_pos (x * 1000003 + c % 10000000000000000000000000000000000000121) (b := 100000000000000000000000000000000000133) (by decide)
    omega
theorem mkBag_ok {sc : List Int} {k : Nat} (h : k ≤ 63) : SrcOk 1000000 (mkBag sc k) := by
  obtain ⟨h1, h2⟩ := bMix_ok sc h
  exact ⟨h1, h2, Int.le_refl _, by show (0 : Int) + ((1000000 : Nat) : Int) < 2 ^ 60; decide⟩
def bm1 (b c : Int) : Int := (b + 15485863 * c) ^ (5 : Int).toNat % (10 ^ (37 : Int).toNat + 43)
def bm2 (b c : Int) : Int := (bm1 b c + 32452843 * c) ^ (3 : Int).toNat % (10 ^ (36 : Int).toNat + 67)
def tak (s : Src) (lim : Int) : Int := if s.a > 0 then s.a % lim else bm2 s.b (s.c + 1) / 524287 % lim
theorem tak_lo (s : Src) {lim : Int} (h : 0 < lim) : 0 ≤ tak s lim := by
  unfold tak
  split <;> exact Int.emod_nonneg _ (by omega)
theorem tak_hi (s : Src) {lim : Int} (h : 0 < lim) : tak s lim < lim := by
  unfold tak
  split <;> exact Int.emod_lt_of_pos _ h
def wid (r : Int) : Int := if r = 0 then 1 else if r = 1 then 3 else 10 ^ (28 : Int).toNat
theorem wid_at {r : Int} (h0 : 0 ≤ r) (h1 : r < 3) : ([1, 3, 10 ^ (28 : Int).toNat] : List Int)[r.toNat]? = some (wid r) := by
  have : r = 0 ∨ r = 1 ∨ r = 2 := by omega
  rcases this with rfl | rfl | rfl <;> rfl
theorem e28 : (10 : Int) ^ (28 : Int).toNat = 10000000000000000000000000000 := by decide
theorem wid_ok (r : Int) : 1 ≤ wid r ∧ wid r ≤ 10000000000000000000000000000 := by
  unfold wid
  rw [e28]
  split
  · decide
  · split <;> decide
/-- ids that rise from h0, by steps up to st, i of them so far -/
structure UpB (i : Nat) (h0 st last : Int) (left : List Int) : Prop where
  len : left.length = i
  asc : left.Pairwise (· < ·)
  ids : ∀ x ∈ left, h0 < x ∧ x ≤ last
  lo : h0 ≤ last
  hi : last ≤ h0 + i * st
theorem UpB.start (h0 st : Int) : UpB 0 h0 st h0 [] := ⟨rfl, List.Pairwise.nil, fun _ h => (by cases h), Int.le_refl _, by show h0 ≤ h0 + ((0 : Nat) : Int) * st; rw [Int.natCast_zero, Int.zero_mul]; omega⟩
theorem UpB.next {i : Nat} {h0 st last r : Int} {left : List Int} (h : UpB i h0 st last left) (r0 : 0 ≤ r) (r1 : r < st) : UpB (i + 1) h0 st (last + 1 + r) (left ++ [last + 1 + r]) := by
  have lo := h.lo
  refine ⟨by rw [List.length_append, h.len]; rfl, ?_, fun x hx => ?_, by omega, ?_⟩
  · rw [List.pairwise_append]
    refine ⟨h.asc, List.pairwise_singleton _ _, fun a ha b hb => ?_⟩
    have := (h.ids a ha).2
    simp at hb
    omega
  · rcases List.mem_append.mp hx with hx | hx
    · have := h.ids x hx; omega
    · simp at hx; omega
  · have := h.hi
    rw [show ((i + 1 : Nat) : Int) = (i : Int) + 1 from rfl, Int.add_mul]
    omega
def lateOf (r : Int) : Int := pickLim r
theorem UpB.ok {i : Nat} {h0 r last : Int} {left : List Int} (h : UpB i h0 (wid r) last left) (hi : i ≤ 30) (hh : h0 = 0 ∨ h0 = 10 ^ (30 : Int).toNat - 30 * wid r) : OkO left := by
  obtain ⟨w1, w2⟩ := wid_ok r
  have h1 := h.hi
  have e30 : (10 : Int) ^ (30 : Int).toNat = 1000000000000000000000000000000 := by decide
  have h2 : (i : Int) * wid r ≤ 30 * wid r := Int.mul_le_mul_of_nonneg_right (by omega) (by omega)
  have h3 : 0 ≤ h0 ∧ h0 + 30 * wid r ≤ gId := by
    unfold gId
    rcases hh with e | e
    · omega
    · rw [e30] at e; omega
  refine ⟨by rw [h.len]; exact hi, fun n hn => ?_, h.asc.imp fun h => by omega⟩
  have := h.ids n hn
  omega
def boEnv (most size style wide : Int) (n : Nat) (here : Int) (a b c d : Option Knd) : Env' := [some (.own 0), some (.v (.int most)), some (.v (.int size)), some (.v (.int style)), some (.v (.int wide)), some (.own n), some (.v (.int here)), a, b, c, d]
theorem two_at {x y : Int} {b : Bool} : ([x, y] : List Int)[(if b = true then (1 : Int) else 0).toNat]? = some (if b = true then y else x) := by cases b <;> rfl
theorem lists_bulk : ∀ ls : List (List Int), PyData.bulkAll (ls.map lI) = ls.flatten.length + ls.length
  | [] => rfl
  | l :: r => by
    rw [List.map_cons, PyData.bulkAll, lists_bulk r, List.flatten_cons, List.length_append, List.length_cons]
    show PyData.bulk (.list (l.map PyData.int)) + 1 + _ = _
    rw [PyData.bulk, ints_bulk]; omega
theorem lists_show : ∀ {ls : List (List Int)}, (∀ l ∈ ls, ∀ n ∈ l, n.natAbs.log2 < 1920) → PyData.showableAll (ls.map lI) = true ∧ PyData.leavesShortAll 1930 (ls.map lI) = true
  | [], _ => ⟨rfl, rfl⟩
  | l :: r, h => by
    obtain ⟨a, b⟩ := lists_show (ls := r) fun x hx => h x (List.mem_cons_of_mem _ hx)
    obtain ⟨c, d⟩ := ints_show (h l (List.mem_cons_self ..))
    rw [List.map_cons, PyData.showableAll, PyData.leavesShortAll, a, b]
    simp [lI, PyData.showable, PyData.leavesShort, c, d]
theorem dep_lists11 : ∀ ls : List (List Int), PyData.depthAll (ls.map lI) ≤ 2
  | [] => by rw [List.map_nil, PyData.depthAll]; omega
  | l :: r => by
    have h := dep_lists11 r
    have h2 := ints_depth l
    rw [List.map_cons, PyData.depthAll]
    have : PyData.depth (lI l) ≤ 2 := by unfold lI; rw [PyData.depth]; omega
    omega
theorem rep_lists {ls : List (List Int)} (h : ∀ l ∈ ls, ∀ n ∈ l, n.natAbs.log2 < 1920) (hz : ls.flatten.length + ls.length ≤ 8000) : repOk (.list (ls.map lI)) := by
  obtain ⟨a, b⟩ := lists_show h
  refine repOk_of (by rw [PyData.showable]; exact a) (by rw [PyData.leavesShort]; exact b) (by rw [PyData.bulk, lists_bulk]; exact hz) ?_
  rw [PyData.depth]
  have := dep_lists11 ls
  omega
theorem nd_11 {α : Type} [DecidableEq α] {a b : α} (e : a = b) : (!decide (a = b)) = false := by rw [decide_eq_true e]; rfl
structure LogO (lss : List (List Int)) : Prop where
  len : lss.length ≤ 12
  asc : AscO lss.flatten
def lgD (lss : List (List Int)) : PyData := .list (lss.map lI)
theorem flat_map_int : ∀ lss : List (List Int), ((lss.filter fun _ => true).flatMap fun l => ((id l).filter fun _ => true).map PyData.int) = lss.flatten.map PyData.int
  | [] => rfl
  | l :: r => by
    have ih := flat_map_int r
    rw [List.filter_cons, if_pos rfl, List.flatMap_cons, ih, List.flatten_cons, List.map_append]
    congr 1
    show ((l.filter fun _ => true).map PyData.int) = _
    rw [List.filter_eq_self.mpr fun _ _ => rfl]
theorem all_kit47 : ∀ n : Nat, ((List.replicate n true).all id) = true
  | 0 => rfl
  | n + 1 => by rw [List.replicate_succ, List.all_cons, all_kit47 n]; rfl
def wd4 (r : Int) : Int := if r = 0 then 1 else if r = 1 then 3 else if r = 2 then 9 else 10 ^ (28 : Int).toNat
theorem wd4_at {r : Int} (h0 : 0 ≤ r) (h1 : r < 4) : ([1, 3, 9, 10 ^ (28 : Int).toNat] : List Int)[r.toNat]? = some (wd4 r) := by
  have : r = 0 ∨ r = 1 ∨ r = 2 ∨ r = 3 := by omega
  rcases this with rfl | rfl | rfl | rfl <;> rfl
def hr4 (w : Int) : Int := if w > 9 then 10 ^ (30 : Int).toNat - 30 * w - 30 else 0
theorem wd4_ok (r : Int) : 1 ≤ wd4 r ∧ wd4 r ≤ 10000000000000000000000000000 ∧ 0 ≤ hr4 (wd4 r) ∧ hr4 (wd4 r) + 30 * wd4 r ≤ 1000000000000000000000000000000 := by
  have e : (10 : Int) ^ (28 : Int).toNat = 10000000000000000000000000000 := by decide
  have e2 : (10 : Int) ^ (30 : Int).toNat = 1000000000000000000000000000000 := by decide
  unfold hr4 wd4
  rw [e, e2]
  split
  · decide
  · split
    · decide
    · split <;> decide
/-- the log so far: the ids, all drawn ones, and the greatest -/
structure LgI (w : Int) (lss : List (List Int)) (ids : List Int) (here : Int) : Prop where
  asc : ids.Pairwise (· < ·)
  rng : ∀ x ∈ ids, 1 ≤ x ∧ x ≤ here
  lo : hr4 w ≤ here
  hi : here ≤ hr4 w + w * (ids.length : Int)
  sub : lss.flatten.Sublist ids
theorem LgI.start (w : Int) : LgI w [] [] (hr4 w) := ⟨List.Pairwise.nil, fun x h => (by cases h), Int.le_refl _, by simp, List.Sublist.refl _⟩
theorem LgI.list {w : Int} {lss : List (List Int)} {ids : List Int} {here : Int} (h : LgI w lss ids here) : LgI w (lss ++ [[]]) ids here := ⟨h.asc, h.rng, h.lo, h.hi, by rw [List.flatten_append]; simpa using h.sub⟩
theorem LgI.next {w : Int} {lss : List (List Int)} {ids : List Int} {here r : Int} (h : LgI w lss ids here) (hw : 0 ≤ hr4 w) (r0 : 0 ≤ r) (r1 : r < w) : LgI w lss (ids ++ [here + 1 + r]) (here + 1 + r) := by
  refine ⟨List.pairwise_append.mpr ⟨h.asc, List.pairwise_singleton _ _, fun x hx y hy => ?_⟩, fun x hx => ?_, by have := h.lo; omega, ?_, h.sub.trans (List.sublist_append_left _ _)⟩
  · rw [List.mem_singleton.mp hy]; have := (h.rng x hx).2; omega
  · rcases List.mem_append.mp hx with hx | hx
    · have := h.rng x hx; omega
    · rw [List.mem_singleton.mp hx]; have := h.lo; omega
  · rw [List.length_append, List.length_singleton, Int.natCast_add, Int.mul_add]
    have := h.hi
    have e : w * ((1 : Nat) : Int) = w := Int.mul_one w
    omega
theorem set_last_flat {lss : List (List Int)} {l : List Int} {x : Int} (h : lss[lss.length - 1]? = some l) : (lss.set (lss.length - 1) (l ++ [x])).flatten = lss.flatten ++ [x] := by
  rcases List.eq_nil_or_concat lss with e | ⟨A, y, e⟩
  · subst e; cases h
  · rw [List.concat_eq_append] at e
    subst e
    have hl : (A ++ [y]).length - 1 = A.length := by rw [List.length_append]; rfl
    rw [hl, List.getElem?_append_right (Nat.le_refl _), Nat.sub_self] at h
    have h : y = l := Option.some.inj h
    rw [hl, List.set_append_right _ _ (Nat.le_refl _), Nat.sub_self, h, List.flatten_append, List.flatten_append]
    simp
theorem LgI.put {w : Int} {lss : List (List Int)} {ids : List Int} {here r : Int} {l : List Int} (h : LgI w lss ids here) (hw : 0 ≤ hr4 w) (r0 : 0 ≤ r) (r1 : r < w) (hl : lss[lss.length - 1]? = some l) : LgI w (lss.set (lss.length - 1) (l ++ [here + 1 + r])) (ids ++ [here + 1 + r]) (here + 1 + r) := by
  obtain ⟨a, b, c, d, _⟩ := h.next hw r0 r1
  refine ⟨a, b, c, d, ?_⟩
  rw [set_last_flat hl]
  exact h.sub.append (List.Sublist.refl _)
theorem LgI.ok {w : Int} {lss : List (List Int)} {ids : List Int} {here : Int} (h : LgI w lss ids here) (hl : ids.length ≤ 30) (w0 : 0 ≤ w) (hw : hr4 w + 30 * w ≤ 1000000000000000000000000000000) : AscO ids := by
  refine ⟨⟨hl, fun x hx => ?_, h.asc.imp fun h => by omega⟩, h.asc⟩
  obtain ⟨a, b⟩ := h.rng x hx
  have := h.hi
  have e : w * (ids.length : Int) ≤ w * 30 := Int.mul_le_mul_of_nonneg_left (by omega) w0
  refine ⟨a, ?_⟩
  unfold gId; omega
theorem seven_at {r : Int} (h0 : 0 ≤ r) (h1 : r < 7) : ∃ q : Nat, ([0, 1, 1, 2, 3, 6, 30] : List Int)[r.toNat]? = some (q : Int) ∧ q ≤ 30 := by
  have : r = 0 ∨ r = 1 ∨ r = 2 ∨ r = 3 ∨ r = 4 ∨ r = 5 ∨ r = 6 := by omega
  rcases this with rfl | rfl | rfl | rfl | rfl | rfl | rfl
  · exact ⟨0, rfl, by decide⟩
  · exact ⟨1, rfl, by decide⟩
  · exact ⟨1, rfl, by decide⟩
  · exact ⟨2, rfl, by decide⟩
  · exact ⟨3, rfl, by decide⟩
  · exact ⟨6, rfl, by decide⟩
  · exact ⟨30, rfl, by decide⟩
theorem rare_at {r : Int} (h0 : 0 ≤ r) (h1 : r < 3) : ∃ q : Int, ([1, 2, 4] : List Int)[r.toNat]? = some q ∧ 1 ≤ q ∧ q ≤ 4 := by
  have : r = 0 ∨ r = 1 ∨ r = 2 := by omega
  rcases this with rfl | rfl | rfl
  · exact ⟨1, rfl, by decide, by decide⟩
  · exact ⟨2, rfl, by decide, by decide⟩
  · exact ⟨4, rfl, by decide, by decide⟩
theorem lil_len (lss : List (List Int)) : (lil lss).length = lss.length := by unfold lil; rw [List.length_map]
def loEnv47 (most polls : Nat) (w rare : Int) (here : Int) (lists room : Nat) (a b : Option Knd) : Env' := [some (.own 0), some (.v (.int (most : Int))), some (.v (.int (polls : Int))), some (.v (.int w)), some (.v (.int rare)), some (.own 1), some (.own 2), some (.v (.int here)), some (.v (.int (lists : Int))), some (.v (.int (room : Int))), a, b]
theorem tlim {z : Int} (h0 : 0 < z) (h1 : z < 2 ^ 100) {k : Nat} {s : Src} (h : SrcOk (k + 1) s) : SrcOk 1 (s, z).1 ∧ 0 < (s, z).2 ∧ (s, z).2 < 2 ^ 150 := ⟨h.mono (by omega), h0, Int.lt_of_lt_of_le h1 (by decide)⟩
theorem t100 : (2 : Int) ^ 100 = 1267650600228229401496703205376 := by decide
def px32 (lss : List (List Int)) (x : Int) : Nat := lss.findIdx fun l => !decide (l = []) && decide (l.getLastD 0 > x)
def ix32 (lss : List (List Int)) (x : Int) : Nat := lss.findIdx fun l => decide (x ∈ l)
def bk32 (lss : List (List Int)) (x : Int) : Int × Int := if x ∈ lss.flatten then ((ix32 lss x : Int), (ix32 lss x : Int)) else (if px32 lss x < lss.length then (px32 lss x : Int) + 1 else (lss.length : Int), (lss.length : Int))
def bkD (lss : List (List Int)) (ids : List Int) : List (Key × PyData) := ids.map fun x => ((Sum.inl x : Key), pQ (bk32 lss x))
theorem enf {α : Type} (c : α → Bool) : ∀ (as : List α) (s : Nat), ∃ r, (((List.range' s as.length).zip as).filter fun p => c p.2).map (·.1) = if as.findIdx c < as.length then (s + as.findIdx c) :: r else []
  | [], s => ⟨[], rfl⟩
  | a :: t, s => by
    obtain ⟨r, ih⟩ := enf c t (s + 1)
    rw [List.length_cons, List.range'_succ, List.zip_cons_cons, List.filter_cons, List.findIdx_cons]
    cases hc : c a with
    | true =>
      refine ⟨(((List.range' (s + 1) t.length).zip t).filter fun p => c p.2).map (·.1), ?_⟩
      simp [hc]
    | false =>
      refine ⟨r, ?_⟩
      rw [if_neg (by simp [hc]), ih]
      simp only [cond_false]
      by_cases h : t.findIdx c < t.length
      · rw [if_pos h, if_pos (by omega)]
        congr 1; omega
      · rw [if_neg h, if_neg (by omega)]
theorem enf0 {α : Type} (c : α → Bool) (as : List α) : ∃ r, (((List.range as.length).zip as).filter fun p => c p.2).map (fun p => PyData.int (p.1 : Int)) = if as.findIdx c < as.length then PyData.int (as.findIdx c : Int) :: r else [] := by
  obtain ⟨r, h⟩ := enf c as 0
  rw [← List.range_eq_range'] at h
  refine ⟨r.map fun i : Nat => PyData.int (i : Int), ?_⟩
  have e : (((List.range as.length).zip as).filter fun p => c p.2).map (fun p => PyData.int (p.1 : Int)) = ((((List.range as.length).zip as).filter fun p => c p.2).map (·.1)).map fun i : Nat => PyData.int (i : Int) := by rw [List.map_map]; rfl
  rw [e, h]
  split
  · rw [List.map_cons, Nat.zero_add]
  · rfl
theorem findIdx_lt {α : Type} {c : α → Bool} {as : List α} : as.findIdx c < as.length ↔ ∃ a ∈ as, c a = true := by
  rw [List.findIdx_lt_length]
theorem ix_lt {lss : List (List Int)} {x : Int} : ix32 lss x < lss.length ↔ x ∈ lss.flatten := by
  unfold ix32
  rw [findIdx_lt, List.mem_flatten]
  exact ⟨fun ⟨a, h1, h2⟩ => ⟨a, h1, of_decide_eq_true h2⟩, fun ⟨a, h1, h2⟩ => ⟨a, h1, decide_eq_true h2⟩⟩
/-- the lists that hold x -/
theorem holders (lss : List (List Int)) (x : Int) : (lss.filter fun l => decide (x ∈ l)).isEmpty = !decide (x ∈ lss.flatten) := by
  rw [Bool.eq_iff_iff, List.isEmpty_iff, List.filter_eq_nil_iff, Bool.not_eq_true', decide_eq_false_iff_not, List.mem_flatten]
  exact ⟨fun h ⟨l, h1, h2⟩ => h l h1 (decide_eq_true h2), fun h l h1 h2 => h ⟨l, h1, of_decide_eq_true h2⟩⟩
theorem last32 {l : List Int} (h : l ≠ []) : atI (l.map PyData.int) (-1) = some (.int (l.getLastD 0)) := by
  rcases List.eq_nil_or_concat l with e | ⟨A, x, e⟩
  · exact absurd e h
  · rw [List.concat_eq_append] at e
    subst e
    unfold atI
    rw [ixLast (by rw [List.length_map, List.length_append]; simp), List.map_append, List.length_append]
    show (A.map PyData.int ++ [.int x])[(A.map PyData.int).length + 1 - 1]? = _
    rw [Nat.add_sub_cancel, List.getElem?_append_right (Nat.le_refl _), Nat.sub_self]
    simp [List.getLastD_eq_getLast?]
theorem at0_32 (d : PyData) (r : List PyData) : atI (d :: r) 0 = some d := at_natI (n := 0) rfl rfl
def lo32 (lss : List (List Int)) (ids : List Int) : List (Int × Int) := (ids.filter fun x => !decide (x ∈ lss.flatten) && decide (px32 lss x < lss.length)).map fun x => (x, (px32 lss x : Int))
def st32 (lss : List (List Int)) (ids : List Int) : List Int := ids.filter fun x => !decide (x ∈ lss.flatten) && !decide (px32 lss x < lss.length)
structure FitO (lss : List (List Int)) (ids : List Int) : Prop where
  log : LogO lss
  idO : AscO ids
  sub : lss.flatten.Sublist ids
theorem lP_keys (kvs : List (Int × Int)) : (lP kvs).map (·.1) = (kvs.map Prod.fst).map Sum.inl := by unfold lP; rw [List.map_map, List.map_map]; rfl
theorem lo_put {lss : List (List Int)} {l : List Int} {x : Int} (nd : (l ++ [x]).Nodup) (h1 : x ∉ lss.flatten) (h2 : px32 lss x < lss.length) : putD (lP (lo32 lss l)) (.inl x) (.int (px32 lss x : Int)) = lP (lo32 lss (l ++ [x])) := by
  have e : lo32 lss (l ++ [x]) = lo32 lss l ++ [(x, (px32 lss x : Int))] := by
    unfold lo32
    rw [List.filter_append, List.map_append, List.filter_cons_of_pos (by rw [decide_eq_false h1, decide_eq_true h2]; rfl)]; rfl
  have e2 : lP (lo32 lss (l ++ [x])) = lP (lo32 lss l) ++ [((Sum.inl x : Key), PyData.int (px32 lss x : Int))] := by rw [e]; unfold lP; rw [List.map_append]; rfl
  rw [e2]
  refine put_new ?_
  rw [← e2, lP_keys]
  refine List.pairwise_map.mpr (List.Pairwise.imp (fun hab z => hab (Sum.inl.inj z)) (R := (· ≠ ·)) ?_)
  show ((lo32 lss (l ++ [x])).map Prod.fst).Nodup
  unfold lo32
  rw [List.map_map]
  have : (Prod.fst ∘ fun x : Int => (x, (px32 lss x : Int))) = id := rfl
  rw [this, List.map_id]
  exact nd.filter _
theorem lo_val (lss : List (List Int)) (ids : List Int) (x : Int) : valD (lP (lo32 lss ids)) (.inl x) = if x ∈ ids ∧ x ∉ lss.flatten ∧ px32 lss x < lss.length then some (.int (px32 lss x : Int)) else none := by
  unfold lo32 lP valD
  induction ids with
  | nil => rfl
  | cons a r ih =>
    rw [List.filter_cons]
    by_cases h : (!decide (a ∈ lss.flatten) && decide (px32 lss a < lss.length)) = true
    · rw [if_pos h, List.map_cons, List.map_cons, List.find?_cons]
      have h' : a ∉ lss.flatten ∧ px32 lss a < lss.length := by simpa using h
      by_cases e : a = x
      · subst e
        have : decide ((Sum.inl a : Key) = Sum.inl a) = true := decide_eq_true rfl
        simp only [this]
        rw [if_pos ⟨List.mem_cons_self .., h'⟩]; rfl
      · have : decide ((Sum.inl a : Key) = Sum.inl x) = false := decide_eq_false fun z => e (Sum.inl.inj z)
        simp only [this]
        rw [ih]
        have : (x ∈ a :: r ∧ x ∉ lss.flatten ∧ px32 lss x < lss.length) ↔ (x ∈ r ∧ x ∉ lss.flatten ∧ px32 lss x < lss.length) := by
          rw [List.mem_cons]
          exact ⟨fun ⟨z, w⟩ => ⟨z.resolve_left fun y => e y.symm, w⟩, fun ⟨z, w⟩ => ⟨.inr z, w⟩⟩
        by_cases z : x ∈ r ∧ x ∉ lss.flatten ∧ px32 lss x < lss.length
        · rw [if_pos z, if_pos (this.mpr z)]
        · rw [if_neg z, if_neg fun w => z (this.mp w)]
    · rw [if_neg h, ih]
      have h' : ¬ (a ∉ lss.flatten ∧ px32 lss a < lss.length) := by simpa using h
      have : (x ∈ a :: r ∧ x ∉ lss.flatten ∧ px32 lss x < lss.length) ↔ (x ∈ r ∧ x ∉ lss.flatten ∧ px32 lss x < lss.length) := by
        rw [List.mem_cons]
        exact ⟨fun ⟨z, w⟩ => ⟨z.resolve_left fun y => h' (y ▸ w), w⟩, fun ⟨z, w⟩ => ⟨.inr z, w⟩⟩
      by_cases z : x ∈ r ∧ x ∉ lss.flatten ∧ px32 lss x < lss.length
      · rw [if_pos z, if_pos (this.mpr z)]
      · rw [if_neg z, if_neg fun w => z (this.mp w)]
def pr32 (p : Nat × List Int) : List (Key × PyData) := p.2.map fun x => ((Sum.inl x : Key), PyData.int (p.1 : Int))
def pl32 (lss : List (List Int)) : List (Key × PyData) := mergeD [] (((List.range lss.length).zip lss).flatMap pr32)
theorem pr_keys : ∀ (lss : List (List Int)) (s : Nat), ((((List.range' s lss.length).zip lss).flatMap pr32).map (·.1)) = lss.flatten.map Sum.inl
  | [], _ => rfl
  | l :: t, s => by
    rw [List.length_cons, List.range'_succ, List.zip_cons_cons, List.flatMap_cons, List.map_append, pr_keys t (s + 1), List.flatten_cons, List.map_append]
    congr 1
    unfold pr32
    rw [List.map_map]; rfl
theorem pr_find : ∀ (lss : List (List Int)) (s : Nat) (x : Int), ((((List.range' s lss.length).zip lss).flatMap pr32).find? fun kv => decide (kv.1 = Sum.inl x)) = if x ∈ lss.flatten then some (Sum.inl x, .int ((s + ix32 lss x : Nat) : Int)) else none
  | [], _, _ => rfl
  | l :: t, s, x => by
    rw [List.length_cons, List.range'_succ, List.zip_cons_cons, List.flatMap_cons, List.find?_append, pr_find t (s + 1) x]
    unfold ix32
    rw [List.findIdx_cons, List.flatten_cons]
    have e1 : ((pr32 (s, l)).find? fun kv => decide (kv.1 = Sum.inl x)) = if x ∈ l then some (Sum.inl x, .int (s : Int)) else none := by
      unfold pr32
      induction l with
      | nil => rfl
      | cons a r ih =>
        rw [List.map_cons, List.find?_cons]
        by_cases e : a = x
        · subst e
          have : decide ((Sum.inl a : Key) = Sum.inl a) = true := decide_eq_true rfl
          simp only [this]
          rw [if_pos (List.mem_cons_self ..)]; rfl
        · have : decide ((Sum.inl a : Key) = Sum.inl x) = false := decide_eq_false fun z => e (Sum.inl.inj z)
          simp only [this]
          have ih : ((r.map fun y => ((Sum.inl y : Key), PyData.int (s : Int))).find? fun kv => decide (kv.1 = Sum.inl x)) = _ := ih
          rw [ih]
          by_cases z : x ∈ r
          · rw [if_pos z, if_pos (List.mem_cons_of_mem _ z)]
          · rw [if_neg z, if_neg fun w => (List.mem_cons.mp w).elim (fun y => e y.symm) z]
    rw [e1]
    by_cases z : x ∈ l
    · rw [if_pos z, if_pos (List.mem_append_left _ z), decide_eq_true z]; rfl
    · rw [if_neg z, decide_eq_false z]
      simp only [cond_false, Option.none_or]
      by_cases y : x ∈ t.flatten
      · rw [if_pos y, if_pos (List.mem_append_right _ y)]
        have : s + 1 + List.findIdx (fun l => decide (x ∈ l)) t = s + (List.findIdx (fun l => decide (x ∈ l)) t + 1) := by omega
        rw [this]
      · rw [if_neg y, if_neg fun w => (List.mem_append.mp w).elim z y]
theorem pl_eq {lss : List (List Int)} (h : lss.flatten.Nodup) : pl32 lss = ((List.range lss.length).zip lss).flatMap pr32 := by
  unfold pl32
  have := merge_new (((List.range lss.length).zip lss).flatMap pr32) [] (by
    rw [List.nil_append, List.range_eq_range', pr_keys]
    exact List.pairwise_map.mpr (h.imp fun hab z => hab (Sum.inl.inj z)))
  simpa using this
theorem pl_val {lss : List (List Int)} (h : lss.flatten.Nodup) (x : Int) : valD (pl32 lss) (.inl x) = if x ∈ lss.flatten then some (.int (ix32 lss x : Int)) else none := by
  rw [pl_eq h]
  unfold valD
  rw [List.range_eq_range', pr_find]
  split
  · rw [Nat.zero_add]; rfl
  · rfl
theorem take_flat (lss : List (List Int)) (i : Nat) : (lss.take i).flatten.Sublist lss.flatten := by
  have e := congrArg List.flatten (List.take_append_drop i lss)
  rw [List.flatten_append] at e
  have := List.sublist_append_left (lss.take i).flatten (lss.drop i).flatten
  rwa [e] at this
/-- the cursor ahead of poll i -/
def cu32 (lss : List (List Int)) (i : Nat) : Int := ((lss.take i).flatten).getLastD 0
theorem last_le {l : List Int} (h : l.Pairwise (· < ·)) {y : Int} (hy : y ∈ l) : y ≤ l.getLastD 0 := by
  rcases List.eq_nil_or_concat l with e | ⟨A, x, e⟩
  · subst e; cases hy
  · rw [List.concat_eq_append] at e
    subst e
    have : (A ++ [x]).getLastD 0 = x := by simp [List.getLastD_eq_getLast?]
    rw [this]
    rcases List.mem_append.mp hy with hy | hy
    · have := (List.pairwise_append.mp h).2.2 y hy x (List.mem_singleton.mpr rfl); omega
    · rw [List.mem_singleton.mp hy]; exact Int.le_refl _
theorem last_mem {l : List Int} (h : l ≠ []) : l.getLastD 0 ∈ l := by
  rcases List.eq_nil_or_concat l with e | ⟨A, x, e⟩
  · exact absurd e h
  · rw [List.concat_eq_append] at e
    subst e
    have : (A ++ [x]).getLastD 0 = x := by simp [List.getLastD_eq_getLast?]
    rw [this]; simp
theorem cu_lt {lss : List (List Int)} (h : lss.flatten.Pairwise (· < ·)) {x : Int} (x1 : 1 ≤ x) (hx : x ∉ lss.flatten) {i : Nat} (hi : i ≤ lss.length) : decide (cu32 lss i < x) = decide (i ≤ px32 lss x) := by
  have hp : (lss.take i).flatten.Pairwise (· < ·) := h.sublist (take_flat lss i)
  by_cases z : i ≤ px32 lss x
  · rw [decide_eq_true z]
    refine decide_eq_true ?_
    by_cases e : (lss.take i).flatten = []
    · unfold cu32; rw [e]; show (0 : Int) < x; omega
    · have hm := last_mem e
      obtain ⟨l, hl, hy⟩ := List.mem_flatten.mp hm
      obtain ⟨j, hj⟩ := List.mem_iff_getElem?.mp hl
      have hji : j < i := by
        have := (List.getElem?_eq_some_iff.mp hj).1
        rw [List.length_take] at this; omega
      rw [List.getElem?_take, if_pos hji] at hj
      have hjn := (List.getElem?_eq_some_iff.mp hj)
      have hno := List.not_of_lt_findIdx (p := fun l : List Int => !decide (l = []) && decide (l.getLastD 0 > x)) (xs := lss) (i := j) (Nat.lt_of_lt_of_le hji z)
      rw [hjn.2] at hno
      have hne : l ≠ [] := fun e => by rw [e] at hy; cases hy
      have hle : ¬ l.getLastD 0 > x := by simpa [hne] using hno
      have hls : l.Pairwise (· < ·) := h.sublist (List.sublist_flatten_of_mem (List.mem_of_getElem? hj))
      have := last_le hls hy
      have hne2 : cu32 lss i ≠ x := fun e => hx (by
        rw [← e]
        exact (take_flat lss i).subset hm)
      unfold cu32 at *
      omega
  · rw [decide_eq_false z]
    refine decide_eq_false ?_
    have hlt : px32 lss x < lss.length := by omega
    have ht := List.findIdx_getElem (p := fun l : List Int => !decide (l = []) && decide (l.getLastD 0 > x)) (xs := lss) (w := hlt)
    obtain ⟨l, hl⟩ : ∃ l, l = lss[px32 lss x] := ⟨_, rfl⟩
    have ht : (!decide (l = []) && decide (l.getLastD 0 > x)) = true := by rw [hl]; exact ht
    have hne : l ≠ [] ∧ l.getLastD 0 > x := by simpa using ht
    have hm : l ∈ lss.take i := by
      refine List.mem_iff_getElem?.mpr ⟨px32 lss x, ?_⟩
      rw [List.getElem?_take, if_pos (by omega), List.getElem?_eq_getElem hlt, hl]
    have := last_le hp (List.mem_flatten.mpr ⟨l, hm, last_mem hne.1⟩)
    unfold cu32
    omega
theorem cnt_le32 (p : Nat) : ∀ m : Nat, ((List.range m).filter fun i => decide (i ≤ p)).length = min m (p + 1)
  | 0 => by simp
  | m + 1 => by
    rw [List.range_succ, List.filter_append, List.length_append, cnt_le32 p m]
    by_cases h : m ≤ p
    · simp [List.filter_cons, h]; omega
    · simp [List.filter_cons, h]; omega
def cs32 (lss : List (List Int)) (k : Nat) : List Int := (List.range k).map (cu32 lss)
theorem cs_cnt {lss : List (List Int)} (h : lss.flatten.Pairwise (· < ·)) {x : Int} (x1 : 1 ≤ x) (hx : x ∉ lss.flatten) : ((cs32 lss (lss.length + 1)).filter fun c => decide (c < x)).length = min (lss.length + 1) (px32 lss x + 1) := by
  unfold cs32
  rw [List.filter_map, List.length_map, ← cnt_le32]
  congr 1
  refine List.filter_congr fun i hi => ?_
  exact cu_lt h x1 hx (by have := List.mem_range.mp hi; omega)
theorem cu_step {lss : List (List Int)} {i : Nat} {l : List Int} (h : lss[i]? = some l) : cu32 lss (i + 1) = if l = [] then cu32 lss i else l.getLastD 0 := by
  unfold cu32
  have et : lss.take (i + 1) = lss.take i ++ [l] := by rw [List.take_add_one, h]; rfl
  rw [et, List.flatten_append]
  by_cases e : l = []
  · rw [if_pos e, e]; simp
  · rw [if_neg e]
    rcases List.eq_nil_or_concat l with e2 | ⟨A, x, e2⟩
    · exact absurd e2 e
    · rw [List.concat_eq_append] at e2
      subst e2
      simp [List.getLastD_eq_getLast?]
theorem cs_last (lss : List (List Int)) (i : Nat) : (cs32 lss (i + 1)).getLastD 0 = cu32 lss i := by
  unfold cs32
  rw [List.range_succ, List.map_append]
  simp [List.getLastD_eq_getLast?]
theorem bk_put {lss : List (List Int)} {l : List Int} {x : Int} (nd : (l ++ [x]).Nodup) : putD (bkD lss l) (.inl x) (pQ (bk32 lss x)) = bkD lss (l ++ [x]) := by
  have e : bkD lss (l ++ [x]) = bkD lss l ++ [((Sum.inl x : Key), pQ (bk32 lss x))] := by unfold bkD; rw [List.map_append]; rfl
  rw [e]
  refine put_new ?_
  rw [← e]
  unfold bkD
  rw [List.map_map]
  exact List.pairwise_map.mpr (nd.imp fun hab z => hab (Sum.inl.inj z))
def boEnv32 (lss : List (List Int)) (ids : List Int) (c d e f g h i : Option Knd) : Env' := [some (.arg (lgD lss)), some (.arg (lI ids)), some (.v (.int (lss.length : Int))), some (.own 0), c, d, e, f, g, h]
theorem bk_read {lss : List (List Int)} {x : Int} (h : x ∈ lss.flatten) : bk32 lss x = ((ix32 lss x : Int), (ix32 lss x : Int)) := by unfold bk32; rw [if_pos h]
theorem bk_not {lss : List (List Int)} {x : Int} (h : x ∉ lss.flatten) : bk32 lss x = (if px32 lss x < lss.length then (px32 lss x : Int) + 1 else (lss.length : Int), (lss.length : Int)) := by unfold bk32; rw [if_neg h]
def rem32 (F l : List Int) : List Int := l.filter fun x => !decide (x ∈ F)
def fs32 (lss : List (List Int)) (F : List Int) : Nat := lss.findIdx fun l => !decide (rem32 F l = [])
def kd32 (lss : List (List Int)) (ids F : List Int) (i : Nat) : List Int := if i < lss.length then rem32 F (lss.getD i []) else rem32 F (st32 lss ids)
def lf32 (lss : List (List Int)) (ids F : List Int) : List Int := ((lo32 lss ids).filter fun p => decide (p.2 < (fs32 lss F : Int)) && !decide (p.1 ∈ F)).map Prod.fst
def fr32 (lss : List (List Int)) (ids F : List Int) : List Int := lf32 lss ids F ++ kd32 lss ids F (fs32 lss F)
structure DrawnTo (lss : List (List Int)) (ids F : List Int) : Prop where
  nd : F.Nodup
  sub : ∀ x ∈ F, x ∈ ids
  ok : ∀ i x, F[i]? = some x → (bk32 lss x).1 ≤ (fs32 lss (F.take i) : Int) ∧ (fs32 lss (F.take i) : Int) ≤ (bk32 lss x).2
theorem rem_mem {F l : List Int} {x : Int} : x ∈ rem32 F l ↔ x ∈ l ∧ x ∉ F := by unfold rem32; rw [List.mem_filter]; simp
theorem rem_nil {F l : List Int} : rem32 F l = [] ↔ ∀ x ∈ l, x ∈ F := by
  unfold rem32; rw [List.filter_eq_nil_iff]
  exact ⟨fun h x hx => by simpa using h x hx, fun h x hx => by simpa using h x hx⟩
theorem rem_snoc {F l : List Int} {x : Int} : rem32 (F ++ [x]) l = (rem32 F l).filter fun y => decide (y ≠ x) := by
  unfold rem32
  rw [List.filter_filter]
  refine List.filter_congr fun y _ => ?_
  by_cases h1 : y ∈ F <;> by_cases h2 : y = x <;> simp [h1, h2]
theorem rem_same {F l : List Int} {x : Int} (h : x ∉ rem32 F l) : rem32 (F ++ [x]) l = rem32 F l := by
  rw [rem_snoc]
  exact List.filter_eq_self.mpr fun y hy => decide_eq_true fun e => h (e ▸ hy)
theorem erase32 : ∀ {ns : List Int} {i : Nat} {x : Int}, ns.Nodup → ns[i]? = some x → ns.eraseIdx i = ns.filter fun y => decide (y ≠ x)
  | [], _, _, _, h => by cases h
  | a :: r, 0, x, nd, h => by
    cases h
    obtain ⟨h1, _⟩ := List.nodup_cons.mp nd
    rw [List.filter_cons_of_neg (by simp)]
    exact (List.filter_eq_self.mpr fun y hy => by rw [decide_eq_true_eq]; intro e; exact h1 (e ▸ hy)).symm
  | a :: r, i + 1, x, nd, h => by
    obtain ⟨h1, h2⟩ := List.nodup_cons.mp nd
    have h : r[i]? = some x := h
    rw [List.filter_cons_of_pos (by rw [decide_eq_true_eq]; intro e; exact h1 (e ▸ List.mem_of_getElem? h)), List.eraseIdx_cons_succ, erase32 h2 h]
theorem fs_le (lss : List (List Int)) (F : List Int) : fs32 lss F ≤ lss.length := List.findIdx_le_length
theorem fs_lt {lss : List (List Int)} {F : List Int} {j : Nat} (h : j < fs32 lss F) {l : List Int} (hl : lss[j]? = some l) : ∀ x ∈ l, x ∈ F := by
  have hno := List.not_of_lt_findIdx (p := fun l : List Int => !decide (rem32 F l = [])) (xs := lss) (i := j) h
  rw [(List.getElem?_eq_some_iff.mp hl).2] at hno
  exact rem_nil.mp (by simpa using hno)
theorem fs_at {lss : List (List Int)} {F : List Int} (h : fs32 lss F < lss.length) : rem32 F (lss.getD (fs32 lss F) []) ≠ [] := by
  have ht := List.findIdx_getElem (p := fun l : List Int => !decide (rem32 F l = [])) (xs := lss) (w := h)
  have e : lss.getD (fs32 lss F) [] = lss[fs32 lss F] := by simp [h]
  rw [e]
  intro z
  have ht : (!decide (rem32 F lss[fs32 lss F] = [])) = true := ht
  rw [z] at ht; simp at ht
theorem lo_mem {lss : List (List Int)} {ids : List Int} {p : Int × Int} : p ∈ lo32 lss ids ↔ p.1 ∈ ids ∧ p.1 ∉ lss.flatten ∧ px32 lss p.1 < lss.length ∧ p.2 = (px32 lss p.1 : Int) := by
  unfold lo32
  rw [List.mem_map]
  constructor
  · rintro ⟨x, hx, rfl⟩
    obtain ⟨h1, h2⟩ := List.mem_filter.mp hx
    have h2 : x ∉ lss.flatten ∧ px32 lss x < lss.length := by simpa using h2
    exact ⟨h1, h2.1, h2.2, rfl⟩
  · rintro ⟨h1, h2, h3, h4⟩
    exact ⟨p.1, List.mem_filter.mpr ⟨h1, by simp [h2, h3]⟩, by rw [← h4]⟩
theorem st_mem {lss : List (List Int)} {ids : List Int} {x : Int} : x ∈ st32 lss ids ↔ x ∈ ids ∧ x ∉ lss.flatten ∧ ¬ px32 lss x < lss.length := by
  unfold st32
  rw [List.mem_filter]
  exact ⟨fun ⟨h1, h2⟩ => ⟨h1, by simpa using h2⟩, fun ⟨h1, h2, h3⟩ => ⟨h1, by simp only [decide_eq_false h2, decide_eq_false h3]; rfl⟩⟩
theorem lf_mem {lss : List (List Int)} {ids F : List Int} {x : Int} : x ∈ lf32 lss ids F ↔ x ∈ ids ∧ x ∉ lss.flatten ∧ px32 lss x < lss.length ∧ px32 lss x < fs32 lss F ∧ x ∉ F := by
  unfold lf32
  rw [List.mem_map]
  constructor
  · rintro ⟨p, hp, rfl⟩
    obtain ⟨h1, h2⟩ := List.mem_filter.mp hp
    obtain ⟨a, b, c, d⟩ := lo_mem.mp h1
    have h2 : p.2 < (fs32 lss F : Int) ∧ p.1 ∉ F := by simpa using h2
    exact ⟨a, b, c, by omega, h2.2⟩
  · rintro ⟨a, b, c, d, e⟩
    exact ⟨(x, (px32 lss x : Int)), List.mem_filter.mpr ⟨lo_mem.mpr ⟨a, b, c, rfl⟩, by simp [d, e]⟩, rfl⟩
/-- the only list that holds x -/
theorem ix_is {lss : List (List Int)} (nd : lss.flatten.Nodup) {j : Nat} {l : List Int} (hl : lss[j]? = some l) {x : Int} (hx : x ∈ l) : ix32 lss x = j := by
  have go : ∀ (lss : List (List Int)) (j : Nat), lss.flatten.Nodup → lss[j]? = some l → lss.findIdx (fun l => decide (x ∈ l)) = j := by
    intro lss
    induction lss with
    | nil => intro j _ h; cases h
    | cons a r ih =>
      intro j nd h
      rw [List.findIdx_cons]
      rw [List.flatten_cons] at nd
      obtain ⟨n1, n2, n3⟩ := List.nodup_append.mp nd
      cases j with
      | zero => cases h; simp [hx]
      | succ j =>
        have h : r[j]? = some l := h
        have : x ∉ a := fun z => n3 x z x (List.mem_flatten.mpr ⟨l, List.mem_of_getElem? h, hx⟩) rfl
        simp only [this, decide_false, cond_false]
        rw [ih j n2 h]
  exact go lss j nd hl
theorem fr_ok {lss : List (List Int)} {ids F : List Int} (fo : FitO lss ids) {x : Int} (h : x ∈ fr32 lss ids F) : x ∈ ids ∧ x ∉ F ∧ (bk32 lss x).1 ≤ (fs32 lss F : Int) ∧ (fs32 lss F : Int) ≤ (bk32 lss x).2 := by
  have hle := fs_le lss F
  have nd : lss.flatten.Nodup := fo.log.asc.ok.nd
  unfold fr32 at h
  rcases List.mem_append.mp h with h | h
  · obtain ⟨a, b, c, d, e⟩ := lf_mem.mp h
    rw [bk_not b]
    refine ⟨a, e, ?_, by show (fs32 lss F : Int) ≤ (lss.length : Int); omega⟩
    rw [if_pos c]
    show (px32 lss x : Int) + 1 ≤ _
    omega
  · unfold kd32 at h
    split at h
    · rename_i z
      obtain ⟨h1, h2⟩ := rem_mem.mp h
      have e : lss[fs32 lss F]? = some (lss.getD (fs32 lss F) []) := by simp [z]
      have hf : x ∈ lss.flatten := List.mem_flatten.mpr ⟨_, List.mem_of_getElem? e, h1⟩
      rw [bk_read hf, ix_is nd e h1]
      exact ⟨fo.sub.subset hf, h2, Int.le_refl _, Int.le_refl _⟩
    · rename_i z
      obtain ⟨h1, h2⟩ := rem_mem.mp h
      obtain ⟨a, b, c⟩ := st_mem.mp h1
      rw [bk_not b, if_neg c]
      refine ⟨a, h2, ?_, ?_⟩
      · show (lss.length : Int) ≤ _; omega
      · show _ ≤ (lss.length : Int); omega
theorem fr_ne {lss : List (List Int)} {ids F : List Int} (nd : ids.Nodup) (hF : F.length < ids.length) : fr32 lss ids F ≠ [] := by
  intro h
  unfold fr32 at h
  obtain ⟨h1, h2⟩ := List.append_eq_nil_iff.mp h
  by_cases z : fs32 lss F < lss.length
  · unfold kd32 at h2
    rw [if_pos z] at h2
    exact fs_at z h2
  · have e : fs32 lss F = lss.length := by have := fs_le lss F; omega
    unfold kd32 at h2
    rw [if_neg z] at h2
    have all : ids ⊆ F := fun x hx => by
      by_cases a : x ∈ lss.flatten
      · obtain ⟨l, hl, hxl⟩ := List.mem_flatten.mp a
        obtain ⟨j, hj⟩ := List.mem_iff_getElem?.mp hl
        exact fs_lt (by rw [e]; exact (List.getElem?_eq_some_iff.mp hj).1) hj x hxl
      · by_cases b : px32 lss x < lss.length
        · refine Classical.byContradiction fun c => ?_
          have : x ∈ lf32 lss ids F := lf_mem.mpr ⟨hx, a, b, by rw [e]; exact b, c⟩
          rw [h1] at this; cases this
        · exact rem_nil.mp h2 x (st_mem.mpr ⟨hx, a, b⟩)
    have := List.Nodup.length_le_of_subset nd all
    omega
theorem DrawnTo.next {lss : List (List Int)} {ids F : List Int} (h : DrawnTo lss ids F) (fo : FitO lss ids) {x : Int} (hx : x ∈ fr32 lss ids F) : DrawnTo lss ids (F ++ [x]) := by
  obtain ⟨a, b, c⟩ := fr_ok fo hx
  refine ⟨List.nodup_append.mpr ⟨h.nd, List.pairwise_singleton _ _, fun y hy z hz e => ?_⟩, fun y hy => ?_, fun i y hi => ?_⟩
  · rw [List.mem_singleton.mp hz] at e; exact b (e ▸ hy)
  · rcases List.mem_append.mp hy with hy | hy
    · exact h.sub y hy
    · rw [List.mem_singleton.mp hy]; exact a
  · by_cases z : i < F.length
    · rw [List.getElem?_append_left z] at hi
      rw [List.take_append_of_le_length (by omega)]
      exact h.ok i y hi
    · rw [List.getElem?_append_right (by omega)] at hi
      have z2 : i = F.length := by
        have := (List.getElem?_eq_some_iff.mp hi).1
        simp at this; omega
      subst z2
      rw [Nat.sub_self] at hi
      cases hi
      rw [List.take_append_of_le_length (Nat.le_refl _), List.take_length]
      exact c
theorem kd_nd {lss : List (List Int)} {ids F : List Int} (fo : FitO lss ids) (i : Nat) : (kd32 lss ids F i).Nodup := by
  unfold kd32
  split
  · rename_i z
    have e : lss[i]? = some (lss.getD i []) := by simp [z]
    exact ((fo.log.asc.ok.nd).sublist (List.sublist_flatten_of_mem (List.mem_of_getElem? e))).filter _
  · exact (fo.idO.ok.nd.filter _).filter _
theorem head_range {c : Nat → Bool} {k m : Nat} (hk : c k = true) (hlt : ∀ j, j < k → c j = false) (hm : k < m) : ∃ r, (List.range m).filter c = k :: r := by
  obtain ⟨d, rfl⟩ : ∃ d, m = k + (d + 1) := ⟨m - k - 1, by omega⟩
  rw [List.range_add, List.filter_append, List.filter_eq_nil_iff.mpr fun j hj => by rw [hlt j (List.mem_range.mp hj)]; simp, List.nil_append, List.range_succ_eq_map, List.map_cons, List.filter_cons_of_pos (by simpa using hk)]
  exact ⟨_, rfl⟩
/-- the store while an order is drawn -/
def OW32 (s : Src) (lo : List (Int × Int)) (S : List Int) (L : List (List Int)) (g : List OC) (F : List Int) : List OC := OC.lst (s.l.map PyData.int) :: OC.dic (lP lo) :: OC.lst (S.map PyData.int) :: ((L.map fun l : List Int => OC.lst (l.map PyData.int)) ++ (g ++ [OC.lst (F.map PyData.int)]))
def kx32 (n i : Nat) : Nat := if i < n then i + 3 else 2
theorem ow_found {s : Src} {lo : List (Int × Int)} {S : List Int} {L : List (List Int)} {g : List OC} {F : List Int} (hg : g.length = 3) : (OW32 s lo S L g F)[L.length + 6]? = some (.lst (F.map PyData.int)) := by
  unfold OW32
  show ((L.map fun l : List Int => OC.lst (l.map PyData.int)) ++ (g ++ [OC.lst (F.map PyData.int)]))[L.length + 3]? = _
  rw [List.getElem?_append_right (by rw [List.length_map]; omega), List.length_map, List.getElem?_append_right (by omega)]
  have : L.length + 3 - L.length - g.length = 0 := by omega
  rw [this]; rfl
theorem ow_found_set {s : Src} {lo : List (Int × Int)} {S : List Int} {L : List (List Int)} {g : List OC} {F F' : List Int} (hg : g.length = 3) : (OW32 s lo S L g F).set (L.length + 6) (.lst (F'.map PyData.int)) = OW32 s lo S L g F' := by
  unfold OW32
  show OC.lst (s.l.map PyData.int) :: OC.dic (lP lo) :: OC.lst (S.map PyData.int) :: (((L.map fun l : List Int => OC.lst (l.map PyData.int)) ++ (g ++ [OC.lst (F.map PyData.int)])).set (L.length + 3) (.lst (F'.map PyData.int))) = _
  rw [List.set_append_right _ _ (by rw [List.length_map]; omega), List.length_map, List.set_append_right _ _ (by omega)]
  have : L.length + 3 - L.length - g.length = 0 := by omega
  rw [this]; rfl
theorem ow_all {s : Src} {lo : List (Int × Int)} {S : List Int} {L : List (List Int)} {g1 g2 g3 : OC} {F : List Int} : (OW32 s lo S L [g1, g2, g3] F)[L.length + 5]? = some g3 := by
  unfold OW32
  show ((L.map fun l : List Int => OC.lst (l.map PyData.int)) ++ ([g1, g2, g3] ++ [OC.lst (F.map PyData.int)]))[L.length + 2]? = _
  rw [List.getElem?_append_right (by rw [List.length_map]; omega), List.length_map]
  have : L.length + 2 - L.length = 2 := by omega
  rw [this]; rfl
theorem ow_kid {s : Src} {lss : List (List Int)} {ids F : List Int} {lo : List (Int × Int)} {g : List OC} {G : List Int} {i : Nat} : (OW32 s lo (rem32 F (st32 lss ids)) (lss.map (rem32 F)) g G)[kx32 lss.length i]? = some (.lst ((kd32 lss ids F i).map PyData.int)) := by
  unfold kx32 kd32
  split
  · rename_i z
    show (((lss.map (rem32 F)).map fun l : List Int => OC.lst (l.map PyData.int)) ++ (g ++ [OC.lst (G.map PyData.int)]))[i]? = _
    rw [List.getElem?_append_left (by rw [List.length_map, List.length_map]; exact z), List.getElem?_map, List.getElem?_map, List.getElem?_eq_getElem z]
    simp [z]
  · rfl
theorem ow_kid_set {s : Src} {lss : List (List Int)} {ids F : List Int} {lo : List (Int × Int)} {g : List OC} {G : List Int} {i : Nat} {x : Int} (fo : FitO lss ids) (hi : i ≤ lss.length) (hx : x ∈ kd32 lss ids F i) :
    (OW32 s lo (rem32 F (st32 lss ids)) (lss.map (rem32 F)) g G).set (kx32 lss.length i) (.lst (((kd32 lss ids F i).filter fun y => decide (y ≠ x)).map PyData.int)) = OW32 s lo (rem32 (F ++ [x]) (st32 lss ids)) (lss.map (rem32 (F ++ [x]))) g G := by
  have nd : lss.flatten.Nodup := fo.log.asc.ok.nd
  unfold kx32
  by_cases z : i < lss.length
  · rw [if_pos z]
    have ek : kd32 lss ids F i = rem32 F (lss.getD i []) := by unfold kd32; rw [if_pos z]
    rw [ek] at hx ⊢
    have e : lss[i]? = some (lss.getD i []) := by simp [z]
    have hxl := (rem_mem.mp hx).1
    have hf : x ∈ lss.flatten := List.mem_flatten.mpr ⟨_, List.mem_of_getElem? e, hxl⟩
    have e1 : rem32 (F ++ [x]) (st32 lss ids) = rem32 F (st32 lss ids) := rem_same fun w => (st_mem.mp (rem_mem.mp w).1).2.1 hf
    have e2 : lss.map (rem32 (F ++ [x])) = (lss.map (rem32 F)).set i (rem32 (F ++ [x]) (lss.getD i [])) := by
      apply List.ext_getElem?
      intro j
      by_cases hj : j = i
      · subst hj
        rw [List.getElem?_set_self (by rw [List.length_map]; exact z), List.getElem?_map, e]; rfl
      · rw [List.getElem?_set_ne (fun w => hj w.symm), List.getElem?_map, List.getElem?_map]
        cases hl : lss[j]? with
        | none => rfl
        | some l =>
          show some _ = some _
          rw [rem_same fun w => hj (by rw [← ix_is nd hl (rem_mem.mp w).1, ix_is nd e hxl])]
    rw [e1, e2, rem_snoc]
    unfold OW32
    show OC.lst (s.l.map PyData.int) :: OC.dic (lP lo) :: OC.lst ((rem32 F (st32 lss ids)).map PyData.int) :: ((((lss.map (rem32 F)).map fun l : List Int => OC.lst (l.map PyData.int)) ++ (g ++ [OC.lst (G.map PyData.int)])).set i _) = _
    rw [List.set_append_left _ _ (by rw [List.length_map, List.length_map]; exact z), List.map_set]
  · rw [if_neg z]
    have ek : kd32 lss ids F i = rem32 F (st32 lss ids) := by unfold kd32; rw [if_neg z]
    rw [ek] at hx ⊢
    have hs := st_mem.mp (rem_mem.mp hx).1
    have e2 : lss.map (rem32 (F ++ [x])) = lss.map (rem32 F) := List.map_congr_left fun l hl => rem_same fun w => hs.2.1 (List.mem_flatten.mpr ⟨l, hl, (rem_mem.mp w).1⟩)
    rw [e2, rem_snoc]; rfl
theorem ow_none {s : Src} {lss : List (List Int)} {ids F : List Int} {lo : List (Int × Int)} {g : List OC} {G : List Int} {x : Int} (hx : x ∉ lss.flatten) (hs : x ∉ st32 lss ids) :
    OW32 s lo (rem32 F (st32 lss ids)) (lss.map (rem32 F)) g G = OW32 s lo (rem32 (F ++ [x]) (st32 lss ids)) (lss.map (rem32 (F ++ [x]))) g G := by
  have e2 : lss.map (rem32 (F ++ [x])) = lss.map (rem32 F) := List.map_congr_left fun l hl => rem_same fun w => hx (List.mem_flatten.mpr ⟨l, hl, (rem_mem.mp w).1⟩)
  rw [e2, rem_same fun w => hs (rem_mem.mp w).1]
theorem fr_split {lss : List (List Int)} {ids F : List Int} (fo : FitO lss ids) {x : Int} (h : x ∈ fr32 lss ids F) (h2 : x ∉ kd32 lss ids F (fs32 lss F)) : x ∉ lss.flatten ∧ x ∉ st32 lss ids := by
  unfold fr32 at h
  rcases List.mem_append.mp h with h | h
  · obtain ⟨a, b, c, d, e⟩ := lf_mem.mp h
    exact ⟨b, fun w => (st_mem.mp w).2.2 c⟩
  · exact absurd h h2
theorem seq_lst32 {ow : List OC} {n : Nat} {ds : List PyData} (h : ow[n]? = some (.lst ds)) : seqOf ow (.own n) = some (true, ds) := by simp only [seqOf, h]
def drEnv32 (lss : List (List Int)) (ids : List Int) (f g h i j : Option Knd) : Env' := [some (.own 0), some (.arg (lgD lss)), some (.arg (lI ids)), some (.own 1), some (.own 2), some (.own (lss.length + 5)), some (.own (lss.length + 6)), f, g, h, i, j]
def kS32 (n : Nat) : List Knd := (List.range n).map fun i => Knd.own (i + 3)
theorem ks_at {n i : Nat} (h : i ≤ n) : (kS32 n ++ [.own 2])[i]? = some (.own (kx32 n i)) := by
  unfold kS32 kx32
  by_cases z : i < n
  · rw [if_pos z, List.getElem?_append_left (by rw [List.length_map, List.length_range]; exact z), List.getElem?_map, List.getElem?_range z]; rfl
  · have e : i = n := by omega
    subst e
    rw [if_neg z, List.getElem?_append_right (by rw [List.length_map, List.length_range]; omega), List.length_map, List.length_range, Nat.sub_self]; rfl
theorem ks_len (n : Nat) : (kS32 n ++ [Knd.own 2]).length = n + 1 := by unfold kS32; rw [List.length_append, List.length_map, List.length_range]; rfl
def oB32 (s : Src) (lo : List (Int × Int)) (S : List Int) (L : List (List Int)) : List OC := OC.lst (s.l.map PyData.int) :: OC.dic (lP lo) :: OC.lst (S.map PyData.int) :: (L.map fun l : List Int => OC.lst (l.map PyData.int))
theorem oB_len {s : Src} {lo : List (Int × Int)} {S : List Int} {L : List (List Int)} : (oB32 s lo S L).length = L.length + 3 := by unfold oB32; rw [List.length_cons, List.length_cons, List.length_cons, List.length_map]
theorem rem_empty (l : List Int) : rem32 [] l = l := List.filter_eq_self.mpr fun x _ => by simp
def g132 (n : Nat) : OC := .gen (fun _ vs => HO.lst vs) (kS32 n)
def g232 : OC := .gen (fun _ vs => HO.lst vs) [.own 2]
def g332 (n : Nat) : OC := .gen (fun _ vs => HO.lst vs) (kS32 n ++ [.own 2])
def mu32 (ids : List Int) (n : Nat) (ow : List OC) : Nat := ids.length - (match ow[n + 6]? with | some (.lst ds) => ds.length | _ => 0)
theorem mu_is {s : Src} {lo : List (Int × Int)} {S ids : List Int} {L : List (List Int)} {g : List OC} {F : List Int} (hg : g.length = 3) {n : Nat} (hn : L.length = n) : mu32 ids n (OW32 s lo S L g F) = ids.length - F.length := by
  unfold mu32
  subst hn
  rw [ow_found hg]
  show ids.length - (F.map PyData.int).length = _
  rw [List.length_map]
theorem lost_read (lss : List (List Int)) (ids F : List Int) : ((keysD (lP (lo32 lss ids))).filter fun a => decide (px32 lss (keyI a) < fs32 lss F) && !decide (keyI a ∈ F)).map (fun a => PyData.int (keyI a)) = (lf32 lss ids F).map PyData.int := by
  have e1 : keysD (lP (lo32 lss ids)) = (lo32 lss ids).map fun p => (Sum.inl p.1 : Key) := by unfold keysD lP; rw [List.map_map]; rfl
  rw [e1, List.filter_map, List.map_map]
  unfold lf32
  rw [List.map_map]
  have : (lo32 lss ids).filter ((fun a => decide (px32 lss (keyI a) < fs32 lss F) && !decide (keyI a ∈ F)) ∘ fun p => (Sum.inl p.1 : Key)) = (lo32 lss ids).filter fun p => decide (p.2 < (fs32 lss F : Int)) && !decide (p.1 ∈ F) := by
    refine List.filter_congr fun p hp => ?_
    obtain ⟨_, _, _, e⟩ := lo_mem.mp hp
    show (decide (px32 lss p.1 < fs32 lss F) && !decide (p.1 ∈ F)) = _
    rw [e]
    congr 1
    exact decide_eq_decide.mpr (by omega)
  rw [this]; rfl
theorem lf_len (lss : List (List Int)) (ids F : List Int) : (lf32 lss ids F).length ≤ ids.length := by
  unfold lf32 lo32
  rw [List.length_map]
  refine Nat.le_trans (List.length_filter_le ..) ?_
  rw [List.length_map]
  exact List.length_filter_le ..
theorem kd_len {lss : List (List Int)} {ids F : List Int} (fo : FitO lss ids) (i : Nat) : (kd32 lss ids F i).length ≤ 30 := by
  unfold kd32
  split
  · rename_i z
    have e : lss[i]? = some (lss.getD i []) := by simp [z]
    have h1 := (List.sublist_flatten_of_mem (List.mem_of_getElem? e)).length_le
    have h2 := fo.log.asc.ok.len
    exact Nat.le_trans (List.length_filter_le ..) (by omega)
  · exact Nat.le_trans (List.length_filter_le ..) (Nat.le_trans (List.length_filter_le ..) fo.idO.ok.len)
theorem rep_two32 {lss : List (List Int)} (h : LogO lss) {os : List Int} (ok : OkO os) : repOk (.list [lgD lss, lI os]) := by
  obtain ⟨a, b⟩ := lists_show (ls := lss) fun l hl n hn => by
    have := h.asc.ok.ids n (List.mem_flatten.mpr ⟨l, hl, hn⟩)
    exact gId_log (by omega) this.2
  obtain ⟨c, d⟩ := ints_show (ns := os) fun n hn => gId_log (by have := (ok.ids n hn).1; omega) (ok.ids n hn).2
  have b1 := lists_bulk lss
  have b2 := ints_bulk os
  have d1 := dep_lists11 lss
  have d2 := ints_depth os
  have l1 := h.len
  have l2 := h.asc.ok.len
  have l3 := ok.len
  refine repOk_of ?_ ?_ ?_ ?_
  · rw [PyData.showable, PyData.showableAll, PyData.showableAll, PyData.showableAll]
    simp only [lgD, lI, PyData.showable, a, c, Bool.and_self]
  · rw [PyData.leavesShort, PyData.leavesShortAll, PyData.leavesShortAll, PyData.leavesShortAll]
    simp only [lgD, lI, PyData.leavesShort, b, d, Bool.and_self]
  · rw [PyData.bulk, PyData.bulkAll, PyData.bulkAll, PyData.bulkAll]
    simp only [lgD, lI, PyData.bulk]
    omega
  · rw [PyData.depth, PyData.depthAll, PyData.depthAll, PyData.depthAll]
    simp only [lgD, lI, PyData.depth]
    omega
theorem bk_small {lss : List (List Int)} (h : lss.length ≤ 12) (x : Int) : (0 ≤ (bk32 lss x).1 ∧ (bk32 lss x).1 ≤ 12) ∧ (0 ≤ (bk32 lss x).2 ∧ (bk32 lss x).2 ≤ 12) := by
  by_cases z : x ∈ lss.flatten
  · rw [bk_read z]
    have := ix_lt.mpr z
    show (0 ≤ (ix32 lss x : Int) ∧ (ix32 lss x : Int) ≤ 12) ∧ (0 ≤ (ix32 lss x : Int) ∧ (ix32 lss x : Int) ≤ 12)
    omega
  · rw [bk_not z]
    refine ⟨?_, by show 0 ≤ (lss.length : Int) ∧ (lss.length : Int) ≤ 12; omega⟩
    show 0 ≤ (if px32 lss x < lss.length then (px32 lss x : Int) + 1 else (lss.length : Int)) ∧ (if px32 lss x < lss.length then (px32 lss x : Int) + 1 else (lss.length : Int)) ≤ 12
    split <;> omega
theorem sm_log {i : Int} (h0 : 0 ≤ i) (h1 : i ≤ 12) : i.natAbs.log2 < 1920 := gId_log (by omega) (by unfold gId; omega)
theorem bk_rep : ∀ {lss : List (List Int)} {l : List Int}, lss.length ≤ 12 → (∀ x ∈ l, x.natAbs.log2 < 1920) → PyData.showableKv ((bkD lss l).map LD.pairD) = true ∧ PyData.leavesShortKv 1930 ((bkD lss l).map LD.pairD) = true ∧ PyData.bulkKv ((bkD lss l).map LD.pairD) ≤ 10 * l.length ∧ PyData.depthKv ((bkD lss l).map LD.pairD) ≤ 3
  | lss, [], _, _ => ⟨rfl, rfl, Nat.le_refl _, by show PyData.depthKv [] ≤ 3; rw [PyData.depthKv]; omega⟩
  | lss, x :: l, h, hx => by
    obtain ⟨a, b, c, d⟩ := bk_rep (l := l) h fun y hy => hx y (List.mem_cons_of_mem _ hy)
    have h1 := hx x (List.mem_cons_self ..)
    obtain ⟨⟨s1, s2⟩, s3, s4⟩ := bk_small h x
    have h2 := sm_log s1 s2
    have h3 := sm_log s3 s4
    have e : (bkD lss (x :: l)).map LD.pairD = (.int x, pQ (bk32 lss x)) :: (bkD lss l).map LD.pairD := rfl
    rw [e]
    have q1 : (pQ (bk32 lss x)).showable = true := by simp only [pQ, PyData.showable, PyData.showableAll, decide_eq_true h2, decide_eq_true h3, Bool.and_self]
    have q2 : PyData.leavesShort 1930 (pQ (bk32 lss x)) = true := by
      unfold pQ
      rw [PyData.leavesShort, PyData.leavesShortAll, PyData.leavesShortAll, PyData.leavesShortAll, rep_int h2, rep_int h3]; rfl
    have q3 : (pQ (bk32 lss x)).bulk ≤ 4 := by simp only [pQ, PyData.bulk, PyData.bulkAll]; omega
    have q4 : (pQ (bk32 lss x)).depth ≤ 2 := by simp [pQ, PyData.depth, PyData.depthAll]
    refine ⟨?_, ?_, ?_, ?_⟩
    · rw [PyData.showableKv, q1, a]
      simp only [PyData.showable, decide_eq_true h1, Bool.and_self]
    · rw [PyData.leavesShortKv, rep_int h1, q2, b]; rfl
    · rw [PyData.bulkKv, List.length_cons, PyData.bulk]; omega
    · rw [PyData.depthKv, PyData.depth]; omega
theorem bkD_rep {lss : List (List Int)} {ids : List Int} (fo : FitO lss ids) : repOk (dicP (bkD lss ids)) := by
  obtain ⟨a, b, c, d⟩ := bk_rep (l := ids) fo.log.len fun n hn => gId_log (by have := (fo.idO.ok.ids n hn).1; omega) (fo.idO.ok.ids n hn).2
  have := fo.idO.ok.len
  exact repOk_of (by unfold dicP; rw [PyData.showable]; exact a) (by unfold dicP; rw [PyData.leavesShort]; exact b) (by unfold dicP; rw [PyData.bulk]; omega) (by unfold dicP; rw [PyData.depth]; omega)
theorem bkD_imm (lss : List (List Int)) (ids : List Int) : ∀ kv ∈ bkD lss ids, imm kv.2 = true := by
  intro kv h
  obtain ⟨p, _, rfl⟩ := List.mem_map.mp h
  rfl
theorem bk_val (lss : List (List Int)) : ∀ {ids : List Int} {x : Int}, x ∈ ids → valD (bkD lss ids) (.inl x) = some (pQ (bk32 lss x))
  | [], _, h => by cases h
  | a :: r, x, h => by
    unfold bkD valD
    rw [List.map_cons, List.find?_cons]
    by_cases e : a = x
    · subst e
      have : decide ((Sum.inl a : Key) = Sum.inl a) = true := decide_eq_true rfl
      simp only [this]; rfl
    · have : decide ((Sum.inl a : Key) = Sum.inl x) = false := decide_eq_false fun z => e (Sum.inl.inj z)
      simp only [this]
      exact bk_val lss ((List.mem_cons.mp h).resolve_left fun z => e z.symm)
theorem all32 {lss : List (List Int)} {ids os : List Int} (fo : FitO lss ids) (dt : DrawnTo lss ids os) (hl : os.length = ids.length) : ∀ x ∈ lss.flatten, x ∈ os := fun y hy => by
  refine Classical.byContradiction fun c => ?_
  have h1 := List.Nodup.length_le_of_subset (l₁ := y :: os) (l₂ := ids) (List.nodup_cons.mpr ⟨c, dt.nd⟩) (fun z hz => by
    rcases List.mem_cons.mp hz with rfl | hz
    · exact fo.sub.subset hy
    · exact dt.sub z hz)
  rw [List.length_cons] at h1; omega
def rtEnv32 (lss : List (List Int)) (ids : List Int) (a b c d e f g h : Option Knd) : Env' := [some (.own 0), some (.arg (lgD lss)), some (.arg (lI ids)), some (.v (.str (PyData.list [lgD lss, lI ids]).shown)), some (.own 1), a, b, c, d, e, f, g, h]
theorem lil_list32 (lss : List (List Int)) : (lil lss).map PyData.list = lss.map lI := by unfold lil; rw [List.map_map]; rfl
theorem lil_drop32 (lss : List (List Int)) : (lil lss).dropLast = lil lss.dropLast := by unfold lil; rw [List.map_dropLast]
theorem FitO.drop {lss : List (List Int)} {ids : List Int} (h : FitO lss ids) : FitO lss.dropLast ids := by
  have hs : lss.dropLast.flatten.Sublist lss.flatten := by rw [List.dropLast_eq_take]; exact take_flat lss _
  exact ⟨⟨by have := h.log.len; rw [List.length_dropLast]; omega, h.log.asc.sub hs⟩, h.idO, hs.trans h.sub⟩
theorem bk_le {lss : List (List Int)} (x : Int) : (bk32 lss x).1 ≤ (bk32 lss x).2 := by
  by_cases z : x ∈ lss.flatten
  · rw [bk_read z]; exact Int.le_refl _
  · rw [bk_not z]
    show (if px32 lss x < lss.length then (px32 lss x : Int) + 1 else (lss.length : Int)) ≤ (lss.length : Int)
    split <;> omega
theorem fs_mono {lss : List (List Int)} {F G : List Int} (h : ∀ x ∈ F, x ∈ G) : fs32 lss F ≤ fs32 lss G := by
  refine Classical.byContradiction fun c => ?_
  have hlt : fs32 lss G < fs32 lss F := by omega
  have hle := fs_le lss F
  have hne := fs_at (lss := lss) (F := G) (by omega)
  have e : lss[fs32 lss G]? = some (lss.getD (fs32 lss G) []) := by
    have : fs32 lss G < lss.length := by omega
    simp [this]
  exact hne (rem_nil.mpr fun x hx => h x (fs_lt hlt e x hx))
/-- one that is surely ahead stands ahead -/
theorem sure33 {lss : List (List Int)} {ids os : List Int} (dt : DrawnTo lss ids os) {x y : Int} (hx : x ∈ os) (hy : y ∈ os) (h : (bk32 lss x).2 < (bk32 lss y).1) : ¬ ((os.idxOf x : Int) > (os.idxOf y : Int)) := by
  intro z
  have lx := List.idxOf_lt_length_of_mem hx
  have ly := List.idxOf_lt_length_of_mem hy
  have gx : os[os.idxOf x]? = some x := by rw [List.getElem?_eq_getElem lx, List.getElem_idxOf]
  have gy : os[os.idxOf y]? = some y := by rw [List.getElem?_eq_getElem ly, List.getElem_idxOf]
  obtain ⟨_, a2⟩ := dt.ok _ _ gx
  obtain ⟨b1, _⟩ := dt.ok _ _ gy
  have hm : fs32 lss (os.take (os.idxOf y)) ≤ fs32 lss (os.take (os.idxOf x)) := fs_mono fun w hw => by
    have e : os.take (os.idxOf y) = (os.take (os.idxOf x)).take (os.idxOf y) := by rw [List.take_take, Nat.min_eq_left (by omega)]
    rw [e] at hw
    exact List.mem_of_mem_take hw
  omega
theorem all33 {lss : List (List Int)} {ids os : List Int} (dt : DrawnTo lss ids os) (hl : os.length = ids.length) {y : Int} (hy : y ∈ ids) : y ∈ os := by
  refine Classical.byContradiction fun c => ?_
  have h1 := List.Nodup.length_le_of_subset (l₁ := y :: os) (l₂ := ids) (List.nodup_cons.mpr ⟨c, dt.nd⟩) (fun z hz => by
    rcases List.mem_cons.mp hz with rfl | hz
    · exact hy
    · exact dt.sub z hz)
  rw [List.length_cons] at h1; omega
theorem rep_b33 (b : Bool) : repOk (.bool b) := repOk_of (by simp [PyData.showable]) (by simp [PyData.leavesShort]) (by simp [PyData.bulk]) (by simp [PyData.depth])
def rtEnv33 (lss : List (List Int)) (ids : List Int) (O : List (List Int)) (a b c d e : Option Knd) : Env' := [some (.own 0), some (.arg (lgD lss)), some (.arg (lI ids)), some (.v (.str (PyData.list [lgD lss, lI ids]).shown)), some (.dat (.list (O.map lI))), a, b, c, d, e, none]
theorem twelve33 (ids : List Int) : ∃ nn : Nat, 12 * (if (!(ids.map PyData.int).isEmpty) = true then (1 : Int) else 0) = (nn : Int) ∧ nn ≤ 12 ∧ (0 < nn → ids ≠ []) := by
  cases ids with
  | nil => exact ⟨0, rfl, by omega, fun h => absurd h (Nat.lt_irrefl 0)⟩
  | cons a r => exact ⟨12, rfl, by omega, fun _ h => by cases h⟩
def lEnv33 (sc : List Int) (a b c d e f g : Option Knd) : Env' := [some (.arg (lI sc)), a, b, c, d, e, f, g]
theorem FitO.more {lss : List (List Int)} {ids : List Int} (h : FitO lss ids) {v : Int} (hv : v ≤ 10 ^ (30 : Int).toNat) (hl : ids.getLastD 0 < v) (hne : ids ≠ []) (hz : ids.length < 30) : FitO lss.dropLast (ids ++ [v]) := by
  obtain ⟨a, b, c⟩ := h.drop
  have e30 : (10 : Int) ^ (30 : Int).toNat = 1000000000000000000000000000000 := by decide
  have l1 := (h.idO.ok.ids _ (last_mem hne)).1
  have asc : (ids ++ [v]).Pairwise (· < ·) := List.pairwise_append.mpr ⟨h.idO.asc, List.pairwise_singleton _ _, fun x hx y hy => by rw [List.mem_singleton.mp hy]; have := last_le h.idO.asc hx; omega⟩
  refine ⟨a, ⟨⟨by rw [List.length_append, List.length_singleton]; omega, fun n hn => ?_, asc.imp fun h => by omega⟩, asc⟩, c.trans (List.sublist_append_left _ _)⟩
  rcases List.mem_append.mp hn with hn | hn
  · exact h.idO.ok.ids n hn
  · rw [List.mem_singleton.mp hn]
    unfold gId
    omega
theorem cut_two (ds : List PyData) : LD.cutD ds (some (-2)) none = ds.drop (ds.length - 2) := by
  unfold LD.cutD
  have e : HT.sIx ds.length 0 (some (-2)) = ds.length - 2 := by
    show (if (-2 : Int) < 0 then ((-2 : Int) + (ds.length : Int)).toNat else min (-2 : Int).toNat ds.length) = _
    rw [if_pos (by decide)]; omega
  rw [e, HT.sIx_none]
  exact List.take_of_length_le (by rw [List.length_drop]; omega)
theorem two_first {ids : List Int} {v : Int} (h : ids ≠ []) : atI (LD.cutD ((ids ++ [v]).map PyData.int) (some (-2)) none) 0 = some (.int (ids.getLastD 0)) := by
  rw [cut_two]
  rcases List.eq_nil_or_concat ids with e | ⟨A, x, e⟩
  · exact absurd e h
  · rw [List.concat_eq_append] at e
    subst e
    have hl : ((A ++ [x] ++ [v]).map PyData.int).length - 2 = A.length := by simp
    rw [hl, List.append_assoc, List.map_append, ← List.length_map (f := PyData.int), List.drop_left]
    have : (A ++ [x]).getLastD 0 = x := by simp [List.getLastD_eq_getLast?]
    rw [this]
    exact at0_32 _ _
theorem fo_end33 : FitO [[2], [4, 5], [6, 7]] [1, 2, 3, 4, 5, 6, 7] := ⟨⟨by decide, ⟨⟨by decide, by decide, by decide⟩, by decide⟩⟩, ⟨⟨by decide, by decide, by decide⟩, by decide⟩, by decide⟩
section
variable {P : Program} {w : World} {K : PySem.W.Frag} {mg : Str → Option Value} {base : Heap}
/-! ### is_integer -/
theorem c_is_integer (T : Txt K mg) : Cal P w K mg base 1 "is_integer" (spP (fun d : PyData => [d]) noD (fun d => .bool (isI d)) K) :=
  cal_of T.d_is_integer fun f fd F => ok_P F sc_is_integer (fun _ => rfl) fun cdv A outer s H E hr => ⟨_, (pss_one (ps_ret (pe_and (pe_callB call_isi (by rfl) T.n_isinstance (show bootBuiltins "isinstance" = some (.builtin "isinstance") by decide +kernel) (pa_cons (pv 0) (pa_cons (pe_bltn (v := .ty "int") (by rfl) T.n_int (by decide +kernel) rfl) pa_nil))) (pe_one (pe_not (pe_callB call_isi (by rfl) T.n_isinstance (show bootBuiltins "isinstance" = some (.builtin "isinstance") by decide +kernel) (pa_cons (pv 0) (pa_cons (pe_bltn (v := .ty "bool") (by rfl) T.n_bool (by decide +kernel) rfl) pa_nil)))))))), fun d hd => by
    cases d with
    | dict kvs => exact ss_ret (ee_andF (ee_cb (ea_cons (ee_var rfl) (ea_cons ee_c ea_nil)) (cc_isi rfl (by first | exact kit_NoneType_int | exact kit_NoneType_bool | exact kit_NoneType_list | exact kit_NoneType_tuple | exact kit_NoneType_str | exact kit_bool_int | exact kit_bool_bool | exact kit_bool_list | exact kit_bool_tuple | exact kit_bool_str | exact kit_int_int | exact kit_int_bool | exact kit_int_list | exact kit_int_tuple | exact kit_int_str | exact kit_str_int | exact kit_str_bool | exact kit_str_list | exact kit_str_tuple | exact kit_str_str | exact kit_list_int | exact kit_list_bool | exact kit_list_list | exact kit_list_tuple | exact kit_list_str | exact kit_tuple_int | exact kit_tuple_bool | exact kit_tuple_list | exact kit_tuple_tuple | exact kit_tuple_str | exact kit_dict_int | exact kit_dict_bool | exact kit_dict_list | exact kit_dict_tuple | exact kit_dict_str)))) (by rfl)
    | int i => exact ss_ret (ee_and (ee_cb (ea_cons (ee_var rfl) (ea_cons ee_c ea_nil)) (cc_isi rfl (by first | exact kit_NoneType_int | exact kit_NoneType_bool | exact kit_NoneType_list | exact kit_NoneType_tuple | exact kit_NoneType_str | exact kit_bool_int | exact kit_bool_bool | exact kit_bool_list | exact kit_bool_tuple | exact kit_bool_str | exact kit_int_int | exact kit_int_bool | exact kit_int_list | exact kit_int_tuple | exact kit_int_str | exact kit_str_int | exact kit_str_bool | exact kit_str_list | exact kit_str_tuple | exact kit_str_str | exact kit_list_int | exact kit_list_bool | exact kit_list_list | exact kit_list_tuple | exact kit_list_str | exact kit_tuple_int | exact kit_tuple_bool | exact kit_tuple_list | exact kit_tuple_tuple | exact kit_tuple_str | exact kit_dict_int | exact kit_dict_bool | exact kit_dict_list | exact kit_dict_tuple | exact kit_dict_str))) (fun _ => (ee_not (ee_cb (ea_cons (ee_var rfl) (ea_cons ee_c ea_nil)) (cc_isi rfl (by first | exact kit_NoneType_int | exact kit_NoneType_bool | exact kit_NoneType_list | exact kit_NoneType_tuple | exact kit_NoneType_str | exact kit_bool_int | exact kit_bool_bool | exact kit_bool_list | exact kit_bool_tuple | exact kit_bool_str | exact kit_int_int | exact kit_int_bool | exact kit_int_list | exact kit_int_tuple | exact kit_int_str | exact kit_str_int | exact kit_str_bool | exact kit_str_list | exact kit_str_tuple | exact kit_str_str | exact kit_list_int | exact kit_list_bool | exact kit_list_list | exact kit_list_tuple | exact kit_list_str | exact kit_tuple_int | exact kit_tuple_bool | exact kit_tuple_list | exact kit_tuple_tuple | exact kit_tuple_str | exact kit_dict_int | exact kit_dict_bool | exact kit_dict_list | exact kit_dict_tuple | exact kit_dict_str)))))) (by rfl)
    | bool b => exact ss_ret (ee_and (ee_cb (ea_cons (ee_var rfl) (ea_cons ee_c ea_nil)) (cc_isi rfl (by first | exact kit_NoneType_int | exact kit_NoneType_bool | exact kit_NoneType_list | exact kit_NoneType_tuple | exact kit_NoneType_str | exact kit_bool_int | exact kit_bool_bool | exact kit_bool_list | exact kit_bool_tuple | exact kit_bool_str | exact kit_int_int | exact kit_int_bool | exact kit_int_list | exact kit_int_tuple | exact kit_int_str | exact kit_str_int | exact kit_str_bool | exact kit_str_list | exact kit_str_tuple | exact kit_str_str | exact kit_list_int | exact kit_list_bool | exact kit_list_list | exact kit_list_tuple | exact kit_list_str | exact kit_tuple_int | exact kit_tuple_bool | exact kit_tuple_list | exact kit_tuple_tuple | exact kit_tuple_str | exact kit_dict_int | exact kit_dict_bool | exact kit_dict_list | exact kit_dict_tuple | exact kit_dict_str))) (fun _ => (ee_not (ee_cb (ea_cons (ee_var rfl) (ea_cons ee_c ea_nil)) (cc_isi rfl (by first | exact kit_NoneType_int | exact kit_NoneType_bool | exact kit_NoneType_list | exact kit_NoneType_tuple | exact kit_NoneType_str | exact kit_bool_int | exact kit_bool_bool | exact kit_bool_list | exact kit_bool_tuple | exact kit_bool_str | exact kit_int_int | exact kit_int_bool | exact kit_int_list | exact kit_int_tuple | exact kit_int_str | exact kit_str_int | exact kit_str_bool | exact kit_str_list | exact kit_str_tuple | exact kit_str_str | exact kit_list_int | exact kit_list_bool | exact kit_list_list | exact kit_list_tuple | exact kit_list_str | exact kit_tuple_int | exact kit_tuple_bool | exact kit_tuple_list | exact kit_tuple_tuple | exact kit_tuple_str | exact kit_dict_int | exact kit_dict_bool | exact kit_dict_list | exact kit_dict_tuple | exact kit_dict_str)))))) (by rfl)
    | none => exact ss_ret (ee_andF (ee_cb (ea_cons (ee_var rfl) (ea_cons ee_c ea_nil)) (cc_isi rfl (by first | exact kit_NoneType_int | exact kit_NoneType_bool | exact kit_NoneType_list | exact kit_NoneType_tuple | exact kit_NoneType_str | exact kit_bool_int | exact kit_bool_bool | exact kit_bool_list | exact kit_bool_tuple | exact kit_bool_str | exact kit_int_int | exact kit_int_bool | exact kit_int_list | exact kit_int_tuple | exact kit_int_str | exact kit_str_int | exact kit_str_bool | exact kit_str_list | exact kit_str_tuple | exact kit_str_str | exact kit_list_int | exact kit_list_bool | exact kit_list_list | exact kit_list_tuple | exact kit_list_str | exact kit_tuple_int | exact kit_tuple_bool | exact kit_tuple_list | exact kit_tuple_tuple | exact kit_tuple_str | exact kit_dict_int | exact kit_dict_bool | exact kit_dict_list | exact kit_dict_tuple | exact kit_dict_str)))) (by rfl)
    | str z => exact ss_ret (ee_andF (ee_cb (ea_cons (ee_var rfl) (ea_cons ee_c ea_nil)) (cc_isi rfl (by first | exact kit_NoneType_int | exact kit_NoneType_bool | exact kit_NoneType_list | exact kit_NoneType_tuple | exact kit_NoneType_str | exact kit_bool_int | exact kit_bool_bool | exact kit_bool_list | exact kit_bool_tuple | exact kit_bool_str | exact kit_int_int | exact kit_int_bool | exact kit_int_list | exact kit_int_tuple | exact kit_int_str | exact kit_str_int | exact kit_str_bool | exact kit_str_list | exact kit_str_tuple | exact kit_str_str | exact kit_list_int | exact kit_list_bool | exact kit_list_list | exact kit_list_tuple | exact kit_list_str | exact kit_tuple_int | exact kit_tuple_bool | exact kit_tuple_list | exact kit_tuple_tuple | exact kit_tuple_str | exact kit_dict_int | exact kit_dict_bool | exact kit_dict_list | exact kit_dict_tuple | exact kit_dict_str)))) (by rfl)
    | list ds => exact ss_ret (ee_andF (ee_cb (ea_cons (ee_var rfl) (ea_cons ee_c ea_nil)) (cc_isi rfl (by first | exact kit_NoneType_int | exact kit_NoneType_bool | exact kit_NoneType_list | exact kit_NoneType_tuple | exact kit_NoneType_str | exact kit_bool_int | exact kit_bool_bool | exact kit_bool_list | exact kit_bool_tuple | exact kit_bool_str | exact kit_int_int | exact kit_int_bool | exact kit_int_list | exact kit_int_tuple | exact kit_int_str | exact kit_str_int | exact kit_str_bool | exact kit_str_list | exact kit_str_tuple | exact kit_str_str | exact kit_list_int | exact kit_list_bool | exact kit_list_list | exact kit_list_tuple | exact kit_list_str | exact kit_tuple_int | exact kit_tuple_bool | exact kit_tuple_list | exact kit_tuple_tuple | exact kit_tuple_str | exact kit_dict_int | exact kit_dict_bool | exact kit_dict_list | exact kit_dict_tuple | exact kit_dict_str)))) (by rfl)
    | tuple ds => exact ss_ret (ee_andF (ee_cb (ea_cons (ee_var rfl) (ea_cons ee_c ea_nil)) (cc_isi rfl (by first | exact kit_NoneType_int | exact kit_NoneType_bool | exact kit_NoneType_list | exact kit_NoneType_tuple | exact kit_NoneType_str | exact kit_bool_int | exact kit_bool_bool | exact kit_bool_list | exact kit_bool_tuple | exact kit_bool_str | exact kit_int_int | exact kit_int_bool | exact kit_int_list | exact kit_int_tuple | exact kit_int_str | exact kit_str_int | exact kit_str_bool | exact kit_str_list | exact kit_str_tuple | exact kit_str_str | exact kit_list_int | exact kit_list_bool | exact kit_list_list | exact kit_list_tuple | exact kit_list_str | exact kit_tuple_int | exact kit_tuple_bool | exact kit_tuple_list | exact kit_tuple_tuple | exact kit_tuple_str | exact kit_dict_int | exact kit_dict_bool | exact kit_dict_list | exact kit_dict_tuple | exact kit_dict_str)))) (by rfl)⟩

/-! ### returned_by -/
theorem c_returned_by (T : Txt K mg) : Cal P w K mg base 1 "returned_by" (spP (fun lss : List (List Int) => [lgD lss]) (fun lss => lss.flatten.length ≤ 1000) (fun lss => lI lss.flatten) K) :=
  cal_of T.d_returned_by fun f fd F => ok_P F sc_returned_by (fun _ => rfl) fun cdv A outer s H E hr => ⟨_, (pss_one (ps_ret (pe_lc2 (own := [("rows", 1), ("row", 2)]) (vs1 := [2]) (g := (gName 1)) (g1 := (gName 2)) (by rfl) sc_returned_by.nd (pi_listK (K := K) rfl (pv 0)) (blkOk_by (N := ["log", "rows", "row"]) (sc := defScope s_returned_by) (by decide +kernel)) (by decide) (fun _ _ _ _ _ => (pg_name (i := 1) sc_returned_by.nd rfl (by first | exact .inl rfl | exact .inr rfl))) (fun _ _ _ _ _ => pts_nil) (fun _ _ _ _ _ => (pi_listK (K := K) rfl (pv 1))) (fun _ _ _ _ _ => (pg_name (i := 2) sc_returned_by.nd rfl (by first | exact .inl rfl | exact .inr rfl))) (fun _ _ _ _ _ => pts_nil) (fun _ _ _ _ _ => (pv 2))))), fun lss h => by
    have h : lss.flatten.length ≤ 1000 := h
    refine ss_ret (ee_as (b := false) (ee_lc2 false lss lI (fun _ => true) PyData.int id (fun _ _ => true) (fun _ n => .int n) (ee_var rfl) rfl (fun l _ => ⟨eb_yes, fun _ => ⟨⟨_, ee_var rfl, rfl⟩, fun n _ => ⟨eb_yes, fun _ => ⟨_, rfl, ee_var rfl⟩⟩⟩⟩) (by decide) (by decide) ?_) (flat_map_int lss)) ⟨0, rfl, rfl⟩
    rw [flat_map_int, List.length_map]; omega⟩

/-! ### blocks_of -/
theorem c_blocks_of (T : Txt K mg) : Cal P w K mg base 1 "blocks_of" (spD (fun a : List (List Int) × List Int => [lgD a.1, lI a.2]) (fun a => FitO a.1 a.2) (fun a => bkD a.1 a.2) K) :=
  cal_of T.d_blocks_of fun f fd F => ok_D F sc_blocks_of (fun _ => rfl) fun cdv A outer s H E hr => ⟨_, (pss_cons (ps_set (i := 2) sc_blocks_of.nd rfl (by first | exact .inl rfl | exact .inr rfl) (pe_callB call_ln (by rfl) T.n_len (show bootBuiltins "len" = some (.builtin "len") by decide +kernel) (pa_cons (pv 0) pa_nil))) (pss_cons (ps_setDc2 (i := 3) (own := [("number", 8), ("rows", 5), ("row", 7)]) (vs1 := [7]) (g := _) (g1 := (gName 7)) (by rfl) sc_blocks_of.nd rfl rfl (sw_dic rfl rfl rfl (by decide +kernel)) (pi_enumK (K := K) rfl (by rfl) T.n_enumerate (pa_cons (pv 0) pa_nil)) (blkOk_by (N := ["log", "ids", "end", "polls", "cursors", "rows", "found", "row", "number", "cursor"]) (sc := defScope s_blocks_of) (by decide +kernel)) (by decide) (fun _ _ _ _ _ => ⟨(pg_tupK (K := K) (n := 2) rfl rfl (pgs_cons (pg_name (i := 8) sc_blocks_of.nd rfl (by first | exact .inl rfl | exact .inr rfl)) (pgs_cons (pg_name (i := 5) sc_blocks_of.nd rfl (by first | exact .inl rfl | exact .inr rfl)) pgs_nil))), pts_nil, (pi_listK (K := K) rfl (pv 5)), (pg_name (i := 7) sc_blocks_of.nd rfl (by first | exact .inl rfl | exact .inr rfl)), pts_nil, (pv 7), (pv 8)⟩)) (pss_cons (ps_set (i := 4) sc_blocks_of.nd rfl (by first | exact .inl rfl | exact .inr rfl) (pe_lst (pa_cons pe_int pa_nil))) (pss_cons (ps_for PassesOwn.never rfl (pi_listK (K := K) rfl (pv 0)) (pg_name (i := 5) sc_blocks_of.nd rfl (by first | exact .inl rfl | exact .inr rfl)) (pss_one (ps_expr (pe_bm PySem.F.plainAttrs_list PySem.F.slot_list_append PySem.F.type_list_append mt_append (pv 4) (pa_cons (pe_ifExp (pt_truth (pv 5) (fun _ => rfl)) (pe_ix (ix_listK (K := K) rfl) (pv 5) (pe_un un_neg pe_int) (fun _ _ => rfl)) (pe_ix (ix_listK (K := K) rfl) (pv 4) (pe_un un_neg pe_int) (fun _ _ => rfl))) pa_nil))))) (pss_cons (ps_set (i := 6) sc_blocks_of.nd rfl (by first | exact .inl rfl | exact .inr rfl) pe_dnewK) (pss_cons (ps_for PassesOwn.never rfl (pi_listK (K := K) rfl (pv 1)) (pg_name (i := 7) sc_blocks_of.nd rfl (by first | exact .inl rfl | exact .inr rfl)) (pss_one (ps_if (pt_cmp (pc_din (by exact Nat.lt_of_le_of_lt (Nat.add_le_add_left (show 1 ≤ 64 by decide) _) hr.r.units) (pv 7) (pv 3)) rfl) (pss_one (ps_asg (pe_tup (pa_cons (pe_dget (by exact Nat.lt_of_le_of_lt (Nat.add_le_add_left (show 1 ≤ 64 by decide) _) hr.r.units) (pv 3) (pv 7) (fun _ _ => rfl)) (pa_cons (pe_dget (by exact Nat.lt_of_le_of_lt (Nat.add_le_add_left (show 1 ≤ 64 by decide) _) hr.r.units) (pv 3) (pv 7) (fun _ _ => rfl)) pa_nil))) (pg_sub (pv 6) (pv 7) (set_dict (by exact Nat.lt_of_le_of_lt (Nat.add_le_add_left (show 1 ≤ 64 by decide) _) hr.r.units))))) (pss_one (ps_asg (pe_tup (pa_cons (pe_callB (call_mn2 rfl) (by rfl) T.n_min (by decide +kernel) (pa_cons (pv 2) (pa_cons (pe_callB call_ln (by rfl) T.n_len (show bootBuiltins "len" = some (.builtin "len") by decide +kernel) (pa_cons (pe_lc (own := [("cursor", 9)]) (g := (gName 9)) (by rfl) sc_blocks_of.nd (pi_listK (K := K) rfl (pv 4)) (blkOk_by (N := ["log", "ids", "end", "polls", "cursors", "rows", "found", "row", "number", "cursor"]) (sc := defScope s_blocks_of) (by decide +kernel)) (fun _ _ _ _ _ => (pg_name (i := 9) sc_blocks_of.nd rfl (by first | exact .inl rfl | exact .inr rfl))) (fun _ _ _ _ _ => pts_one (pt_cmpR op_lt (pv 9) (pv 7) (nomark _))) (fun _ _ _ _ _ => (pv 9))) pa_nil)) pa_nil))) (pa_cons (pv 2) pa_nil))) (pg_sub (pv 6) (pv 7) (set_dict (by exact Nat.lt_of_le_of_lt (Nat.add_le_add_left (show 1 ≤ 64 by decide) _) hr.r.units)))))))) (pss_one (ps_ret (pv 6))))))))), fun ⟨lss, ids⟩ fo => by
    have fo : FitO lss ids := fo
    have h12 : lss.length ≤ 12 := fo.log.len
    have h30 : ids.length ≤ 30 := fo.idO.ok.len
    have f30 : lss.flatten.length ≤ 30 := fo.log.asc.ok.len
    have fnd : lss.flatten.Nodup := fo.log.asc.asc.imp fun h => by omega
    have eL : ((lss.map lI).length : Int) = (lss.length : Int) := by rw [List.length_map]
    have kid : ∀ l ∈ lss, l.length ≤ 30 := fun l hl => Nat.le_trans (List.sublist_flatten_of_mem hl).length_le f30
    refine ss_seq (ss_set (ee_eqI (ee_cb (ea_cons (ee_var rfl) ea_nil) (cc_len rfl)) eL) ?_)
    refine ss_seq (ss_set (k := .own 0) (ow1 := [.dic (pl32 lss)]) (ee_dc2E (j1 := 8) (j2 := 5) (j3 := 7) (fl1 := false) lss lI (fun p => p.2) PyData.int (fun _ x => (Sum.inl x : Key)) (fun p _ => .int (p.1 : Int)) (ea_cons (ee_var rfl) ea_nil) rfl (fun i l hl => ⟨⟨_, ee_var rfl, rfl⟩, fun x hx => ⟨ee_var rfl, _, rfl, ee_var rfl⟩⟩) (by decide) (by decide) (by decide) ?_) ?_)
    · have e1 : ∀ (A : List (Nat × List Int)), (A.flatMap fun p => p.2.map fun b => ((Sum.inl b : Key), PyData.int (p.1 : Int))) = A.flatMap pr32 := fun A => rfl
      rw [e1, ← List.length_map (f := (·.1)), List.range_eq_range', pr_keys, List.length_map]
      omega
    refine ss_seq (ss_set (ee_lst false (ea_cons ee_c ea_nil) rfl) ?_)
    show SS K _ (boEnv32 lss ids (some (.own 1)) none none none none none none) [.dic (pl32 lss), .lst ((cs32 lss 1).map PyData.int)] _
    refine ss_seqI (fun m ow => ∃ d, m = boEnv32 lss ids (some (.own 1)) d none none none none none ∧ ow = [.dic (pl32 lss), .lst ((cs32 lss (lss.length + 1)).map PyData.int)])
      (ss_for (fun i m ow => ∃ d, m = boEnv32 lss ids (some (.own 1)) d none none none none none ∧ ow = [.dic (pl32 lss), .lst ((cs32 lss (i + 1)).map PyData.int)]) false (lss.map lI) (ee_var rfl) ⟨_, rfl, rfl⟩ (fun _ _ _ _ h => by obtain ⟨_, rfl, _⟩ := h; rfl) ?_ (fun m ow ⟨d, h1, h2⟩ => ⟨d, h1, by rw [h2, List.length_map]⟩)) ?_
    · rintro i dd m ow hd ⟨d, rfl, rfl⟩
      rw [List.getElem?_map] at hd
      obtain ⟨l, hl, rfl⟩ := Option.map_eq_some_iff.mp hd
      have hi := (List.getElem?_eq_some_iff.mp hl).1
      have ecs : cs32 lss (i + 1 + 1) = cs32 lss (i + 1) ++ [cu32 lss (i + 1)] := by unfold cs32; rw [List.range_succ, List.map_append]; rfl
      have ne : cs32 lss (i + 1) ≠ [] := by unfold cs32; simp
      refine ss_expr (ee_append (n := 1) (d := .int (cu32 lss (i + 1))) (ds := (cs32 lss (i + 1)).map PyData.int) (ow2 := [.dic (pl32 lss), .lst ((cs32 lss (i + 1)).map PyData.int)]) (ee_var rfl) rfl (ea_cons (k := .v (.int (cu32 lss (i + 1)))) (ow1 := [.dic (pl32 lss), .lst ((cs32 lss (i + 1)).map PyData.int)]) (ee_if (b := !decide (l = [])) (eb_eq (eb_tru (ds := l.map PyData.int) (ee_var rfl) rfl) (by cases l <;> rfl)) (fun h1 => ?_) (fun h1 => ?_)) ea_nil) rfl rfl (by rw [List.length_map]; unfold cs32; rw [List.length_map, List.length_range]; omega)) ⟨_, rfl, ?_⟩
      · have h1 : l ≠ [] := by simpa using h1
        rw [cu_step hl, if_neg h1]
        exact ee_op (ee_var rfl) (ee_un ee_c) (rr_ixL (b := false) (ds := l.map PyData.int) (d := .int (l.getLastD 0)) rfl (last32 h1))
      · have h1 : l = [] := by simpa using h1
        rw [cu_step hl, if_pos h1, ← cs_last]
        exact ee_op (ee_var rfl) (ee_un ee_c) (rr_ixL (b := true) (ds := (cs32 lss (i + 1)).map PyData.int) (d := .int ((cs32 lss (i + 1)).getLastD 0)) rfl (last32 ne))
      · rw [ecs, List.map_append]; rfl
    rintro m ow ⟨d, rfl, rfl⟩
    obtain ⟨C, hC⟩ : ∃ C, C = cs32 lss (lss.length + 1) := ⟨_, rfl⟩
    have lC : C.length ≤ 13 := by rw [hC]; unfold cs32; rw [List.length_map, List.length_range]; omega
    rw [← hC]
    refine ss_seq (ss_set (k := .own 2) (ow1 := [.dic (pl32 lss), .lst (C.map PyData.int), .dic (bkD lss (ids.take 0))]) ee_dnew ?_)
    refine ss_seqI (fun m ow => ∃ d e g h, m = [some (.arg (lgD lss)), some (.arg (lI ids)), some (.v (.int (lss.length : Int))), some (.own 0), some (.own 1), d, some (.own 2), e, g, h] ∧ ow = [.dic (pl32 lss), .lst (C.map PyData.int), .dic (bkD lss ids)])
      (ss_for (fun i m ow => ∃ d e g h, m = [some (.arg (lgD lss)), some (.arg (lI ids)), some (.v (.int (lss.length : Int))), some (.own 0), some (.own 1), d, some (.own 2), e, g, h] ∧ ow = [.dic (pl32 lss), .lst (C.map PyData.int), .dic (bkD lss (ids.take i))]) false (ids.map PyData.int) (ee_var rfl) ⟨_, _, _, _, rfl, rfl⟩ (fun _ _ _ _ h => by obtain ⟨_, _, _, _, rfl, _⟩ := h; rfl) ?_ (fun m ow ⟨d, e, g, h, h1, h2⟩ => ⟨d, e, g, h, h1, by rw [h2, List.length_map, List.take_length]⟩)) (fun m ow ⟨d, e, g, h, h1, h2⟩ => by subst h1; subst h2; exact ss_ret (ee_var rfl) ⟨2, rfl, rfl⟩)
    rintro i dd m ow hd ⟨d, e, g, h, rfl, rfl⟩
    rw [List.getElem?_map] at hd
    obtain ⟨x, hx, rfl⟩ := Option.map_eq_some_iff.mp hd
    have et : ids.take (i + 1) = ids.take i ++ [x] := by rw [List.take_add_one, hx]; rfl
    have nd : (ids.take i ++ [x]).Nodup := by rw [← et]; exact (fo.idO.asc.imp fun h => by omega : ids.Nodup).sublist (List.take_sublist _ _)
    have hv := pl_val fnd x
    have hz : (bkD lss (ids.take i)).length < 1000000 := by unfold bkD; rw [List.length_map, List.length_take]; omega
    have x1 : 1 ≤ x := (fo.idO.ok.ids x (List.mem_of_getElem? hx)).1
    have fin : ∀ B, B = bkD lss (ids.take (i + 1)) → [OC.dic (pl32 lss), .lst (C.map PyData.int), .dic B] = [OC.dic (pl32 lss), .lst (C.map PyData.int), .dic (bkD lss (ids.take (i + 1)))] := fun B e => by rw [e]
    by_cases z : x ∈ lss.flatten
    · rw [if_pos z] at hv
      have eb : bk32 lss x = ((ix32 lss x : Int), (ix32 lss x : Int)) := by unfold bk32; rw [if_pos z]
      refine ss_if (b := true) (eb_eq (eb_test (ee_din (n := 0) (kvs := pl32 lss) (key := .inl x) (ee_var rfl) (ee_var rfl) rfl)) (by rw [hv]; rfl)) (fun _ => ?_) (fun h => by cases h)
      refine ss_ditem (n := 2) (key := .inl x) (d := pQ (bk32 lss x)) (kvs := bkD lss (ids.take i)) (ow1 := [.dic (pl32 lss), .lst (C.map PyData.int), .dic (bkD lss (ids.take i))]) (k := .dat (pQ (bk32 lss x))) (ee_eq (ee_tup (ds := [.int (ix32 lss x : Int), .int (ix32 lss x : Int)]) (ea_cons (k := .v (.int (ix32 lss x : Int))) (ee_dget (n := 0) (key := .inl x) (d := .int (ix32 lss x : Int)) (ee_var rfl) (ee_var rfl) rfl hv) (ea_cons (k := .v (.int (ix32 lss x : Int))) (ee_dget (n := 0) (key := .inl x) (d := .int (ix32 lss x : Int)) (ee_var rfl) (ee_var rfl) rfl hv) ea_nil)) rfl) (by rw [eb]; rfl)) (ee_var rfl) (ee_var rfl) rfl rfl hz ⟨_, _, _, _, rfl, fin _ (by rw [et, bk_put nd])⟩
    · rw [if_neg z] at hv
      have eb : bk32 lss x = (if px32 lss x < lss.length then (px32 lss x : Int) + 1 else (lss.length : Int), (lss.length : Int)) := by unfold bk32; rw [if_neg z]
      have ec : ((C.filter fun c => decide (c < x)).map PyData.int).length = min (lss.length + 1) (px32 lss x + 1) := by rw [List.length_map, hC, cs_cnt fo.log.asc.asc x1 z]
      have ef : (if (((C.filter fun c => decide (c < x)).map PyData.int).length : Int) < (lss.length : Int) then (((C.filter fun c => decide (c < x)).map PyData.int).length : Int) else (lss.length : Int)) = if px32 lss x < lss.length then (px32 lss x : Int) + 1 else (lss.length : Int) := by
        rw [ec]
        split <;> split <;> omega
      refine ss_if (b := false) (eb_eq (eb_test (ee_din (n := 0) (kvs := pl32 lss) (key := .inl x) (ee_var rfl) (ee_var rfl) rfl)) (by rw [hv]; rfl)) (fun h => by cases h) (fun _ => ?_)
      refine ss_ditem (n := 2) (key := .inl x) (d := pQ (bk32 lss x)) (kvs := bkD lss (ids.take i)) (ow1 := [.dic (pl32 lss), .lst (C.map PyData.int), .dic (bkD lss (ids.take i))]) (k := .dat (pQ (bk32 lss x))) (ee_eq (ee_tup (ds := [.int (if px32 lss x < lss.length then (px32 lss x : Int) + 1 else (lss.length : Int)), .int (lss.length : Int)]) (ea_cons (k := .v (.int (if px32 lss x < lss.length then (px32 lss x : Int) + 1 else (lss.length : Int)))) (ee_eqI (ee_cb (ea_cons (ee_var rfl) (ea_cons (ee_cb (ea_cons (ee_lc true C PyData.int (fun c => decide (c < x)) PyData.int (ee_var rfl) rfl (fun c _ => ⟨eb_test (ee_op (ee_var rfl) (ee_var rfl) rr_0), fun _ => ⟨_, rfl, ee_var rfl⟩⟩) (by decide) (by omega)) ea_nil) (cc_len rfl)) ea_nil)) cc_mn2) ef) (ea_cons (k := .v (.int (lss.length : Int))) (ee_var rfl) ea_nil)) rfl) (by rw [eb]; rfl)) (ee_var rfl) (ee_var rfl) rfl rfl hz ⟨_, _, _, _, rfl, fin _ (by rw [et, bk_put nd])⟩⟩

/-! ### _law_bag -/
def bgEnv (sc : List Int) (k : Nat) (x : Int) (a : Option Knd) : Env' := [some (.arg (lI sc)), some (.v (.int (k : Int))), some (.v (.int x)), a]
theorem c_bag (T : Txt K mg) : Cal P w K mg base 1 "_law_bag" (spP (fun a : List Int × Nat => [lI a.1, .int (a.2 : Int)]) (fun a => a.2 ≤ 63) (fun a => lI (mkBag a.1 a.2).l) K) :=
  cal_of T.d_bag fun f fd F => ok_P F sc_bag (fun _ => rfl) fun cdv A outer s H E hr => ⟨_, (pss_cons (ps_set (i := 2) sc_bag.nd rfl (by first | exact .inl rfl | exact .inr rfl) (pe_op op_add pe_int (pv 1))) (pss_cons (ps_for PassesOwn.never rfl (pi_listK (K := K) rfl (pv 0)) (pg_name (i := 3) sc_bag.nd rfl (by first | exact .inl rfl | exact .inr rfl)) (pss_one (ps_set (i := 2) sc_bag.nd rfl (by first | exact .inl rfl | exact .inr rfl) (pe_op op_mod (pe_op op_add (pe_op op_mulW (pv 2) pe_int) (pe_op op_mod (pv 3) (pe_op op_add (pe_op op_pw pe_int pe_int) pe_int))) (pe_op op_add (pe_op op_pw pe_int pe_int) pe_int))))) (pss_cons (ps_set (i := 3) sc_bag.nd rfl (by first | exact .inl rfl | exact .inr rfl) (pe_ifExp (pt_cmpR op_lt (pv 1) (pe_callB call_ln (by rfl) T.n_len (show bootBuiltins "len" = some (.builtin "len") by decide +kernel) (pa_cons (pv 0) pa_nil)) (nomark _)) (pe_callB call_ab (by rfl) T.n_abs (show bootBuiltins "abs" = some (.builtin "abs") by decide +kernel) (pa_cons (pe_ix (ix_listK (K := K) rfl) (pv 0) (pv 1) (fun _ _ => rfl)) pa_nil)) pe_int)) (pss_one (ps_ret (pe_lst (pa_cons (pe_ifExp (pt_cmpR op_ge (pv 3) (pe_op op_pw pe_int pe_int) (nomark _)) (pe_op op_sub (pv 3) (pe_op op_pw pe_int pe_int)) pe_int) (pa_cons (pv 2) (pa_cons pe_int pa_nil))))))))), fun ⟨sc, k⟩ hk => by
    have hk : k ≤ 63 := hk
    refine ss_seq (ss_set (ee_op ee_c (ee_var rfl) rr_0) ?_)
    refine ss_seqI (fun m ow => ∃ a, m = bgEnv sc k (bMix sc k) a ∧ ow = []) (ss_for (fun i m ow => ∃ a, m = bgEnv sc k (bMix (sc.take i) k) a ∧ ow = []) false (sc.map PyData.int) (ee_var rfl) ⟨none, rfl, rfl⟩ (fun _ _ _ _ _ => rfl) ?_ ?_) ?_
    · rintro i d m ow hd ⟨a, rfl, rfl⟩
      rw [List.getElem?_map] at hd
      obtain ⟨c, hc, rfl⟩ := Option.map_eq_some_iff.mp hd
      obtain ⟨q1, q2⟩ := bMix_ok (sc.take i) hk
      refine ss_set (ee_op (ee_op (ee_op (ee_var rfl) ee_c (rr_1 (cmul ?_ (by decide)))) (ee_op (ee_var rfl) (ee_op (ee_op ee_c ee_c (rr_1 (cpw (by decide) (by decide) (by decide)))) ee_c rr_0) (rr_1 (by rw [e40]; decide))) rr_0) (ee_op (ee_op ee_c ee_c (rr_1 (cpw (by decide) (by decide) (by decide)))) ee_c rr_0) (rr_1 (by rw [e38]; decide))) ⟨some (.v (.int c)), ?_, rfl⟩
      · rw [i150] at q2; rw [n200]; omega
      · have : bMix (sc.take (i + 1)) k = (bMix (sc.take i) k * 1000003 + c % (10 ^ (40 : Int).toNat + 121)) % (10 ^ (38 : Int).toNat + 133) := by
          unfold bMix
          rw [take_snocT hc, List.foldl_append]; rfl
        unfold bgEnv
        rw [this]; rfl
    · rintro m ow ⟨a, rfl, rfl⟩
      exact ⟨a, by rw [List.length_map, List.take_length], rfl⟩
    rintro m ow ⟨a, rfl, rfl⟩
    refine ss_seq (ss_set (k := .v (.int (bAbs sc k))) (ee_if (eb_test (ee_op (ee_var rfl) (ee_cb (ea_cons (ee_var rfl) ea_nil) (cc_len rfl)) rr_0)) (fun h => ?_) fun h => ee_eqI ee_c ?_) ?_)
    · have h : (k : Int) < ((sc.map PyData.int).length : Int) := of_decide_eq_true h
      rw [List.length_map] at h
      refine ee_eqI (ee_cb (ea_cons (ee_op (ee_var rfl) (ee_var rfl) (rr_ixI (ns := sc) rfl k (List.getElem?_eq_getElem (by omega)) rfl)) ea_nil) cc_abs) ?_
      have hk2 : k < sc.length := by omega
      have e : sc.getD k 0 = sc[k] := by simp [hk2]
      unfold bAbs
      rw [if_pos hk2, e]
    · have h : ¬ (k : Int) < ((sc.map PyData.int).length : Int) := of_decide_eq_false h
      rw [List.length_map] at h
      unfold bAbs
      rw [if_neg (by omega)]
    refine ss_ret (ee_lst false (ea_cons (ee_eqI (j := if bAbs sc k ≥ 10 ^ (18 : Int).toNat then bAbs sc k - 10 ^ (18 : Int).toNat else 0) (ee_if (k := .v (.int (if bAbs sc k ≥ 10 ^ (18 : Int).toNat then bAbs sc k - 10 ^ (18 : Int).toNat else 0))) (eb_test (ee_op (ee_var rfl) (ee_op ee_c ee_c (rr_1 (cpw (by decide) (by decide) (by decide)))) rr_0)) (fun h => ee_eqI (ee_op (ee_var rfl) (ee_op ee_c ee_c (rr_1 (cpw (by decide) (by decide) (by decide)))) rr_0) ?_) fun h => ee_eqI ee_c ?_) rfl) (ea_cons (ee_var rfl) (ea_cons ee_c ea_nil))) rfl) ⟨0, rfl, rfl⟩
    · rw [if_pos (show bAbs sc k ≥ 10 ^ (18 : Int).toNat from of_decide_eq_true h)]
    · rw [if_neg (show ¬ bAbs sc k ≥ 10 ^ (18 : Int).toNat from of_decide_eq_false h)]⟩

/-! ### _law_take -/
theorem c_take (T : Txt K mg) : Cal P w K mg base 1 "_law_take" (spM (fun a : Src × Int => a.1.l) (fun a => [.int a.2]) (fun a => SrcOk 1 a.1 ∧ 0 < a.2 ∧ a.2 < 2 ^ 150) (fun a => .int (tak a.1 a.2)) (fun a => (nxt a.1 a.2).l) K) :=
  cal_of T.d_take fun f fd F => ok_M F sc_take (fun _ => rfl) fun cdv A outer s H E hr => ⟨_, (pss_cons (ps_if (pt_cmpR op_gt (pe_ix (ix_listK (K := K) rfl) (pv 0) pe_int (fun _ _ => rfl)) pe_int (nomark _)) (pss_cons (ps_set (i := 2) sc_take.nd rfl (by first | exact .inl rfl | exact .inr rfl) (pe_op op_mod (pe_ix (ix_listK (K := K) rfl) (pv 0) pe_int (fun _ _ => rfl)) (pv 1))) (pss_cons (ps_asg (pe_op op_fdivW (pe_ix (ix_listK (K := K) rfl) (pv 0) pe_int (fun _ _ => rfl)) (pv 1)) (pg_sub (pv 0) pe_int set_list)) (pss_one (ps_ret (pv 2))))) pss_nil) (pss_cons (ps_asg (pe_op op_add (pe_ix (ix_listK (K := K) rfl) (pv 0) pe_int (fun _ _ => rfl)) pe_int) (pg_sub (pv 0) pe_int set_list)) (pss_cons (ps_set (i := 3) sc_take.nd rfl (by first | exact .inl rfl | exact .inr rfl) (pe_op op_mod (pe_op op_pw (pe_op op_add (pe_ix (ix_listK (K := K) rfl) (pv 0) pe_int (fun _ _ => rfl)) (pe_op op_mulW pe_int (pe_ix (ix_listK (K := K) rfl) (pv 0) pe_int (fun _ _ => rfl)))) pe_int) (pe_op op_add (pe_op op_pw pe_int pe_int) pe_int))) (pss_cons (ps_set (i := 3) sc_take.nd rfl (by first | exact .inl rfl | exact .inr rfl) (pe_op op_mod (pe_op op_pw (pe_op op_add (pv 3) (pe_op op_mulW pe_int (pe_ix (ix_listK (K := K) rfl) (pv 0) pe_int (fun _ _ => rfl)))) pe_int) (pe_op op_add (pe_op op_pw pe_int pe_int) pe_int))) (pss_one (ps_ret (pe_op op_mod (pe_op op_fdivW (pv 3) pe_int) (pv 1)))))))), fun ⟨s, lim⟩ ⟨ok, h0, hl⟩ => by
    have ok : SrcOk 1 s := ok
    have h0 : 0 < lim := h0
    have hl : lim < 2 ^ 150 := hl
    have hlw : lim.natAbs < 2 ^ 200 := by rw [i150] at hl; rw [n200]; omega
    refine ss_seq (ss_if (eb_test (ee_op (ee_op (ee_var rfl) ee_c (rr_ixL rfl rfl)) ee_c rr_0)) (fun h => ?_) fun h => ss_next ?_)
    · have h : 0 < s.a := of_decide_eq_true h
      refine ss_seq (ss_set (ee_op (ee_op (ee_var rfl) ee_c (rr_ixL rfl rfl)) (ee_var rfl) (rr_1 h0)) (ss_seq (ss_item (ee_op (ee_op (ee_var rfl) ee_c (rr_ixL rfl rfl)) (ee_var rfl) (rr_1 (cdiv h0 hlw))) (ee_var rfl) ee_c rfl rfl rfl (ss_ret (ee_var rfl) ⟨?_, ?_, by simp⟩))))
      · show some (PyData.int (s.a % lim)) = some (.int (tak s lim))
        unfold tak
        rw [if_pos h]
      · show some (OC.lst [.int (s.a / lim), .int s.b, .int s.c]) = some (.lst ((nxt s lim).l.map PyData.int))
        unfold nxt
        rw [if_pos h]; rfl
    · have h : ¬ s.a > 0 := of_decide_eq_false h
      have a0 := ok.b0
      have a1 := ok.b1
      have a2 := ok.c0
      have a3 := ok.c1
      rw [i150] at a1
      rw [i60] at a3
      have m37 : (10 : Int) ^ (37 : Int).toNat + 43 = 10000000000000000000000000000000000043 := by decide
      have m36 : (10 : Int) ^ (36 : Int).toNat + 67 = 1000000000000000000000000000000000067 := by decide
      have p37 : (0 : Int) < 10 ^ (37 : Int).toNat + 43 := by rw [m37]; decide
      have p36 : (0 : Int) < 10 ^ (36 : Int).toNat + 67 := by rw [m36]; decide
      have q1 := Int.emod_nonneg ((s.b + 15485863 * (s.c + 1)) ^ (5 : Int).toNat) (b := 10 ^ (37 : Int).toNat + 43) (by omega)
      have q2 := Int.emod_lt_of_pos ((s.b + 15485863 * (s.c + 1)) ^ (5 : Int).toNat) p37
      refine ss_seq (ss_item (ee_op (ee_op (ee_var rfl) ee_c (rr_ixL rfl rfl)) ee_c rr_0) (ee_var rfl) ee_c rfl rfl rfl ?_)
      refine ss_seq (ss_set (ee_op (ee_op (ee_op (ee_op (ee_var rfl) ee_c (rr_ixL rfl rfl)) (ee_op ee_c (ee_op (ee_var rfl) ee_c (rr_ixL rfl rfl)) (rr_1 (cmul (by decide) ?_))) rr_0) ee_c (rr_1 (cpw (by decide) (by decide) ?_))) (ee_op (ee_op ee_c ee_c (rr_1 (cpw (by decide) (by decide) (by decide)))) ee_c rr_0) (rr_1 p37)) ?_)
      · show (s.c + 1).natAbs < 2 ^ 200
        rw [n200]; omega
      · show (s.b + 15485863 * (s.c + 1)).natAbs < 2 ^ 200
        rw [n200]; omega
      refine ss_seq (ss_set (ee_op (ee_op (ee_op (ee_var rfl) (ee_op ee_c (ee_op (ee_var rfl) ee_c (rr_ixL rfl rfl)) (rr_1 (cmul (by decide) ?_))) rr_0) ee_c (rr_1 (cpw (by decide) (by decide) ?_))) (ee_op (ee_op ee_c ee_c (rr_1 (cpw (by decide) (by decide) (by decide)))) ee_c rr_0) (rr_1 p36)) ?_)
      · show (s.c + 1).natAbs < 2 ^ 200
        rw [n200]; omega
      · show ((s.b + 15485863 * (s.c + 1)) ^ (5 : Int).toNat % (10 ^ (37 : Int).toNat + 43) + 32452843 * (s.c + 1)).natAbs < 2 ^ 200
        rw [m37] at q1 q2 ⊢
        rw [n200]; omega
      refine ss_ret (ee_op (ee_op (ee_var rfl) ee_c (rr_1 (cdiv (by decide) (by decide)))) (ee_var rfl) (rr_1 h0)) ⟨?_, ?_, by simp⟩
      · show some (PyData.int (bm2 s.b (s.c + 1) / 524287 % lim)) = some (.int (tak s lim))
        unfold tak
        rw [if_neg h]
      · show some (OC.lst [.int s.a, .int s.b, .int (s.c + 1)]) = some (.lst ((nxt s lim).l.map PyData.int))
        unfold nxt
        rw [if_neg h]; rfl⟩

/-! ### _law_parts -/
theorem c_parts (T : Txt K mg) : Cal P w K mg base 1 "_law_parts" (spU (fun a : List (List Int) × List Int => [lgD a.1, lI a.2]) (fun a => FitO a.1 a.2) (fun a => lo32 a.1 a.2) (fun a => st32 a.1 a.2) K) :=
  cal_of T.d_parts fun f fd F => ok_U F sc_parts (fun _ => rfl) fun cdv A outer s H E hr => ⟨_, (pss_cons (ps_par (i := 2) (j := 3) (by rfl) sc_parts.nd rfl rfl (by decide) rfl rfl (pa_cons pe_dnewK (pa_cons (pe_lst pa_nil) pa_nil)) (by rfl)) (pss_cons (ps_for PassesOwn.never rfl (pi_listK (K := K) rfl (pv 1)) (pg_name (i := 4) sc_parts.nd rfl (by first | exact .inl rfl | exact .inr rfl)) (pss_cons (ps_setLc (i := 5) (own := [("_law_poll", 6), ("_law_returned", 7)]) (g := _) (by rfl) sc_parts.nd rfl rfl (sw_true rfl rfl rfl (by decide +kernel)) (pi_enumK (K := K) rfl (by rfl) T.n_enumerate (pa_cons (pv 0) pa_nil)) (blkOk_by (N := ["_law_log_here", "_law_ids", "_law_lost", "_law_still", "_law_one", "_law_passed", "_law_poll", "_law_returned"]) (sc := defScope s_parts) (by decide +kernel)) (fun _ _ _ _ _ => (pg_tupK (K := K) (n := 2) rfl rfl (pgs_cons (pg_name (i := 6) sc_parts.nd rfl (by first | exact .inl rfl | exact .inr rfl)) (pgs_cons (pg_name (i := 7) sc_parts.nd rfl (by first | exact .inl rfl | exact .inr rfl)) pgs_nil)))) (fun _ _ _ _ _ => pts_one (PW.pt (pw_and (pt_cmpR (op_neNK (K := K) rfl (by exact hr.r.units)) (pv 7) (pe_lst pa_nil) (nomark _)) (pw_and1 (pt_cmpR op_gt (pe_ix (ix_listK (K := K) rfl) (pv 7) (pe_un un_neg pe_int) (fun _ _ => rfl)) (pv 4) (nomark _)))))) (fun _ _ _ _ _ => (pv 6))) (pss_one (ps_if (pt_cmpR (op_eqNK (K := K) rfl (by exact hr.r.units)) (pe_lc (own := [("_law_returned", 7)]) (g := (gName 7)) (by rfl) sc_parts.nd (pi_listK (K := K) rfl (pv 0)) (blkOk_by (N := ["_law_log_here", "_law_ids", "_law_lost", "_law_still", "_law_one", "_law_passed", "_law_poll", "_law_returned"]) (sc := defScope s_parts) (by decide +kernel)) (fun _ _ _ _ _ => (pg_name (i := 7) sc_parts.nd rfl (by first | exact .inl rfl | exact .inr rfl))) (fun _ _ _ _ _ => pts_one (pt_cmpR (op_inK (K := K) rfl) (pv 4) (pv 7) rfl)) (fun _ _ _ _ _ => (pv 7))) (pe_lst pa_nil) (nomark _)) (pss_one (ps_if (pt_cmpR (op_eqNK (K := K) rfl (by exact hr.r.units)) (pv 5) (pe_lst pa_nil) (nomark _)) (pss_one (ps_expr (pe_bm PySem.F.plainAttrs_list PySem.F.slot_list_append PySem.F.type_list_append mt_append (pv 3) (pa_cons (pv 4) pa_nil)))) (pss_one (ps_asg (pe_ix (ix_listK (K := K) rfl) (pv 5) pe_int (fun _ _ => rfl)) (pg_sub (pv 2) (pv 4) (set_dict (by exact Nat.lt_of_le_of_lt (Nat.add_le_add_left (show 1 ≤ 64 by decide) _) hr.r.units))))))) pss_nil)))) (pss_one (ps_ret (pe_tup (pa_cons (pv 2) (pa_cons (pv 3) pa_nil))))))), fun ⟨lss, ids⟩ fo => by
    have fo : FitO lss ids := fo
    have h12 : lss.length ≤ 12 := fo.log.len
    have h30 : ids.length ≤ 30 := fo.idO.ok.len
    refine ss_seq (ss_par (i := 2) (j := 3) (ea_cons (ow1 := [.dic []]) ee_dnew (ea_cons (ow1 := [.dic [], .lst []]) (ee_lst false ea_nil rfl) ea_nil)) ?_)
    refine ss_seqI (fun m ow => (∃ a b c d, m = [some (.arg (lgD lss)), some (.arg (lI ids)), some (.own 0), some (.own 1), a, b, c, d]) ∧ ow = [.dic (lP (lo32 lss ids)), .lst ((st32 lss ids).map PyData.int)])
      (ss_for (fun i m ow => (∃ a b c d, m = [some (.arg (lgD lss)), some (.arg (lI ids)), some (.own 0), some (.own 1), a, b, c, d]) ∧ ow = [.dic (lP (lo32 lss (ids.take i))), .lst ((st32 lss (ids.take i)).map PyData.int)]) false (ids.map PyData.int) (ee_var rfl) ⟨⟨_, _, _, _, rfl⟩, rfl⟩ (fun _ _ _ _ h => by obtain ⟨⟨_, _, _, _, rfl⟩, _⟩ := h; rfl) ?_ (fun m ow ⟨h1, h2⟩ => ⟨h1, by rw [h2, List.length_map, List.take_length]⟩)) ?_
    · rintro i dd m ow hd ⟨⟨a, b, c, d, rfl⟩, rfl⟩
      rw [List.getElem?_map] at hd
      obtain ⟨x, hx, rfl⟩ := Option.map_eq_some_iff.mp hd
      have et : ids.take (i + 1) = ids.take i ++ [x] := by rw [List.take_add_one, hx]; rfl
      have nd : (ids.take i ++ [x]).Nodup := by rw [← et]; exact (fo.idO.asc.imp fun h => by omega : ids.Nodup).sublist (List.take_sublist _ _)
      obtain ⟨r, hr⟩ := enf0 (fun l : List Int => !decide (l = []) && decide (l.getLastD 0 > x)) lss
      refine ss_seq (ss_set (k := .dat (.list (if px32 lss x < lss.length then PyData.int (px32 lss x : Int) :: r else []))) (ow1 := [.dic (lP (lo32 lss (ids.take i))), .lst ((st32 lss (ids.take i)).map PyData.int)]) (ee_as (b := true) (ee_lcE (j1 := 6) (j2 := 7) true lss lI (fun p => !decide (p.2 = []) && decide (p.2.getLastD 0 > x)) (fun p => .int (p.1 : Int)) (ea_cons (ee_var rfl) ea_nil) rfl (fun k l hl => ⟨?_, fun _ => ⟨_, rfl, ee_var rfl⟩⟩) (by decide) (by decide) (by omega)) hr) ?_)
      · refine eb_and (eb_eq (eb_test (ee_op (ee_var rfl) (ee_lst true ea_nil rfl) (rr_neN (ds := l.map PyData.int) rfl rfl))) ?_) fun h1 => eb_test (ee_op (ee_op (ee_var rfl) (ee_un ee_c) (rr_ixL (b := false) (ds := l.map PyData.int) (d := .int (l.getLastD 0)) rfl (last32 ?_))) (ee_var rfl) rr_0)
        · cases l <;> rfl
        · intro e; rw [e] at h1; cases h1
      refine ss_if (b := !decide (x ∈ lss.flatten)) (eb_eq (eb_test (ee_op (ee_lcA lss lI (fun l => decide (x ∈ l)) lI (ee_var rfl) rfl (fun l _ => ⟨eb_test (ee_op (ee_var rfl) (ee_var rfl) (rr_in (neg := false) (ns := l) rfl)), fun _ => ⟨_, rfl, ee_var rfl⟩⟩) (by decide) (by omega)) (ee_lst true ea_nil rfl) (rr_eqN (ds := (lss.filter fun l => decide (x ∈ l)).map lI) rfl rfl))) (by rw [List.isEmpty_map, holders])) (fun h1 => ?_) (fun h1 => ss_next ⟨⟨_, _, _, _, rfl⟩, ?_⟩)
      · have h1 : x ∉ lss.flatten := by simpa using h1
        by_cases z : px32 lss x < lss.length
        · rw [if_pos z]
          refine ss_if (b := false) (eb_eq (eb_test (ee_op (ee_var rfl) (ee_lst true ea_nil rfl) (rr_eqN (ds := PyData.int (px32 lss x : Int) :: r) rfl rfl))) rfl) (fun h => by cases h) fun _ => ?_
          refine ss_ditem (n := 0) (key := .inl x) (d := .int (px32 lss x : Int)) (kvs := lP (lo32 lss (ids.take i))) (ow1 := [.dic (lP (lo32 lss (ids.take i))), .lst ((st32 lss (ids.take i)).map PyData.int)]) (ee_op (ee_var rfl) ee_c (rr_ixL (b := true) (ds := PyData.int (px32 lss x : Int) :: r) (d := .int (px32 lss x : Int)) rfl (at0_32 _ _))) (ee_var rfl) (ee_var rfl) rfl rfl ?_ ⟨⟨_, _, _, _, rfl⟩, ?_⟩
          · unfold lP lo32
            rw [List.length_map, List.length_map]
            have := List.length_filter_le (fun x => !decide (x ∈ lss.flatten) && decide (px32 lss x < lss.length)) (ids.take i)
            rw [List.length_take] at this
            omega
          · rw [lo_put nd h1 z, et]
            have : st32 lss (ids.take i ++ [x]) = st32 lss (ids.take i) := by
              unfold st32
              rw [List.filter_append, List.filter_cons_of_neg (by rw [decide_eq_true z]; simp)]; simp
            rw [this]; rfl
        · rw [if_neg z]
          refine ss_if (b := true) (eb_eq (eb_test (ee_op (ee_var rfl) (ee_lst true ea_nil rfl) (rr_eqN (ds := []) rfl rfl))) rfl) (fun _ => ?_) (fun h => by cases h)
          refine ss_expr (ee_append (n := 1) (ds := (st32 lss (ids.take i)).map PyData.int) (ow2 := [.dic (lP (lo32 lss (ids.take i))), .lst ((st32 lss (ids.take i)).map PyData.int)]) (ee_var rfl) rfl (ea_cons (ee_var rfl) ea_nil) rfl rfl ?_) ⟨⟨_, _, _, _, rfl⟩, ?_⟩
          · rw [List.length_map]
            have := List.length_filter_le (fun x => !decide (x ∈ lss.flatten) && !decide (px32 lss x < lss.length)) (ids.take i)
            rw [List.length_take] at this
            unfold st32; omega
          · rw [et]
            have e1 : lo32 lss (ids.take i ++ [x]) = lo32 lss (ids.take i) := by
              unfold lo32
              rw [List.filter_append, List.filter_cons_of_neg (by rw [decide_eq_false z]; simp)]; simp
            have e2 : st32 lss (ids.take i ++ [x]) = st32 lss (ids.take i) ++ [x] := by
              unfold st32
              rw [List.filter_append, List.filter_cons_of_pos (by rw [decide_eq_false z, decide_eq_false h1]; rfl)]; rfl
            rw [e1, e2, List.map_append]; rfl
      · have h1 : x ∈ lss.flatten := by simpa using h1
        rw [et]
        have e1 : lo32 lss (ids.take i ++ [x]) = lo32 lss (ids.take i) := by
          unfold lo32
          rw [List.filter_append, List.filter_cons_of_neg (by rw [decide_eq_true h1]; simp)]; simp
        have e2 : st32 lss (ids.take i ++ [x]) = st32 lss (ids.take i) := by
          unfold st32
          rw [List.filter_append, List.filter_cons_of_neg (by rw [decide_eq_true h1]; simp)]; simp
        rw [e1, e2]; rfl
    · rintro m ow ⟨⟨a, b, c, d, rfl⟩, rfl⟩
      exact ss_ret (k := .own 2) (ow1 := [.dic (lP (lo32 lss ids)), .lst ((st32 lss ids).map PyData.int), .tpl [.own 0, .own 1]]) (ee_tupG (ea_cons (ee_var rfl) (ea_cons (ee_var rfl) ea_nil)) (by decide)) ⟨2, 0, 1, rfl, rfl, rfl, rfl, by decide⟩⟩

/-! ### is_between -/
theorem c_is_between (T : Txt K mg) : Cal P w K mg base 2 "is_between" (spP (fun a : PyData × Int × Int => [a.1, .int a.2.1, .int a.2.2]) (fun a => noD a.1) (fun a => .bool (inB a.1 a.2.1 a.2.2)) K) :=
  cal_of T.d_is_between fun f fd F => ok_P F sc_is_between (fun _ => rfl) fun cdv A outer s H E hr => ⟨_, (pss_one (ps_ret (pe_and (pe_cal (c_is_integer T) hr (by decide) (by rfl) (pa_cons (pv 0) pa_nil)) (pe_one (pe_chain op_le op_le (pv 1) (pv 0) (pv 2)))))), fun ⟨d, lo, hi⟩ hd => by
    cases d with
    | dict kvs => exact ss_ret (ee_andF (ee_call true _ (ea_cons (ee_var rfl) ea_nil) rfl hd)) (by rfl)
    | int i => exact ss_ret (ee_and (ee_call true _ (ea_cons (ee_var rfl) ea_nil) rfl hd) (fun _ => (ee_chain (ee_var rfl) (ee_var rfl) (ee_var rfl)))) (by rfl)
    | bool b => exact ss_ret (ee_andF (ee_call true _ (ea_cons (ee_var rfl) ea_nil) rfl hd)) (by rfl)
    | none => exact ss_ret (ee_andF (ee_call true _ (ea_cons (ee_var rfl) ea_nil) rfl hd)) (by rfl)
    | str z => exact ss_ret (ee_andF (ee_call true _ (ea_cons (ee_var rfl) ea_nil) rfl hd)) (by rfl)
    | list ds => exact ss_ret (ee_andF (ee_call true _ (ea_cons (ee_var rfl) ea_nil) rfl hd)) (by rfl)
    | tuple ds => exact ss_ret (ee_andF (ee_call true _ (ea_cons (ee_var rfl) ea_nil) rfl hd)) (by rfl)⟩

/-! ### unknown_id -/
theorem c_unknown_id (T : Txt K mg) : Cal P w K mg base 2 "unknown_id" (spP (fun a : List (List Int) × List Int => [lgD a.1, lI a.2]) (fun a => FitO a.1 a.2) (fun _ => .none) K) :=
  cal_of T.d_unknown_id fun f fd F => ok_P F sc_unknown_id (fun _ => rfl) fun cdv A outer s H E hr => ⟨_, (pss_cons (ps_for PassesOwn.never rfl (pi_listK (K := K) rfl (pe_cal (c_returned_by T) hr (by decide) (by rfl) (pa_cons (pv 0) pa_nil))) (pg_name (i := 2) sc_unknown_id.nd rfl (by first | exact .inl rfl | exact .inr rfl)) (pss_one (ps_if (pt_cmpR (op_notInK (K := K) rfl) (pv 2) (pv 1) rfl) (pss_one (ps_ret (pv 2))) pss_nil))) (pss_one (ps_ret pe_non))), fun ⟨lss, ids⟩ fo => by
    have fo : FitO lss ids := fo
    have h30 : lss.flatten.length ≤ 30 := fo.log.asc.ok.len
    refine ss_seqI (fun m ow => True) (ss_for (fun i m ow => ∃ a, m = [some (.arg (lgD lss)), some (.arg (lI ids)), a] ∧ ow = []) true (lss.flatten.map PyData.int) (k := .dat (lI lss.flatten)) (ee_call true lss (ea_cons (ee_var rfl) ea_nil) rfl (by show lss.flatten.length ≤ 1000; omega)) ⟨_, rfl, rfl⟩ (fun _ _ _ _ h => rfl) ?_ (fun m ow h => trivial)) (fun m ow _ => ss_ret ee_c rfl)
    rintro i dd m ow hd ⟨a, rfl, rfl⟩
    rw [List.getElem?_map] at hd
    obtain ⟨x, hx, rfl⟩ := Option.map_eq_some_iff.mp hd
    have hm : x ∈ ids := fo.sub.subset (List.mem_of_getElem? hx)
    exact ss_if (b := false) (eb_eq (eb_test (ee_op (ee_var rfl) (ee_var rfl) (rr_in (neg := true) (ns := ids) rfl))) (by rw [if_pos rfl, decide_eq_true hm]; rfl)) (fun h => by cases h) fun _ => ss_next ⟨_, rfl, rfl⟩⟩

/-! ### _check_one_of -/
theorem c_p_check_one_of (T : Txt K mg) : Cal P w K mg base 2 "_check_one_of" (spP (fun a : List Int × Int => [lI a.1, .int a.2]) (fun a => a.2 ∈ a.1) (fun _ => .none) K) :=
  cal_of T.d_p_check_one_of fun f fd F => ok_P F sc_p_check_one_of (fun _ => rfl) fun cdv A outer s H E hr => ⟨_, (pss_one (ps_if (PW.pt (pw_or (pt_not (pt_val (pe_cal (c_is_integer T) hr (by decide) (by rfl) (pa_cons (pv 1) pa_nil)))) (pw_or1 (pt_cmpR (op_notInK (K := K) rfl) (pv 1) (pv 0) rfl)))) (pss_one ps_never) pss_nil)), fun ⟨ids, x⟩ hx => by
    have hx : x ∈ ids := hx
    exact ss_if (b := false) (eb_orF (eb_not (b := true) (eb_val (ee_call true (PyData.int x) (ea_cons (ee_var rfl) ea_nil) rfl (fun _ _ => trivial)))) (eb_eq (eb_test (ee_op (ee_var rfl) (ee_var rfl) (rr_in (neg := true) (ns := ids) rfl))) (by rw [if_pos rfl, decide_eq_true hx]; rfl))) (fun h => by cases h) fun _ => ss_next rfl⟩

/-! ### _law_log -/
theorem c_log (T : Txt K mg) : Cal P w K mg base 2 "_law_log" (spL (fun a : Src × Nat × Nat × Nat => a.1.l) (fun a => [.int (a.2.1 : Int), .int (a.2.2.1 : Int)]) (fun a => SrcOk (a.2.2.2 + 1000) a.1 ∧ a.2.1 ≤ 30 ∧ a.2.2.1 ≤ 12)
    (fun a lss ids ns => ∃ s' : Src, ns = s'.l ∧ SrcOk a.2.2.2 s' ∧ LogO lss ∧ AscO ids ∧ lss.flatten.Sublist ids ∧ ids.length ≤ a.2.1 ∧ lss.length ≤ a.2.2.1) K) :=
  cal_of T.d_log fun f fd F => ok_L F sc_log (fun _ => rfl) fun cdv A outer s H E hr => ⟨_, (pss_cons (ps_par (i := 3) (j := 4) (by rfl) sc_log.nd rfl rfl (by decide) rfl rfl (pa_cons (pe_ix (ix_listK (K := K) rfl) (pe_lst (pa_cons pe_int (pa_cons pe_int (pa_cons pe_int (pa_cons (pe_op op_pw pe_int pe_int) pa_nil))))) (pe_cal (c_take T) hr (by decide) (by rfl) (pa_cons (pv 0) (pa_cons pe_int pa_nil))) (fun _ _ => rfl)) (pa_cons (pe_ix (ix_listK (K := K) rfl) (pe_lst (pa_cons pe_int (pa_cons pe_int (pa_cons pe_int pa_nil)))) (pe_cal (c_take T) hr (by decide) (by rfl) (pa_cons (pv 0) (pa_cons pe_int pa_nil))) (fun _ _ => rfl)) pa_nil)) (by rfl)) (pss_cons (ps_par3 (i := 5) (j := 6) (l := 7) (by rfl) sc_log.nd rfl rfl rfl (by decide) (by decide) (by decide) rfl rfl rfl (pa_cons (pe_lst pa_nil) (pa_cons (pe_lst pa_nil) (pa_cons (pe_ix (ix_listK (K := K) rfl) (pe_lst (pa_cons pe_int (pa_cons (pe_op op_sub (pe_op op_sub (pe_op op_pw pe_int pe_int) (pe_op op_mulW pe_int (pv 3))) pe_int) pa_nil))) (pe_callTy call_in1 (by rfl) T.n_int (by decide +kernel) (pa_cons (pe_cmpR op_gt (pv 3) pe_int (nomark _)) pa_nil)) (fun _ _ => rfl)) pa_nil))) (by rfl)) (pss_cons (ps_par (i := 8) (j := 9) (by rfl) sc_log.nd rfl rfl (by decide) rfl rfl (pa_cons (pe_cal (c_take T) hr (by decide) (by rfl) (pa_cons (pv 0) (pa_cons (pe_op op_add (pv 2) pe_int) pa_nil))) (pa_cons (pe_cal (c_take T) hr (by decide) (by rfl) (pa_cons (pv 0) (pa_cons (pe_op op_add (pv 1) pe_int) pa_nil))) pa_nil)) (by rfl)) (pss_cons (ps_for PassesOwn.never rfl (pi_range1 (by rfl) T.n_range (pa_cons (pv 8) pa_nil)) (pg_name (i := 10) sc_log.nd rfl (by first | exact .inl rfl | exact .inr rfl)) (pss_cons (ps_expr (pe_bm PySem.F.plainAttrs_list PySem.F.slot_list_append PySem.F.type_list_append mt_append (pv 5) (pa_cons (pe_lst pa_nil) pa_nil))) (pss_one (ps_for PassesOwn.never rfl (pi_range1 (by rfl) T.n_range (pa_cons (pe_ix (ix_listK (K := K) rfl) (pe_lst (pa_cons pe_int (pa_cons pe_int (pa_cons pe_int (pa_cons pe_int (pa_cons pe_int (pa_cons pe_int (pa_cons pe_int pa_nil)))))))) (pe_cal (c_take T) hr (by decide) (by rfl) (pa_cons (pv 0) (pa_cons pe_int pa_nil))) (fun _ _ => rfl)) pa_nil)) (pg_name (i := 11) sc_log.nd rfl (by first | exact .inl rfl | exact .inr rfl)) (pss_one (ps_if (pt_cmpR op_lt (pe_callB call_ln (by rfl) T.n_len (show bootBuiltins "len" = some (.builtin "len") by decide +kernel) (pa_cons (pv 6) pa_nil)) (pv 9) (nomark _)) (pss_cons (ps_set (i := 7) sc_log.nd rfl (by first | exact .inl rfl | exact .inr rfl) (pe_op op_add (pe_op op_add (pv 7) pe_int) (pe_cal (c_take T) hr (by decide) (by rfl) (pa_cons (pv 0) (pa_cons (pv 3) pa_nil))))) (pss_cons (ps_expr (pe_bm PySem.F.plainAttrs_list PySem.F.slot_list_append PySem.F.type_list_append mt_append (pv 6) (pa_cons (pv 7) pa_nil))) (pss_one (ps_if (pt_cmpR op_lt (pe_cal (c_take T) hr (by decide) (by rfl) (pa_cons (pv 0) (pa_cons (pe_op op_add (pv 4) pe_int) pa_nil))) (pv 4) (nomark _)) (pss_one (ps_expr (pe_bm PySem.F.plainAttrs_list PySem.F.slot_list_append PySem.F.type_list_append mt_append (pe_ix (ix_listK (K := K) rfl) (pv 5) (pe_un un_neg pe_int) (fun _ _ => rfl)) (pa_cons (pv 7) pa_nil)))) pss_nil)))) pss_nil)))))) (pss_cons (ps_for PassesOwn.never rfl (pi_range1 (by rfl) T.n_range (pa_cons (pe_callB (call_mn2 rfl) (by rfl) T.n_min (by decide +kernel) (pa_cons (pe_op op_sub (pv 9) (pe_callB call_ln (by rfl) T.n_len (show bootBuiltins "len" = some (.builtin "len") by decide +kernel) (pa_cons (pv 6) pa_nil))) (pa_cons (pe_cal (c_take T) hr (by decide) (by rfl) (pa_cons (pv 0) (pa_cons pe_int pa_nil))) pa_nil))) pa_nil)) (pg_name (i := 11) sc_log.nd rfl (by first | exact .inl rfl | exact .inr rfl)) (pss_cons (ps_set (i := 7) sc_log.nd rfl (by first | exact .inl rfl | exact .inr rfl) (pe_op op_add (pv 7) pe_int)) (pss_one (ps_expr (pe_bm PySem.F.plainAttrs_list PySem.F.slot_list_append PySem.F.type_list_append mt_append (pv 6) (pa_cons (pv 7) pa_nil)))))) (pss_one (ps_ret (pe_tup (pa_cons (pv 5) (pa_cons (pv 6) pa_nil)))))))))), fun ⟨s, most, polls, n0⟩ ⟨so, hm, hp⟩ => by
    have so : SrcOk (n0 + 1000) s := so
    have hm : most ≤ 30 := hm
    have hp : polls ≤ 12 := hp
    have p100 := t100
    have e28 : (10 : Int) ^ (28 : Int).toNat = 10000000000000000000000000000 := by decide
    have e30 : (10 : Int) ^ (30 : Int).toNat = 1000000000000000000000000000000 := by decide
    have la := tlim (z := 4) (by decide) (by decide) (so.mono (k := n0 + 999 + 1) (by omega))
    have oa := nxt_ok (lim := 4) (so.mono (k := n0 + 999 + 1) (by omega))
    have a0 := tak_lo s (lim := 4) (by decide)
    have a1 := tak_hi s (lim := 4) (by decide)
    have lb := tlim (z := 3) (by decide) (by decide) (oa.mono (k := n0 + 998 + 1) (by omega))
    have ob := nxt_ok (lim := 3) (oa.mono (k := n0 + 998 + 1) (by omega))
    have b0 := tak_lo (nxt s 4) (lim := 3) (by decide)
    have b1 := tak_hi (nxt s 4) (lim := 3) (by decide)
    obtain ⟨w1, w2, w3, w4⟩ := wd4_ok (tak s 4)
    obtain ⟨rare, hra, r1, r2⟩ := rare_at b0 b1
    have hwa := wd4_at a0 a1
    obtain ⟨W, hW⟩ : ∃ W, W = wd4 (tak s 4) := ⟨_, rfl⟩
    rw [← hW] at w1 w2 w3 w4 hwa
    refine ss_seq (ss_par (i := 3) (j := 4) (ea_cons (k := .v (.int W)) (ow1 := [.lst ((nxt s 4).l.map PyData.int)]) (ee_op (ee_lst true (ea_cons ee_c (ea_cons ee_c (ea_cons ee_c (ea_cons (ee_op ee_c ee_c (rr_1 (cpw (by decide) (by decide) (by decide)))) ea_nil)))) rfl) (ee_callM true (s, 4) 0 (ea_cons (ee_var rfl) (ea_cons ee_c ea_nil)) rfl rfl la) (rr_ixI (ns := [1, 3, 9, 10 ^ (28 : Int).toNat]) rfl _ hwa (Int.toNat_of_nonneg a0).symm)) (ea_cons (k := .v (.int rare)) (ee_op (ee_lst true (ea_cons ee_c (ea_cons ee_c (ea_cons ee_c ea_nil))) rfl) (ee_callM true (nxt s 4, 3) 0 (ea_cons (ee_var rfl) (ea_cons ee_c ea_nil)) rfl rfl lb) (rr_ixI (ns := [1, 2, 4]) rfl _ hra (Int.toNat_of_nonneg b0).symm)) ea_nil)) ?_)
    generalize nxt (nxt s 4) 3 = s2 at ob
    have hh : ([0, 10 ^ (30 : Int).toNat - 30 * W - 30] : List Int)[(if decide (W > 9) = true then (1 : Int) else 0).toNat]? = some (hr4 W) := by
      unfold hr4
      by_cases z : W > 9
      · rw [decide_eq_true z, if_pos z]; rfl
      · rw [decide_eq_false z, if_neg z]; rfl
    refine ss_seq (ss_par3 (a := 5) (b := 6) (c := 7) (k1 := .own 1) (k2 := .own 2) (k3 := .v (.int (hr4 W))) (ow1 := [.lst (s2.l.map PyData.int), .lst [], .lst []]) (ea_cons (ow1 := [.lst (s2.l.map PyData.int), .lst []]) (ee_lst false ea_nil rfl) (ea_cons (ow1 := [.lst (s2.l.map PyData.int), .lst [], .lst []]) (ee_lst false ea_nil rfl) (ea_cons (ee_op (ee_lst true (ds := [.int 0, .int (10 ^ (30 : Int).toNat - 30 * W - 30)]) (ea_cons ee_c (ea_cons (ee_op (ee_op (ee_op ee_c ee_c (rr_1 (cpw (by decide) (by decide) (by decide)))) (ee_op ee_c (ee_var rfl) (rr_1 (cmul (by decide) (by omega)))) rr_0) ee_c rr_0) ea_nil)) rfl) (ee_cb (ea_cons (ee_op (ee_var rfl) ee_c rr_0) ea_nil) cc_intB) (rr_ixI (ns := [0, 10 ^ (30 : Int).toNat - 30 * W - 30]) rfl _ hh (by split <;> rfl))) ea_nil))) ?_)
    have z0 : (0 : Int) < (polls : Int) + 1 := by omega
    have y0 : (0 : Int) < (most : Int) + 1 := by omega
    have lc := tlim (z := (polls : Int) + 1) z0 (by omega) (ob.mono (k := n0 + 997 + 1) (by omega))
    have oc := nxt_ok (lim := (polls : Int) + 1) (ob.mono (k := n0 + 997 + 1) (by omega))
    have c0 := tak_lo s2 z0
    have c1 := tak_hi s2 z0
    have ld := tlim (z := (most : Int) + 1) y0 (by omega) (oc.mono (k := n0 + 996 + 1) (by omega))
    have od := nxt_ok (lim := (most : Int) + 1) (oc.mono (k := n0 + 996 + 1) (by omega))
    have d0 := tak_lo (nxt s2 ((polls : Int) + 1)) y0
    have d1 := tak_hi (nxt s2 ((polls : Int) + 1)) y0
    obtain ⟨lists, hli⟩ : ∃ q : Nat, tak s2 ((polls : Int) + 1) = (q : Int) := ⟨(tak s2 ((polls : Int) + 1)).toNat, by omega⟩
    obtain ⟨room, hro⟩ : ∃ q : Nat, tak (nxt s2 ((polls : Int) + 1)) ((most : Int) + 1) = (q : Int) := ⟨(tak (nxt s2 ((polls : Int) + 1)) ((most : Int) + 1)).toNat, by omega⟩
    have hl12 : lists ≤ polls := by omega
    have hr30 : room ≤ most := by omega
    refine ss_seq (ss_par (i := 8) (j := 9) (ea_cons (k := .v (.int (lists : Int))) (ow1 := [.lst ((nxt s2 ((polls : Int) + 1)).l.map PyData.int), .lst [], .lst []]) (ee_eqI (ee_callM true (s2, (polls : Int) + 1) 0 (ea_cons (ee_var rfl) (ea_cons (ee_op (ee_var rfl) ee_c rr_0) ea_nil)) rfl rfl lc) hli) (ea_cons (k := .v (.int (room : Int))) (ee_eqI (ee_callM true (nxt s2 ((polls : Int) + 1), (most : Int) + 1) 0 (ea_cons (ee_var rfl) (ea_cons (ee_op (ee_var rfl) ee_c rr_0) ea_nil)) rfl rfl ld) hro) ea_nil)) ?_)
    generalize nxt (nxt s2 ((polls : Int) + 1)) ((most : Int) + 1) = s3 at od
    refine ss_tr0 1 ?_
    show SS K _ (loEnv47 most polls W rare (hr4 W) lists room none none) [.lst (s3.l.map PyData.int), .tr [] (lil []), .lst (([] : List Int).map PyData.int)] _
    refine ss_seqI (fun m ow => ∃ (s' : Src) (qs : List Addr) (lss : List (List Int)) (ids : List Int) (here : Int) (a b : Option Knd), m = loEnv47 most polls W rare here lists room a b ∧ ow = [.lst (s'.l.map PyData.int), .tr qs (lil lss), .lst (ids.map PyData.int)] ∧ LgI W lss ids here ∧ ids.length ≤ room ∧ lss.length = lists ∧ SrcOk (n0 + 10) s')
      (ss_forR (fun t m ow => ∃ (s' : Src) (qs : List Addr) (lss : List (List Int)) (ids : List Int) (here : Int) (a b : Option Knd), m = loEnv47 most polls W rare here lists room a b ∧ ow = [.lst (s'.l.map PyData.int), .tr qs (lil lss), .lst (ids.map PyData.int)] ∧ LgI W lss ids here ∧ ids.length ≤ room ∧ lss.length = t ∧ qs.length = t ∧ SrcOk (n0 + 10 + 61 * (12 - t)) s') lists (ea_cons (ee_var rfl) ea_nil) (by omega) (by omega) ⟨s3, [], [], [], _, none, none, rfl, rfl, LgI.start W, Nat.zero_le _, rfl, rfl, od.mono (by omega)⟩ ?_ (fun m ow ⟨s', qs, lss, ids, here, a, b, h1, h2, h3, h4, h5, _, h6⟩ => ⟨s', qs, lss, ids, here, a, b, h1, h2, h3, h4, h5, h6.mono (by omega)⟩)) ?_
    · rintro t m ow ht ⟨s4, qs, lss, ids, here, a, b, rfl, rfl, li, lr, ll, lq, so4⟩
      refine ss_seq (ss_trapp (n := 1) (ow2 := [.lst (s4.l.map PyData.int), .tr qs (lil lss), .lst (ids.map PyData.int)]) (ds := []) (ee_var rfl) rfl (ea_cons (k := .own 3) (ow1 := [.lst (s4.l.map PyData.int), .tr qs (lil lss), .lst (ids.map PyData.int), .lst []]) (ee_lst false ea_nil rfl) ea_nil) rfl (by rw [lil_len]; omega) (fun q => ?_) (Nat.le_of_ble_eq_true rfl))
      have e1 : lil lss ++ [[]] = lil (lss ++ [[]]) := by unfold lil; rw [List.map_append]; rfl
      show SS K _ (loEnv47 most polls W rare here lists room (some (.v (.int (t : Int)))) (trimS 3 b)) [.lst (s4.l.map PyData.int), .tr (qs ++ [q]) (lil lss ++ [[]]), .lst (ids.map PyData.int)] _
      rw [e1]
      have so4 := so4.mono (k := n0 + 10 + 61 * (12 - (t + 1)) + 60 + 1) (by omega)
      have le := tlim (z := 7) (by decide) (by decide) so4
      have oe := nxt_ok (lim := 7) so4
      have e0 := tak_lo s4 (lim := 7) (by decide)
      have e2 := tak_hi s4 (lim := 7) (by decide)
      obtain ⟨tn, htn, htn2⟩ := seven_at e0 e2
      refine ss_forR (fun u m ow => ∃ (s' : Src) (qs : List Addr) (lss : List (List Int)) (ids : List Int) (here : Int) (b : Option Knd), m = loEnv47 most polls W rare here lists room (some (.v (.int (t : Int)))) b ∧ ow = [.lst (s'.l.map PyData.int), .tr qs (lil lss), .lst (ids.map PyData.int)] ∧ LgI W lss ids here ∧ ids.length ≤ room ∧ lss.length = t + 1 ∧ qs.length = t + 1 ∧ SrcOk (n0 + 10 + 61 * (12 - (t + 1)) + 2 * (30 - u)) s') tn (ea_cons (k := .v (.int (tn : Int))) (ow1 := [.lst ((nxt s4 7).l.map PyData.int), .tr (qs ++ [q]) (lil (lss ++ [[]])), .lst (ids.map PyData.int)]) (ee_op (ee_lst true (ds := [.int 0, .int 1, .int 1, .int 2, .int 3, .int 6, .int 30]) (ea_cons ee_c (ea_cons ee_c (ea_cons ee_c (ea_cons ee_c (ea_cons ee_c (ea_cons ee_c (ea_cons ee_c ea_nil))))))) rfl) (ee_callM true (s4, 7) 0 (ea_cons (ee_var rfl) (ea_cons ee_c ea_nil)) rfl rfl le) (rr_ixI (ns := [0, 1, 1, 2, 3, 6, 30]) rfl _ htn (Int.toNat_of_nonneg e0).symm)) ea_nil) (by omega) (by omega) ⟨nxt s4 7, qs ++ [q], lss ++ [[]], ids, here, _, rfl, rfl, li.list, lr, by rw [List.length_append, ll]; rfl, by rw [List.length_append, lq]; rfl, oe.mono (by omega)⟩ ?_ (fun m ow ⟨s', qs, lss, ids, here, b, h1, h2, h3, h4, h5, h6, h7⟩ => ⟨s', qs, lss, ids, here, _, b, h1, h2, h3, h4, h5, h6, h7.mono (by omega)⟩)
      rintro u m ow hu ⟨s5, qs, lss, ids, here, b, rfl, rfl, li, lr, ll, lq, so5⟩
      have idl : ((ids.map PyData.int).length : Int) = (ids.length : Int) := by rw [List.length_map]
      refine ss_if (b := decide ((ids.length : Int) < (room : Int))) (eb_test (ee_op (ee_eqI (ee_cb (ea_cons (ee_var rfl) ea_nil) (cc_len rfl)) idl) (ee_var rfl) rr_0)) (fun hb => ?_) (fun _ => ss_next ⟨s5, qs, lss, ids, here, _, rfl, rfl, li, lr, ll, lq, so5.mono (by omega)⟩)
      have hb : (ids.length : Int) < (room : Int) := of_decide_eq_true hb
      have so5 := so5.mono (k := n0 + 10 + 61 * (12 - (t + 1)) + 2 * (30 - (u + 1)) + 1 + 1) (by omega)
      have lf := tlim (z := W) (by omega) (by omega) so5
      have of := nxt_ok (lim := W) so5
      have f0 := tak_lo s5 (lim := W) (by omega)
      have f1 := tak_hi s5 (lim := W) (by omega)
      refine ss_seq (ss_set (ee_op (ee_op (ee_var rfl) ee_c rr_0) (ee_callM true (s5, W) 0 (ea_cons (ee_var rfl) (ea_cons (ee_var rfl) ea_nil)) rfl rfl lf) rr_0) ?_)
      generalize tak s5 W = r at f0 f1
      generalize nxt s5 W = s6 at of
      refine ss_seq (ss_expr (ee_append (n := 2) (ds := ids.map PyData.int) (ow2 := [.lst (s6.l.map PyData.int), .tr qs (lil lss), .lst (ids.map PyData.int)]) (ee_var rfl) rfl (ea_cons (ee_var rfl) ea_nil) rfl rfl (by rw [List.length_map]; omega)) ?_)
      have ei : ids.map PyData.int ++ [.int (here + 1 + r)] = (ids ++ [here + 1 + r]).map PyData.int := by rw [List.map_append]; rfl
      show SS K _ (loEnv47 most polls W rare (here + 1 + r) lists room (some (.v (.int (t : Int)))) _) [.lst (s6.l.map PyData.int), .tr qs (lil lss), .lst (ids.map PyData.int ++ [.int (here + 1 + r)])] _
      rw [ei]
      have lg := tlim (z := rare + 1) (by omega) (by omega) of
      have og := nxt_ok (lim := rare + 1) of
      refine ss_if (b := decide (tak s6 (rare + 1) < rare)) (eb_test (ee_op (ee_callM true (s6, rare + 1) 0 (ea_cons (ee_var rfl) (ea_cons (ee_op (ee_var rfl) ee_c rr_0) ea_nil)) rfl rfl lg) (ee_var rfl) rr_0)) (fun _ => ?_) (fun _ => ss_next ⟨nxt s6 (rare + 1), qs, lss, ids ++ [here + 1 + r], here + 1 + r, _, rfl, rfl, li.next w3 f0 f1, by rw [List.length_append, List.length_singleton]; omega, ll, lq, og⟩)
      obtain ⟨l, hl⟩ : ∃ l, lss[lss.length - 1]? = some l := ⟨_, List.getElem?_eq_getElem (by omega)⟩
      obtain ⟨q, hq⟩ : ∃ q, qs[lss.length - 1]? = some q := ⟨_, List.getElem?_eq_getElem (by omega)⟩
      have hl2 : (lil lss)[lss.length - 1]? = some (l.map PyData.int) := by unfold lil; rw [List.getElem?_map, hl]; rfl
      have hi : ixN qs.length (-1) = some (lss.length - 1) := by rw [ixLast (by omega), lq, ll]
      have hll : l.length ≤ 30 := by
        have h1 : l.length ≤ lss.flatten.length := by
          have := List.mem_of_getElem? hl
          exact (List.sublist_flatten_of_mem this).length_le
        have := li.sub.length_le
        omega
      refine ss_expr (ee_kidapp (n := 1) (i := lss.length - 1) (q := q) (ds := l.map PyData.int) (d := .int (here + 1 + r)) (ow2 := [.lst ((nxt s6 (rare + 1)).l.map PyData.int), .tr qs (lil lss), .lst ((ids ++ [here + 1 + r]).map PyData.int)]) (ee_op (ee_var rfl) (ee_un ee_c) (rr_ixTr rfl hi hq)) rfl hq hl2 (ea_cons (ee_var rfl) ea_nil) rfl rfl (by rw [List.length_map]; omega)) ⟨nxt s6 (rare + 1), qs, lss.set (lss.length - 1) (l ++ [here + 1 + r]), ids ++ [here + 1 + r], here + 1 + r, _, rfl, ?_, li.put w3 f0 f1 hl, by rw [List.length_append, List.length_singleton]; omega, by rw [List.length_set]; exact ll, lq, og⟩
      have es : (lil lss).set (lss.length - 1) (l.map PyData.int ++ [.int (here + 1 + r)]) = lil (lss.set (lss.length - 1) (l ++ [here + 1 + r])) := by
        unfold lil
        rw [List.map_set, List.map_append]; rfl
      show [OC.lst _, OC.tr qs ((lil lss).set (lss.length - 1) (l.map PyData.int ++ [.int (here + 1 + r)])), OC.lst _] = _
      rw [es]
    rintro m ow ⟨s6, qs, lss, ids, here, a, b, rfl, rfl, li, lr, ll, so6⟩
    have idl : ((ids.map PyData.int).length : Int) = (ids.length : Int) := by rw [List.length_map]
    have so6 := so6.mono (k := n0 + 9 + 1) (by omega)
    have lh := tlim (z := 5) (by decide) (by decide) so6
    have oh := nxt_ok (lim := 5) so6
    have h0 := tak_lo s6 (lim := 5) (by decide)
    obtain ⟨mn, hmn, hmn2, hmn3, hmn4⟩ : ∃ mn : Nat, (if tak s6 5 < (room : Int) - (ids.length : Int) then tak s6 5 else (room : Int) - (ids.length : Int)).toNat = mn ∧ mn ≤ room - ids.length ∧ (if tak s6 5 < (room : Int) - (ids.length : Int) then tak s6 5 else (room : Int) - (ids.length : Int)) < 10000000 ∧ -10000000 < (if tak s6 5 < (room : Int) - (ids.length : Int) then tak s6 5 else (room : Int) - (ids.length : Int)) := ⟨_, rfl, by split <;> omega, by split <;> omega, by split <;> omega⟩
    refine ss_seqI (fun m ow => ∃ (ids : List Int) (here : Int) (a b : Option Knd), m = loEnv47 most polls W rare here lists room a b ∧ ow = [.lst ((nxt s6 5).l.map PyData.int), .tr qs (lil lss), .lst (ids.map PyData.int)] ∧ LgI W lss ids here ∧ ids.length ≤ room)
      (ss_forR (fun u m ow => ∃ (ids' : List Int) (here : Int) (a b : Option Knd), m = loEnv47 most polls W rare here lists room a b ∧ ow = [.lst ((nxt s6 5).l.map PyData.int), .tr qs (lil lss), .lst (ids'.map PyData.int)] ∧ LgI W lss ids' here ∧ ids'.length = ids.length + u) mn (ea_cons (ee_cb (ea_cons (ee_op (ee_var rfl) (ee_eqI (ee_cb (ea_cons (ee_var rfl) ea_nil) (cc_len rfl)) idl) rr_0) (ea_cons (ee_callM true (s6, 5) 0 (ea_cons (ee_var rfl) (ea_cons ee_c ea_nil)) rfl rfl lh) ea_nil)) cc_mn2) ea_nil) hmn hmn3 ⟨ids, here, _, _, rfl, rfl, li, rfl⟩ ?_ (fun m ow ⟨ids', here, a, b, h1, h2, h3, h4⟩ => ⟨ids', here, a, b, h1, h2, h3, by omega⟩) hmn4) ?_
    · rintro u m ow hu ⟨ids', here, a, b, rfl, rfl, li, lr2⟩
      have nx := li.next (r := 0) w3 (Int.le_refl _) (by omega)
      have e0 : here + 1 + 0 = here + 1 := by omega
      rw [e0] at nx
      refine ss_seq (ss_set (ee_op (ee_var rfl) ee_c rr_0) ?_)
      refine ss_expr (ee_append (n := 2) (ds := ids'.map PyData.int) (ow2 := [.lst ((nxt s6 5).l.map PyData.int), .tr qs (lil lss), .lst (ids'.map PyData.int)]) (ee_var rfl) rfl (ea_cons (ee_var rfl) ea_nil) rfl rfl (by rw [List.length_map]; omega)) ⟨ids' ++ [here + 1], here + 1, _, _, rfl, ?_, nx, by rw [List.length_append, List.length_singleton]; omega⟩
      rw [List.map_append]; rfl
    rintro m ow ⟨ids', here, a, b, rfl, rfl, li, lr2⟩
    have ao := li.ok (by omega) (by omega) w4
    exact ss_ret (k := .own 3) (ow1 := [.lst ((nxt s6 5).l.map PyData.int), .tr qs (lil lss), .lst (ids'.map PyData.int), .tpl [.own 1, .own 2]]) (ee_tupG (ea_cons (ee_var rfl) (ea_cons (ee_var rfl) ea_nil)) (by decide)) ⟨lss, ids', (nxt s6 5).l, 3, 1, 2, qs, ⟨nxt s6 5, rfl, oh.mono (by show n0 ≤ n0 + 9; omega), ⟨by omega, ao.sub li.sub⟩, ao, li.sub, by show ids'.length ≤ most; omega, by show lss.length ≤ polls; omega⟩, rfl, rfl, rfl, rfl, rfl, by decide, by decide, by decide, by decide⟩⟩

/-! ### _law_drawn_order -/
theorem c_drawn_order (T : Txt K mg) : Cal P w K mg base 2 "_law_drawn_order" (spR (fun a : Src × List (List Int) × List Int × Nat => a.1.l) (fun a => [lgD a.2.1, lI a.2.2.1]) (fun a => SrcOk (a.2.2.2 + 40) a.1 ∧ FitO a.2.1 a.2.2.1)
    (fun a d ns => ∃ os s', d = lI os ∧ ns = s'.l ∧ DrawnTo a.2.1 a.2.2.1 os ∧ os.length = a.2.2.1.length ∧ SrcOk a.2.2.2 s') K) :=
  cal_of T.d_drawn_order fun f fd F => ok_R F sc_drawn_order (fun _ => rfl) fun cdv A outer s H E hr => ⟨_, (pss_cons (ps_asg (pe_cal (c_parts T) hr (by decide) (by rfl) (pa_cons (pv 1) (pa_cons (pv 2) pa_nil))) (pg_tupK (K := K) (n := 2) rfl rfl (pgs_cons (pg_name (i := 3) sc_drawn_order.nd rfl (by first | exact .inl rfl | exact .inr rfl)) (pgs_cons (pg_name (i := 4) sc_drawn_order.nd rfl (by first | exact .inl rfl | exact .inr rfl)) pgs_nil)))) (pss_cons (ps_asg (pe_tup (pa_cons (pe_op (op_catSK (K := K) rfl) (pe_lc (own := [("_law_returned", 10)]) (g := (gName 10)) (by rfl) sc_drawn_order.nd (pi_listK (K := K) rfl (pv 1)) (blkOk_by (N := ["_law_bag_here", "_law_log_here", "_law_ids", "_law_lost", "_law_still", "_law_lists", "_law_found", "_law_first", "_law_free", "_law_one", "_law_returned", "_law_spot"]) (sc := defScope s_drawn_order) (by decide +kernel)) (fun _ _ _ _ _ => (pg_name (i := 10) sc_drawn_order.nd rfl (by first | exact .inl rfl | exact .inr rfl))) (fun _ _ _ _ _ => pts_nil) (fun _ _ _ _ _ => (pe_callTy (call_loK (K := K) rfl) (by rfl) T.n_list (by decide +kernel) (pa_cons (pv 10) pa_nil)))) (pe_lst (pa_cons (pv 4) pa_nil))) (pa_cons (pe_lst pa_nil) pa_nil))) (pg_tupK (K := K) (n := 2) rfl rfl (pgs_cons (pg_name (i := 5) sc_drawn_order.nd rfl (by first | exact .inl rfl | exact .inr rfl)) (pgs_cons (pg_name (i := 6) sc_drawn_order.nd rfl (by first | exact .inl rfl | exact .inr rfl)) pgs_nil)))) (pss_cons (ps_while PassesOwn.never (pt_cmpR op_lt (pe_callB call_ln (by rfl) T.n_len (show bootBuiltins "len" = some (.builtin "len") by decide +kernel) (pa_cons (pv 6) pa_nil)) (pe_callB call_ln (by rfl) T.n_len (show bootBuiltins "len" = some (.builtin "len") by decide +kernel) (pa_cons (pv 2) pa_nil)) (nomark _)) (pss_cons (ps_set (i := 7) sc_drawn_order.nd rfl (by first | exact .inl rfl | exact .inr rfl) (pe_ix (ix_listK (K := K) rfl) (pe_lc (own := [("_law_spot", 11)]) (g := (gName 11)) (by rfl) sc_drawn_order.nd (pi_range1 (by rfl) T.n_range (pa_cons (pe_callB call_ln (by rfl) T.n_len (show bootBuiltins "len" = some (.builtin "len") by decide +kernel) (pa_cons (pv 5) pa_nil)) pa_nil)) (blkOk_by (N := ["_law_bag_here", "_law_log_here", "_law_ids", "_law_lost", "_law_still", "_law_lists", "_law_found", "_law_first", "_law_free", "_law_one", "_law_returned", "_law_spot"]) (sc := defScope s_drawn_order) (by decide +kernel)) (fun _ _ _ _ _ => (pg_name (i := 11) sc_drawn_order.nd rfl (by first | exact .inl rfl | exact .inr rfl))) (fun _ _ _ _ _ => pts_one (PW.pt (pw_or (pt_cmpR (op_neNK (K := K) rfl (by exact hr.r.units)) (pe_ix (ix_listK (K := K) rfl) (pv 5) (pv 11) (fun _ _ => rfl)) (pe_lst pa_nil) (nomark _)) (pw_or1 (pt_cmpR op_eq (pv 11) (pe_callB (call_lnK (K := K) rfl) (by rfl) T.n_len (show bootBuiltins "len" = some (.builtin "len") by decide +kernel) (pa_cons (pv 1) pa_nil)) (nomark _)))))) (fun _ _ _ _ _ => (pv 11))) pe_int (fun _ _ => rfl))) (pss_cons (ps_set (i := 8) sc_drawn_order.nd rfl (by first | exact .inl rfl | exact .inr rfl) (pe_op (op_catSK (K := K) rfl) (pe_lock (pe_lc (own := [("_law_one", 9)]) (g := (gName 9)) (by rfl) sc_drawn_order.nd (pi_keys (pv 3)) (blkOk_by (N := ["_law_bag_here", "_law_log_here", "_law_ids", "_law_lost", "_law_still", "_law_lists", "_law_found", "_law_first", "_law_free", "_law_one", "_law_returned", "_law_spot"]) (sc := defScope s_drawn_order) (by decide +kernel)) (fun _ _ _ _ _ => (pg_name (i := 9) sc_drawn_order.nd rfl (by first | exact .inl rfl | exact .inr rfl))) (fun _ _ _ _ _ => pts_one (PW.pt (pw_and (pt_cmpR op_lt (pe_dget (by exact Nat.lt_of_le_of_lt (Nat.add_le_add_left (show 1 ≤ 64 by decide) _) hr.r.units) (pv 3) (pv 9) (fun _ _ => rfl)) (pv 7) (nomark _)) (pw_and1 (pt_cmpR (op_notInK (K := K) rfl) (pv 9) (pv 6) rfl))))) (fun _ _ _ _ _ => (pv 9)))) (pe_ix (ix_listK (K := K) rfl) (pv 5) (pv 7) (fun _ _ => rfl)))) (pss_cons (ps_set (i := 9) sc_drawn_order.nd rfl (by first | exact .inl rfl | exact .inr rfl) (pe_ix (ix_listK (K := K) rfl) (pv 8) (pe_cal (c_take T) hr (by decide) (by rfl) (pa_cons (pv 0) (pa_cons (pe_callB call_ln (by rfl) T.n_len (show bootBuiltins "len" = some (.builtin "len") by decide +kernel) (pa_cons (pv 8) pa_nil)) pa_nil))) (fun _ _ => rfl))) (pss_cons (ps_expr (pe_bm PySem.F.plainAttrs_list PySem.F.slot_list_append PySem.F.type_list_append mt_append (pv 6) (pa_cons (pv 9) pa_nil))) (pss_one (ps_if (pt_cmpR (op_inK (K := K) rfl) (pv 9) (pe_ix (ix_listK (K := K) rfl) (pv 5) (pv 7) (fun _ _ => rfl)) rfl) (pss_one (ps_expr (pe_bm PySem.F.plainAttrs_list PySem.F.slot_list_remove PySem.F.type_list_remove mt_remove (pe_ix (ix_listK (K := K) rfl) (pv 5) (pv 7) (fun _ _ => rfl)) (pa_cons (pv 9) pa_nil)))) pss_nil))))))) (pss_one (ps_ret (pv 6)))))), fun ⟨s, lss, ids, n0⟩ ⟨so, fo⟩ => by
    have so : SrcOk (n0 + 40) s := so
    have fo : FitO lss ids := fo
    have p100 := t100
    have h12 : lss.length ≤ 12 := fo.log.len
    have h30 : ids.length ≤ 30 := fo.idO.ok.len
    refine ss_seq (ss_callU (i := 3) (j := 4) (lss, ids) (ea_cons (ee_var rfl) (ea_cons (ee_var rfl) ea_nil)) rfl fo ?_)
    show SS K _ [some (.own 0), some (.arg (lgD lss)), some (.arg (lI ids)), some (.own 1), some (.own 2), none, none, none, none, none, none, none] [.lst (s.l.map PyData.int), .dic (lP (lo32 lss ids)), .lst ((st32 lss ids).map PyData.int)] _
    obtain ⟨n, hn⟩ : ∃ n, n = lss.length := ⟨_, rfl⟩
    have eB : oB32 s (lo32 lss ids) (st32 lss ids) (lss.take lss.length) = oB32 s (lo32 lss ids) (st32 lss ids) lss := by rw [List.take_length]
    refine ss_seq (ss_tup [5, 6] (ks := [.own (lss.length + 5), .own (lss.length + 6)]) (ea_cons (k := .own (lss.length + 5)) (ow1 := ((oB32 s (lo32 lss ids) (st32 lss ids) lss ++ [g132 lss.length]) ++ [g232]) ++ [g332 lss.length]) (ee_eqO (ee_op (ee_eqO (ee_lcLK (j := 10) (vs := [10]) lss lI (fun i => oB32 s (lo32 lss ids) (st32 lss ids) (lss.take i)) kS32 (ee_var rfl) (fun _ _ => rfl) rfl (fun i l hl => ⟨eb_yes, .own (i + 3), ?_, ?_⟩) (by decide) (fun a ha => ?_)) (k1 := .own (lss.length + 3)) (ow' := oB32 s (lo32 lss ids) (st32 lss ids) lss ++ [g132 lss.length]) ?_ ?_) (ee_eqO (ee_lstG (ks := [.own 2]) (ea_cons (ee_var rfl) ea_nil) (by decide)) (k1 := .own (lss.length + 4)) ?_ rfl) (rr_catG (ks := kS32 lss.length) (ks2 := [.own 2]) ?_ ?_ ?_)) ?_ rfl) (ea_cons (k := .own (lss.length + 6)) (ow1 := OW32 s (lo32 lss ids) (rem32 [] (st32 lss ids)) (lss.map (rem32 [])) [g132 lss.length, g232, g332 lss.length] []) (ee_eqO (ee_lst false ea_nil rfl) ?_ ?_) ea_nil)) rfl (Nat.le_of_ble_eq_true rfl) ?_)
    · have hi := (List.getElem?_eq_some_iff.mp hl).1
      refine ee_eqO (ee_cb (ea_cons (ee_var rfl) ea_nil) (cc_list false (ds := l.map PyData.int) rfl (by rw [imms_int]; rfl))) ?_ ?_
      · show Knd.own (oB32 _ _ _ _).length = _
        rw [oB_len, List.length_take, Nat.min_eq_left (by omega)]
      · show oB32 _ _ _ _ ++ [OC.lst (l.map PyData.int)] = _
        unfold oB32
        rw [List.take_add_one, hl]
        show _ = OC.lst _ :: OC.dic _ :: OC.lst _ :: ((lss.take i ++ [l]).map _)
        rw [List.map_append]; rfl
    · unfold kS32; rw [List.range_succ, List.map_append]; rfl
    · unfold kS32; rw [List.length_map, List.length_range]; omega
    · show Knd.own (oB32 _ _ _ (lss.take lss.length)).length = _
      rw [eB, oB_len]
    · show oB32 _ _ _ (lss.take lss.length) ++ [g132 lss.length] = _
      rw [eB]
    · rw [List.length_append, oB_len]; rfl
    · rw [List.getElem?_append_left (by rw [List.length_append, oB_len]; show _ < _ + 1; omega), List.getElem?_append_right (by rw [oB_len]; omega), oB_len, Nat.sub_self]; rfl
    · rw [List.getElem?_append_right (by rw [List.length_append, oB_len]; exact Nat.le_refl _), List.length_append, oB_len]
      show ([g232] : List OC)[lss.length + 4 - (lss.length + 3 + 1)]? = _
      rw [Nat.sub_self]; rfl
    · unfold kS32; rw [List.length_map, List.length_range]; show lss.length + 1 ≤ _; omega
    · rw [List.length_append, List.length_append, oB_len]; rfl
    · show Knd.own _ = _
      rw [List.length_append, List.length_append, List.length_append, oB_len]; rfl
    · have er : lss.map (rem32 []) = lss := by rw [show rem32 [] = id from funext rem_empty, List.map_id]
      rw [er, rem_empty]
      unfold OW32 oB32 newO
      simp
    show SS K _ (drEnv32 lss ids none none none none none) _ _
    refine ss_seqI (fun m ow => ∃ s' F f g h i j, m = drEnv32 lss ids f g h i j ∧ ow = OW32 s' (lo32 lss ids) (rem32 F (st32 lss ids)) (lss.map (rem32 F)) [g132 lss.length, g232, g332 lss.length] F ∧ SrcOk n0 s' ∧ DrawnTo lss ids F ∧ F.length = ids.length)
      (ss_while (fun m ow => ∃ s' F f g h i j, m = drEnv32 lss ids f g h i j ∧ ow = OW32 s' (lo32 lss ids) (rem32 F (st32 lss ids)) (lss.map (rem32 F)) [g132 lss.length, g232, g332 lss.length] F ∧ SrcOk (n0 + (ids.length - F.length)) s' ∧ DrawnTo lss ids F) (fun _ ow => mu32 ids lss.length ow) ⟨s, [], _, _, _, _, _, rfl, rfl, so.mono (by simp; omega), ⟨List.nodup_nil, fun _ h => (by cases h), fun _ _ h => (by cases h)⟩⟩ ?_) ?_
    · rintro m ow ⟨s', F, f, g, h, i, j, rfl, rfl, so', dt⟩
      have eL : (lss.map (rem32 F)).length = lss.length := List.length_map _
      have hF : F.length ≤ ids.length := List.Nodup.length_le_of_subset dt.nd dt.sub
      have hfd : (OW32 s' (lo32 lss ids) (rem32 F (st32 lss ids)) (lss.map (rem32 F)) [g132 lss.length, g232, g332 lss.length] F)[lss.length + 6]? = some (.lst (F.map PyData.int)) := by
        have := ow_found (s := s') (lo := lo32 lss ids) (S := rem32 F (st32 lss ids)) (L := lss.map (rem32 F)) (g := [g132 lss.length, g232, g332 lss.length]) (F := F) rfl
        rwa [eL] at this
      have hall : ∀ (S : List Int) (F2 G : List Int) (s : Src), (OW32 s (lo32 lss ids) S (lss.map (rem32 F2)) [g132 lss.length, g232, g332 lss.length] G)[lss.length + 5]? = some (g332 lss.length) := fun S F2 G s => by
        have := ow_all (s := s) (lo := lo32 lss ids) (S := S) (L := lss.map (rem32 F2)) (g1 := g132 lss.length) (g2 := g232) (g3 := g332 lss.length) (F := G)
        rwa [List.length_map] at this
      refine ⟨decide ((F.length : Int) < (ids.length : Int)), _, eb_test (ee_op (ee_eqI (ee_cb (ea_cons (ee_var rfl) ea_nil) (cc_len (seq_lst32 hfd))) (by rw [List.length_map])) (ee_eqI (ee_cb (ea_cons (ee_var rfl) ea_nil) (cc_len rfl)) (by rw [List.length_map])) rr_0), fun hb => ?_, fun hb => ⟨s', F, f, g, h, i, j, rfl, rfl, so'.mono (by omega), dt, by have := of_decide_eq_false hb; omega⟩⟩
      have hb : (F.length : Int) < (ids.length : Int) := of_decide_eq_true hb
      have hlt : F.length < ids.length := by omega
      obtain ⟨gs, hgs⟩ : ∃ gs, gs = [g132 lss.length, g232, g332 lss.length] := ⟨_, rfl⟩
      have hg3 : gs.length = 3 := by rw [hgs]; rfl
      rw [← hgs] at hfd ⊢
      have hall : ∀ (S : List Int) (F2 G : List Int) (s : Src), (OW32 s (lo32 lss ids) S (lss.map (rem32 F2)) gs G)[lss.length + 5]? = some (g332 lss.length) := by rw [hgs]; exact hall
      have hfd2 : ∀ (s : Src) (G : List Int), (OW32 s (lo32 lss ids) (rem32 F (st32 lss ids)) (lss.map (rem32 F)) gs G)[lss.length + 6]? = some (.lst (G.map PyData.int)) := fun s G => by
        have := ow_found (s := s) (lo := lo32 lss ids) (S := rem32 F (st32 lss ids)) (L := lss.map (rem32 F)) (g := gs) (F := G) hg3
        rwa [eL] at this
      have ixk : ∀ i : Nat, i ≤ lss.length → ixN (kS32 lss.length ++ [Knd.own 2]).length (i : Int) = some i := fun i hi => by rw [ks_len]; exact ixN_nat (by omega) rfl
      have hfs := fs_le lss F
      obtain ⟨r, hr⟩ := head_range (c := fun i => !decide (kd32 lss ids F i = []) || decide (i = lss.length)) (k := fs32 lss F) (m := lss.length + 1) (by
        by_cases z : fs32 lss F < lss.length
        · have : kd32 lss ids F (fs32 lss F) ≠ [] := by unfold kd32; rw [if_pos z]; exact fs_at z
          rw [decide_eq_false this]; rfl
        · have : fs32 lss F = lss.length := by omega
          rw [decide_eq_true this, Bool.or_true]) (fun j hj => by
        have z : j < lss.length := by omega
        have e : lss[j]? = some (lss.getD j []) := by simp [z]
        have : kd32 lss ids F j = [] := by unfold kd32; rw [if_pos z]; exact rem_nil.mpr (fs_lt hj e)
        rw [decide_eq_true this, decide_eq_false (by omega)]; rfl) (by omega)
      refine ss_seq (ss_set (k := .v (.int (fs32 lss F : Int))) (ow1 := OW32 s' (lo32 lss ids) (rem32 F (st32 lss ids)) (lss.map (rem32 F)) gs F) (ee_op (ee_as (b := true) (ee_lcR (j := 11) (vs := [11]) true (n := lss.length + 1) (fun i => !decide (kd32 lss ids F i = []) || decide (i = lss.length)) (fun i => .int (i : Int)) (ea_cons (ee_eqI (ee_cb (ea_cons (ee_var rfl) ea_nil) (cc_lenG (hall _ _ _ _))) (by rw [ks_len])) ea_nil) rfl (fun a ha => ⟨?_, fun _ => ⟨_, rfl, ee_var rfl⟩⟩) (by decide) (by omega)) (es := PyData.int (fs32 lss F : Int) :: r.map fun i : Nat => PyData.int (i : Int)) (by rw [hr, List.map_cons])) ee_c (rr_ixL (b := true) (ds := PyData.int (fs32 lss F : Int) :: r.map fun i : Nat => PyData.int (i : Int)) (d := .int (fs32 lss F : Int)) rfl (at0_32 _ _))) ?_)
      · have ha := List.mem_range.mp ha
        refine eb_or (eb_eq (eb_test (ee_op (ee_op (ee_var rfl) (ee_var rfl) (rr_ixG (hall _ _ _ _) (ixk a (by omega)) (ks_at (by omega)))) (ee_lst true ea_nil rfl) (rr_neN (ds := (kd32 lss ids F a).map PyData.int) (seq_lst32 ow_kid) rfl))) (by cases kd32 lss ids F a <;> rfl)) fun _ => eb_eq (eb_test (ee_op (ee_var rfl) (ee_eqI (ee_cb (ea_cons (ee_var rfl) ea_nil) (cc_len rfl)) (by rw [List.length_map])) (rr_eq rfl))) ?_
        exact decide_eq_decide.mpr ⟨fun h => by have := V.int.inj h; omega, fun h => by rw [h]⟩
      have lfl := lf_len lss ids F
      have kdl := kd_len (F := F) fo (fs32 lss F)
      refine ss_seq (ss_set (k := .dat (lI (fr32 lss ids F))) (ow1 := OW32 s' (lo32 lss ids) (rem32 F (st32 lss ids)) (lss.map (rem32 F)) gs F) (ee_eq (ee_op (ee_eqO (ee_lock (k := .dat (lI (lf32 lss ids F))) 1 (kvs := lP (lo32 lss ids)) (ow' := OW32 s' (lo32 lss ids) (rem32 F (st32 lss ids)) (lss.map (rem32 F)) gs F) rfl (fun od us => ?_) (by unfold OW32; simp) (fun j h => by cases h)) rfl rfl) (ee_op (ee_var rfl) (ee_var rfl) (rr_ixG (hall _ _ _ _) (ixk _ hfs) (ks_at hfs))) (rr_catS true (ds := (lf32 lss ids F).map PyData.int) (es := (kd32 lss ids F (fs32 lss F)).map PyData.int) rfl (seq_lst32 ow_kid) (by rw [List.length_map, List.length_map]; omega) rfl (by rw [imms_int]; rfl))) (by show Knd.dat (.list _) = _; unfold fr32 lI; rw [List.map_append])) ?_)
      · refine ee_as (b := true) (ee_lcD (j := 9) (vs := [9]) true (od := od) (us := us) (kvs := lP (lo32 lss ids)) (fun a => decide (px32 lss (keyI a) < fs32 lss F) && !decide (keyI a ∈ F)) (fun a => PyData.int (keyI a)) (ee_var rfl) rfl (fun a ha => ?_) (by decide) (by unfold lP lo32; rw [List.length_map, List.length_map]; have := List.length_filter_le (fun x => !decide (x ∈ lss.flatten) && decide (px32 lss x < lss.length)) ids; omega)) (lost_read lss ids F)
        obtain ⟨kv, hkv, rfl⟩ := List.mem_map.mp ha
        obtain ⟨p, hp, rfl⟩ := List.mem_map.mp hkv
        obtain ⟨a1, a2, a3, a4⟩ := lo_mem.mp hp
        have hv := lo_val lss ids p.1
        rw [if_pos ⟨a1, a2, a3⟩] at hv
        refine ⟨eb_and (eb_eq (eb_test (ee_op (ee_dgetK (key := .inl p.1) (d := .int (px32 lss p.1 : Int)) (ee_var rfl) (ee_var rfl) (dic_ownL (od := od) (us := us) rfl) hv) (ee_var rfl) rr_0)) ?_) fun _ => eb_eq (eb_test (ee_op (ee_var rfl) (ee_var rfl) (rr_in (neg := true) (ns := F) (seq_lst32 ?_)))) rfl, fun _ => ⟨_, rfl, ee_var rfl⟩⟩
        · exact decide_eq_decide.mpr (by show (px32 lss p.1 : Int) < (fs32 lss F : Int) ↔ px32 lss p.1 < fs32 lss F; omega)
        · show ((OW32 s' (lo32 lss ids) (rem32 F (st32 lss ids)) (lss.map (rem32 F)) gs F).set 1 (OC.ldic od us (lP (lo32 lss ids))))[lss.length + 6]? = _
          rw [List.getElem?_set_ne (by omega)]; exact hfd
      have frne := fr_ne (lss := lss) fo.idO.ok.nd hlt
      have frl : (fr32 lss ids F).length ≤ 100 := by unfold fr32; rw [List.length_append]; omega
      have fr0 : 0 < (fr32 lss ids F).length := List.length_pos_iff.mpr frne
      have so2 := so'.mono (k := n0 + (ids.length - (F.length + 1)) + 1) (by omega)
      have fz : (0 : Int) < ((fr32 lss ids F).length : Int) := by omega
      have la := tlim (z := ((fr32 lss ids F).length : Int)) fz (by omega) so2
      have oa := nxt_ok (lim := ((fr32 lss ids F).length : Int)) so2
      have t0 := tak_lo s' fz
      have t1 := tak_hi s' fz
      obtain ⟨u, hu⟩ : ∃ u : Nat, tak s' ((fr32 lss ids F).length : Int) = (u : Int) := ⟨(tak s' ((fr32 lss ids F).length : Int)).toNat, by omega⟩
      have hu2 : u < (fr32 lss ids F).length := by omega
      obtain ⟨x, hx⟩ : ∃ x, (fr32 lss ids F)[u]? = some x := ⟨_, List.getElem?_eq_getElem hu2⟩
      have hxm := List.mem_of_getElem? hx
      obtain ⟨s2, hs2⟩ : ∃ s2, s2 = nxt s' ((fr32 lss ids F).length : Int) := ⟨_, rfl⟩
      rw [← hs2] at oa
      refine ss_seq (ss_set (k := .v (.int x)) (ow1 := OW32 s2 (lo32 lss ids) (rem32 F (st32 lss ids)) (lss.map (rem32 F)) gs F) (ee_op (ee_var rfl) (ee_eqO (ee_callM true (s', ((fr32 lss ids F).length : Int)) 0 (ea_cons (ee_var rfl) (ea_cons (ee_eqI (ee_cb (ea_cons (ee_var rfl) ea_nil) (cc_len rfl)) (by rw [List.length_map])) ea_nil)) rfl rfl la) (k1 := .v (.int (u : Int))) (by show Knd.v (.int (tak s' _)) = _; rw [hu]) (by rw [hs2]; rfl)) (rr_ixI (ns := fr32 lss ids F) rfl u hx rfl)) ?_)
      refine ss_seq (ss_expr (ee_eqO (ee_append (n := lss.length + 6) (ds := F.map PyData.int) (d := .int x) (ow2 := OW32 s2 (lo32 lss ids) (rem32 F (st32 lss ids)) (lss.map (rem32 F)) gs F) (ee_var rfl) (hfd2 _ _) (ea_cons (ee_var rfl) ea_nil) (hfd2 _ _) rfl (by rw [List.length_map]; omega)) rfl (ow' := OW32 s2 (lo32 lss ids) (rem32 F (st32 lss ids)) (lss.map (rem32 F)) gs (F ++ [x])) ?_) ?_)
      · have := ow_found_set (s := s2) (lo := lo32 lss ids) (S := rem32 F (st32 lss ids)) (L := lss.map (rem32 F)) (g := gs) (F := F) (F' := F ++ [x]) hg3
        rw [eL, List.map_append] at this
        exact this
      have dn := dt.next fo hxm
      have fin : SrcOk (n0 + (ids.length - (F ++ [x]).length)) s2 := by rw [List.length_append, List.length_singleton]; exact oa
      have hmu : mu32 ids lss.length (OW32 s2 (lo32 lss ids) (rem32 (F ++ [x]) (st32 lss ids)) (lss.map (rem32 (F ++ [x]))) gs (F ++ [x])) < mu32 ids lss.length (OW32 s' (lo32 lss ids) (rem32 F (st32 lss ids)) (lss.map (rem32 F)) gs F) := by
        rw [mu_is hg3 (List.length_map _), mu_is hg3 (List.length_map _), List.length_append, List.length_singleton]; omega
      have kid := ow_kid (s := s2) (lss := lss) (ids := ids) (F := F) (lo := lo32 lss ids) (g := gs) (G := F ++ [x]) (i := fs32 lss F)
      refine ss_if (b := decide (x ∈ kd32 lss ids F (fs32 lss F))) (eb_eq (eb_test (ee_op (ee_var rfl) (ee_op (ee_var rfl) (ee_var rfl) (rr_ixG (hall _ _ _ _) (ixk _ hfs) (ks_at hfs))) (rr_in (neg := false) (ns := kd32 lss ids F (fs32 lss F)) (seq_lst32 kid)))) rfl) (fun h1 => ?_) (fun h1 => ss_next ?_)
      · have h1 := of_decide_eq_true h1
        obtain ⟨q, hq⟩ := List.mem_iff_getElem?.mp h1
        have nd := kd_nd (F := F) fo (fs32 lss F)
        refine ss_expr (ee_remove (n := kx32 lss.length (fs32 lss F)) (i' := q) (ns := kd32 lss ids F (fs32 lss F)) (ns0 := kd32 lss ids F (fs32 lss F)) (ow2 := OW32 s2 (lo32 lss ids) (rem32 F (st32 lss ids)) (lss.map (rem32 F)) gs (F ++ [x])) (ee_op (ee_var rfl) (ee_var rfl) (rr_ixG (hall _ _ _ _) (ixk _ hfs) (ks_at hfs))) kid (ea_cons (ee_var rfl) ea_nil) kid hq fun j hj e => by have := nd_at nd e hq; omega) ?_
        rw [erase32 nd hq, ow_kid_set fo hfs h1]
        exact ⟨⟨s2, F ++ [x], _, _, _, _, _, rfl, by rw [hgs], fin, dn⟩, hmu⟩
      · obtain ⟨e1, e2⟩ := fr_split fo hxm (of_decide_eq_false h1)
        have := ow_none (s := s2) (F := F) (lo := lo32 lss ids) (g := gs) (G := F ++ [x]) e1 e2
        rw [this]
        exact ⟨⟨s2, F ++ [x], _, _, _, _, _, rfl, by rw [hgs], fin, dn⟩, hmu⟩
    · rintro m ow ⟨s', F, f, g, h, i, j, rfl, rfl, so', dt, hl⟩
      have hfd := ow_found (s := s') (lo := lo32 lss ids) (S := rem32 F (st32 lss ids)) (L := lss.map (rem32 F)) (g := [g132 lss.length, g232, g332 lss.length]) (F := F) rfl
      rw [List.length_map] at hfd
      exact ss_ret (ee_var rfl) ⟨lI F, s'.l, ⟨F, s', rfl, rfl, dt, hl, so'⟩, ⟨_, rfl, hfd⟩, rfl, fun h => by injection h with h; omega⟩⟩

/-! ### _law_ends -/
theorem c_ends (T : Txt K mg) : Cal P w K mg base 2 "_law_ends" (spP (fun a : List (List Int) × List Int × Int => [lgD a.1, lI a.2.1, .int a.2.2]) (fun a => FitO a.1 a.2.1 ∧ a.2.2 ∈ a.2.1) (fun a => pQ (bk32 a.1 a.2.2)) K) :=
  cal_of T.d_ends fun f fd F => ok_P F sc_ends (fun _ => rfl) fun cdv A outer s H E hr => ⟨_, (pss_cons (ps_asg (pe_cal (c_parts T) hr (by decide) (by rfl) (pa_cons (pv 0) (pa_cons (pv 1) pa_nil))) (pg_tupK (K := K) (n := 2) rfl rfl (pgs_cons (pg_name (i := 3) sc_ends.nd rfl (by first | exact .inl rfl | exact .inr rfl)) (pgs_cons (pg_name (i := 4) sc_ends.nd rfl (by first | exact .inl rfl | exact .inr rfl)) pgs_nil)))) (pss_cons (ps_setLc (i := 5) (own := [("_law_poll", 6), ("_law_returned", 7)]) (g := _) (by rfl) sc_ends.nd rfl rfl (sw_true rfl rfl rfl (by decide +kernel)) (pi_enumK (K := K) rfl (by rfl) T.n_enumerate (pa_cons (pv 0) pa_nil)) (blkOk_by (N := ["_law_log_here", "_law_ids", "_law_one", "_law_lost", "_law_still", "_law_own", "_law_poll", "_law_returned"]) (sc := defScope s_ends) (by decide +kernel)) (fun _ _ _ _ _ => (pg_tupK (K := K) (n := 2) rfl rfl (pgs_cons (pg_name (i := 6) sc_ends.nd rfl (by first | exact .inl rfl | exact .inr rfl)) (pgs_cons (pg_name (i := 7) sc_ends.nd rfl (by first | exact .inl rfl | exact .inr rfl)) pgs_nil)))) (fun _ _ _ _ _ => pts_one (pt_cmpR (op_inK (K := K) rfl) (pv 2) (pv 7) rfl)) (fun _ _ _ _ _ => (pv 6))) (pss_cons (ps_if (pt_cmpR (op_neNK (K := K) rfl (by exact hr.r.units)) (pv 5) (pe_lst pa_nil) (nomark _)) (pss_one (ps_ret (pe_tup (pa_cons (pe_ix (ix_listK (K := K) rfl) (pv 5) pe_int (fun _ _ => rfl)) (pa_cons (pe_ix (ix_listK (K := K) rfl) (pv 5) pe_int (fun _ _ => rfl)) pa_nil))))) pss_nil) (pss_one (ps_ret (pe_tup (pa_cons (pe_ifExp (pt_cmp (pc_din (by exact Nat.lt_of_le_of_lt (Nat.add_le_add_left (show 1 ≤ 64 by decide) _) hr.r.units) (pv 2) (pv 3)) rfl) (pe_op op_add (pe_dget (by exact Nat.lt_of_le_of_lt (Nat.add_le_add_left (show 1 ≤ 64 by decide) _) hr.r.units) (pv 3) (pv 2) (fun _ _ => rfl)) pe_int) (pe_callB call_ln (by rfl) T.n_len (show bootBuiltins "len" = some (.builtin "len") by decide +kernel) (pa_cons (pv 0) pa_nil))) (pa_cons (pe_callB call_ln (by rfl) T.n_len (show bootBuiltins "len" = some (.builtin "len") by decide +kernel) (pa_cons (pv 0) pa_nil)) pa_nil)))))))), fun ⟨lss, ids, x⟩ ⟨fo, hx⟩ => by
    have fo : FitO lss ids := fo
    have xin : x ∈ ids := hx
    have h12 : lss.length ≤ 12 := fo.log.len
    have eL : ((lss.map lI).length : Int) = (lss.length : Int) := by rw [List.length_map]
    refine ss_seq (ss_callU (i := 3) (j := 4) (lss, ids) (ea_cons (ee_var rfl) (ea_cons (ee_var rfl) ea_nil)) rfl fo ?_)
    show SS K _ [some (.arg (lgD lss)), some (.arg (lI ids)), some (.v (.int x)), some (.own 0), some (.own 1), none, none, none] [.dic (lP (lo32 lss ids)), .lst ((st32 lss ids).map PyData.int)] _
    obtain ⟨c1, hc1⟩ : ∃ c1, c1 = OC.lst ((st32 lss ids).map PyData.int) := ⟨_, rfl⟩
    rw [← hc1]
    obtain ⟨r, hr⟩ := enf0 (fun l : List Int => decide (x ∈ l)) lss
    refine ss_seq (ss_set (k := .dat (.list (if ix32 lss x < lss.length then PyData.int (ix32 lss x : Int) :: r else []))) (ow1 := [.dic (lP (lo32 lss ids)), c1]) (ee_as (b := true) (ee_lcE (j1 := 6) (j2 := 7) true lss lI (fun p => decide (x ∈ p.2)) (fun p => .int (p.1 : Int)) (ea_cons (ee_var rfl) ea_nil) rfl (fun k l hl => ⟨eb_test (ee_op (ee_var rfl) (ee_var rfl) (rr_in (neg := false) (ns := l) rfl)), fun _ => ⟨_, rfl, ee_var rfl⟩⟩) (by decide) (by decide) (by omega)) hr) ?_)
    by_cases z : x ∈ lss.flatten
    · have z2 := ix_lt.mpr z
      rw [if_pos z2]
      have eb := bk_read z
      refine ss_seq (ss_if (b := true) (eb_eq (eb_test (ee_op (ee_var rfl) (ee_lst true ea_nil rfl) (rr_neN (ds := PyData.int (ix32 lss x : Int) :: r) rfl rfl))) rfl) (fun _ => ?_) (fun h => by cases h))
      refine ss_ret (k := .dat (pQ (bk32 lss x))) (ow1 := [.dic (lP (lo32 lss ids)), c1]) (ee_eq (ee_tup (ds := [.int (ix32 lss x : Int), .int (ix32 lss x : Int)]) (ea_cons (k := .v (.int (ix32 lss x : Int))) (ee_op (ee_var rfl) ee_c (rr_ixL (b := true) (ds := PyData.int (ix32 lss x : Int) :: r) (d := .int (ix32 lss x : Int)) rfl (at0_32 _ _))) (ea_cons (k := .v (.int (ix32 lss x : Int))) (ee_op (ee_var rfl) ee_c (rr_ixL (b := true) (ds := PyData.int (ix32 lss x : Int) :: r) (d := .int (ix32 lss x : Int)) rfl (at0_32 _ _))) ea_nil)) rfl) (by rw [eb]; rfl)) rfl
    · have z2 : ¬ ix32 lss x < lss.length := fun h => z (ix_lt.mp h)
      rw [if_neg z2]
      have eb := bk_not z
      have hv := lo_val lss ids x
      refine ss_seq (ss_if (b := false) (eb_eq (eb_test (ee_op (ee_var rfl) (ee_lst true ea_nil rfl) (rr_neN (ds := []) rfl rfl))) rfl) (fun h => by cases h) (fun _ => ss_next ?_))
      refine ss_ret (k := .dat (pQ (bk32 lss x))) (ow1 := [.dic (lP (lo32 lss ids)), c1]) (ee_eq (ee_tup (ds := [.int (if px32 lss x < lss.length then (px32 lss x : Int) + 1 else (lss.length : Int)), .int (lss.length : Int)]) (ea_cons (k := .v (.int (if px32 lss x < lss.length then (px32 lss x : Int) + 1 else (lss.length : Int)))) (ee_if (b := decide (px32 lss x < lss.length)) (eb_eq (eb_test (ee_din (n := 0) (kvs := lP (lo32 lss ids)) (key := .inl x) (ee_var rfl) (ee_var rfl) rfl)) ?_) (fun h1 => ?_) (fun h1 => ?_)) (ea_cons (k := .v (.int (lss.length : Int))) (ee_eqI (ee_cb (ea_cons (ee_var rfl) ea_nil) (cc_len rfl)) eL) ea_nil)) rfl) (by rw [eb]; rfl)) rfl
      · rw [hv]
        by_cases y : px32 lss x < lss.length
        · rw [if_pos ⟨xin, z, y⟩, decide_eq_true y]; rfl
        · rw [if_neg fun w => y w.2.2, decide_eq_false y]; rfl
      · have y := of_decide_eq_true h1
        rw [if_pos ⟨xin, z, y⟩] at hv
        rw [if_pos y]
        exact ee_op (ee_eq (k1 := .v (.int (px32 lss x : Int))) (ee_dget (n := 0) (key := .inl x) (d := .int (px32 lss x : Int)) (ee_var rfl) (ee_var rfl) rfl hv) rfl) ee_c rr_0
      · rw [if_neg (of_decide_eq_false h1)]
        exact ee_eqI (ee_cb (ea_cons (ee_var rfl) ea_nil) (cc_len rfl)) eL⟩

/-! ### is_id -/
theorem ad_ka (ow : List OC) {d : PyData} : ads ow [ka d] = some [d] := by cases d <;> rfl
theorem c_is_id (T : Txt K mg) : Cal P w K mg base 3 "is_id" (spP (fun d : PyData => [d]) noD (fun d => .bool (inB d 1 gId)) K) :=
  cal_of T.d_is_id fun f fd F => ok_P F sc_is_id (fun _ => rfl) fun cdv A outer s H E hr => ⟨_, (pss_one (ps_ret (pe_cal (c_is_between T) hr (by decide) (by rfl) (pa_cons (pv 0) (pa_cons pe_int (pa_cons (pe_glb (by rfl) (glb_int T.k_GREATEST_ID)) pa_nil)))))), fun d hd => by
    refine ss_ret (ee_call true (d, 1, gId) (ea_cons (ee_var rfl) (ea_cons ee_c (ea_cons ee_c ea_nil))) ?_ hd) rfl
    cases d <;> rfl⟩

/-! ### is_order -/
theorem c_is_order (T : Txt K mg) : Cal P w K mg base 4 "is_order" (spP (fun ns : List Int => [lI ns]) OkO (fun _ => .bool true) K) :=
  cal_of T.d_is_order fun f fd F => ok_P F sc_is_order (fun _ => rfl) fun cdv A outer s H E hr => ⟨_, (pss_cons (ps_if (PW.pt (pw_or (pt_not (pt_val (pe_callB call_isi (by rfl) T.n_isinstance (show bootBuiltins "isinstance" = some (.builtin "isinstance") by decide +kernel) (pa_cons (pv 0) (pa_cons (pe_bltn (v := .ty "list") (by rfl) T.n_list (by decide +kernel) rfl) pa_nil))))) (pw_or1 (pt_cmpR op_gt (pe_callB call_ln (by rfl) T.n_len (show bootBuiltins "len" = some (.builtin "len") by decide +kernel) (pa_cons (pv 0) pa_nil)) (pe_glb (by rfl) (glb_int T.k_MOST_IDS)) (nomark _))))) (pss_one (ps_ret pe_bl)) pss_nil) (pss_one (ps_ret (pe_and (pe_callB (cr_all rfl) (by rfl) T.n_all (show bootBuiltins "all" = some (.builtin "all") by decide +kernel) (pa_cons (pe_lc (own := [("row", 1)]) (g := (gName 1)) (by rfl) sc_is_order.nd (pi_listK (K := K) rfl (pv 0)) (blkOk_by (N := ["value", "row"]) (sc := defScope s_is_order) (by decide +kernel)) (fun _ _ _ _ _ => (pg_name (i := 1) sc_is_order.nd rfl (by first | exact .inl rfl | exact .inr rfl))) (fun _ _ _ _ _ => pts_nil) (fun _ _ _ _ _ => (pe_cal (c_is_id T) hr (by decide) (by rfl) (pa_cons (pv 1) pa_nil)))) pa_nil)) (pe_one (pe_cmpR op_eq (RZ.pe_lenSetI (by rfl) T.n_len (by rfl) T.n_set (pv 0)) (pe_callB call_ln (by rfl) T.n_len (show bootBuiltins "len" = some (.builtin "len") by decide +kernel) (pa_cons (pv 0) pa_nil)) (nomark _))))))), fun ns ok => by
    have e : (!true || decide ((30 : Int) < ((ns.map PyData.int).length : Int))) = false := by rw [decide_eq_false (by have := ok.len; rw [List.length_map]; omega)]; rfl
    refine ss_seq (ss_if (b := false) (eb_eq (eb_or (eb_not (eb_val (ee_cb (ea_cons (ee_var rfl) (ea_cons ee_c ea_nil)) (cc_isi rfl (by first | exact kit_NoneType_int | exact kit_NoneType_bool | exact kit_NoneType_list | exact kit_NoneType_tuple | exact kit_NoneType_str | exact kit_bool_int | exact kit_bool_bool | exact kit_bool_list | exact kit_bool_tuple | exact kit_bool_str | exact kit_int_int | exact kit_int_bool | exact kit_int_list | exact kit_int_tuple | exact kit_int_str | exact kit_str_int | exact kit_str_bool | exact kit_str_list | exact kit_str_tuple | exact kit_str_str | exact kit_list_int | exact kit_list_bool | exact kit_list_list | exact kit_list_tuple | exact kit_list_str | exact kit_tuple_int | exact kit_tuple_bool | exact kit_tuple_list | exact kit_tuple_tuple | exact kit_tuple_str | exact kit_dict_int | exact kit_dict_bool | exact kit_dict_list | exact kit_dict_tuple | exact kit_dict_str))))) (fun _ => eb_test (ee_op (ee_cb (ea_cons (ee_var rfl) ea_nil) (cc_len rfl)) ee_c rr_0))) e) (fun h => by cases h) fun _ => ss_next ?_)
    have e2 : ((ns.filter fun _ => true).map fun n => PyData.bool (inB (.int n) 1 gId)) = ((ns.map fun n => inB (.int n) 1 gId).map PyData.bool) := by
      rw [List.filter_eq_self.mpr (fun _ _ => rfl), List.map_map]; rfl
    have ea : (ns.map fun n => inB (.int n) 1 gId).all id = true := by
      rw [List.all_eq_true]
      intro b hb
      obtain ⟨n, hn, rfl⟩ := List.mem_map.mp hb
      obtain ⟨h1, h2⟩ := ok.ids n hn
      show (decide (1 ≤ n) && decide (n ≤ gId)) = true
      rw [decide_eq_true h1, decide_eq_true h2]; rfl
    refine ss_ret (ee_and (ee_cb (ea_cons (ee_as (ee_lc true ns PyData.int (fun _ => true) (fun n => .bool (inB (.int n) 1 gId)) (ee_var rfl) rfl (fun n hn => ⟨eb_yes, fun _ => ⟨_, ?_, ee_call true (.int n) (ea_cons (ee_var rfl) ea_nil) rfl (fun _ h => by cases h)⟩⟩) (by decide) (by have := ok.len; omega)) e2) ea_nil) (cc_all rfl))
      (fun _ => ee_op (ee_lenSet (ee_var rfl) rfl ok.nd (by have := ok.len; omega)) (ee_cb (ea_cons (ee_var rfl) ea_nil) (cc_len rfl)) (rr_eq rfl))) ?_
    · rfl
    · show some (PyData.bool (((ns.map fun n => inB (.int n) 1 gId).all id) && decide (V.int (ns.length : Int) = V.int ((ns.map PyData.int).length : Int)))) = some (.bool true)
      rw [ea, List.length_map, decide_eq_true rfl]; rfl⟩

/-! ### are_ids -/
theorem c_are_ids (T : Txt K mg) : Cal P w K mg base 5 "are_ids" (spP (fun ns : List Int => [lI ns]) AscO (fun _ => .bool true) K) :=
  cal_of T.d_are_ids fun f fd F => ok_P F sc_are_ids (fun _ => rfl) fun cdv A outer s H E hr => ⟨_, (pss_one (ps_ret (pe_and (pe_cal (c_is_order T) hr (by decide) (by rfl) (pa_cons (pv 0) pa_nil)) (pe_one (pe_cmpR (op_eqK (K := K) rfl (by exact hr.r.units)) (pv 0) (pe_callB cr_sortedI (by rfl) T.n_sorted (show bootBuiltins "sorted" = some (.builtin "sorted") by decide +kernel) (pa_cons (pv 0) pa_nil)) (nomark _)))))), fun ns h => by
    refine ss_ret (ee_eqB (ee_and (ee_call true ns (ea_cons (ee_var rfl) ea_nil) rfl h.ok) (fun _ => ee_op (ee_var rfl) (ee_cb (ea_cons (ee_var rfl) ea_nil) (cc_sorted true (ns := ns) rfl)) (rr_eqD rfl rfl (shaped_ints _) (shaped_ints _)))) ?_) rfl
    show (true && PyData.eqv (lI ns) (lI (srt ns))) = true
    rw [h.srt, eqv_lI, decide_eq_true rfl]; rfl⟩

/-! ### check_ids -/
theorem c_check_ids (T : Txt K mg) : Cal P w K mg base 6 "check_ids" (spP (fun ns : List Int => [lI ns]) AscO (fun _ => .none) K) :=
  cal_of T.d_check_ids fun f fd F => ok_P F sc_check_ids (fun _ => rfl) fun cdv A outer s H E hr => ⟨_, (pss_one (ps_if (pt_not (pt_val (pe_cal (c_are_ids T) hr (by decide) (by rfl) (pa_cons (pv 0) pa_nil)))) (pss_one ps_never) pss_nil)), fun ns h =>
    ss_if (b := false) (eb_not (b := true) (eb_val (ee_call true ns (ea_cons (ee_var rfl) ea_nil) rfl h))) (fun h => by cases h) fun _ => ss_next rfl⟩

/-! ### is_log -/
theorem c_is_log (T : Txt K mg) : Cal P w K mg base 6 "is_log" (spP (fun lss : List (List Int) => [lgD lss]) LogO (fun _ => .bool true) K) :=
  cal_of T.d_is_log fun f fd F => ok_P F sc_is_log (fun _ => rfl) fun cdv A outer s H E hr => ⟨_, (pss_cons (ps_if (PW.pt (pw_or (pt_not (pt_val (pe_callB call_isi (by rfl) T.n_isinstance (show bootBuiltins "isinstance" = some (.builtin "isinstance") by decide +kernel) (pa_cons (pv 0) (pa_cons (pe_bltn (v := .ty "list") (by rfl) T.n_list (by decide +kernel) rfl) pa_nil))))) (pw_or1 (pt_cmpR op_gt (pe_callB call_ln (by rfl) T.n_len (show bootBuiltins "len" = some (.builtin "len") by decide +kernel) (pa_cons (pv 0) pa_nil)) (pe_glb (by rfl) (glb_int T.k_MOST_LISTS)) (nomark _))))) (pss_one (ps_ret pe_bl)) pss_nil) (pss_one (ps_ret (pe_and (pe_callB (cr_all rfl) (by rfl) T.n_all (show bootBuiltins "all" = some (.builtin "all") by decide +kernel) (pa_cons (pe_lc (own := [("rows", 1)]) (g := (gName 1)) (by rfl) sc_is_log.nd (pi_listK (K := K) rfl (pv 0)) (blkOk_by (N := ["value", "rows"]) (sc := defScope s_is_log) (by decide +kernel)) (fun _ _ _ _ _ => (pg_name (i := 1) sc_is_log.nd rfl (by first | exact .inl rfl | exact .inr rfl))) (fun _ _ _ _ _ => pts_nil) (fun _ _ _ _ _ => (pe_callB (call_isiK (K := K) rfl) (by rfl) T.n_isinstance (show bootBuiltins "isinstance" = some (.builtin "isinstance") by decide +kernel) (pa_cons (pv 1) (pa_cons (pe_bltn (v := .ty "list") (by rfl) T.n_list (by decide +kernel) rfl) pa_nil))))) pa_nil)) (pe_one (pe_cal (c_are_ids T) hr (by decide) (by rfl) (pa_cons (pe_cal (c_returned_by T) hr (by decide) (by rfl) (pa_cons (pv 0) pa_nil)) pa_nil))))))), fun lss h => by
    have hl : lss.length ≤ 12 := h.len
    have h30 : lss.flatten.length ≤ 30 := h.asc.ok.len
    refine ss_seq (ss_if (b := false) (eb_orF (eb_not (b := true) (eb_val (ee_cb (ea_cons (ee_var rfl) (ea_cons ee_c ea_nil)) (cc_isi rfl (by first | exact kit_NoneType_int | exact kit_NoneType_bool | exact kit_NoneType_list | exact kit_NoneType_tuple | exact kit_NoneType_str | exact kit_bool_int | exact kit_bool_bool | exact kit_bool_list | exact kit_bool_tuple | exact kit_bool_str | exact kit_int_int | exact kit_int_bool | exact kit_int_list | exact kit_int_tuple | exact kit_int_str | exact kit_str_int | exact kit_str_bool | exact kit_str_list | exact kit_str_tuple | exact kit_str_str | exact kit_list_int | exact kit_list_bool | exact kit_list_list | exact kit_list_tuple | exact kit_list_str | exact kit_tuple_int | exact kit_tuple_bool | exact kit_tuple_list | exact kit_tuple_tuple | exact kit_tuple_str | exact kit_dict_int | exact kit_dict_bool | exact kit_dict_list | exact kit_dict_tuple | exact kit_dict_str))))) (eb_eq (eb_test (ee_op (ee_eqI (j := (lss.length : Int)) (ee_cb (ea_cons (ee_var rfl) ea_nil) (cc_len rfl)) (by rw [List.length_map])) ee_c rr_0)) (decide_eq_false (by omega)))) (fun h => by cases h) fun _ => ss_next ?_)
    refine ss_ret (ee_eqB (c := true) (ee_and (b := true) (c := true) (ee_eqB (ee_cb (ea_cons (ee_as (b := true) (ee_lc true lss lI (fun _ => true) (fun _ => .bool true) (ee_var rfl) rfl (fun l _ => ⟨eb_yes, fun _ => ⟨.v (.bl true), rfl, ee_cb (ea_cons (ee_var rfl) (ea_cons ee_c ea_nil)) (cc_isi rfl (by first | exact kit_NoneType_int | exact kit_NoneType_bool | exact kit_NoneType_list | exact kit_NoneType_tuple | exact kit_NoneType_str | exact kit_bool_int | exact kit_bool_bool | exact kit_bool_list | exact kit_bool_tuple | exact kit_bool_str | exact kit_int_int | exact kit_int_bool | exact kit_int_list | exact kit_int_tuple | exact kit_int_str | exact kit_str_int | exact kit_str_bool | exact kit_str_list | exact kit_str_tuple | exact kit_str_str | exact kit_list_int | exact kit_list_bool | exact kit_list_list | exact kit_list_tuple | exact kit_list_str | exact kit_tuple_int | exact kit_tuple_bool | exact kit_tuple_list | exact kit_tuple_tuple | exact kit_tuple_str | exact kit_dict_int | exact kit_dict_bool | exact kit_dict_list | exact kit_dict_tuple | exact kit_dict_str))⟩⟩) (by decide) (by omega)) (es := (List.replicate lss.length true).map PyData.bool) (by rw [List.filter_eq_self.mpr (fun _ _ => rfl), List.map_const', List.map_replicate])) ea_nil) (cc_all (bs := List.replicate lss.length true) rfl)) (all_kit47 _)) (fun _ => ee_call true lss.flatten (ea_cons (ee_call true lss (ea_cons (ee_var rfl) ea_nil) rfl (by show lss.flatten.length ≤ 1000; omega)) ea_nil) rfl h.asc)) rfl) rfl⟩

/-! ### check_log -/
theorem c_check_log (T : Txt K mg) : Cal P w K mg base 7 "check_log" (spP (fun lss : List (List Int) => [lgD lss]) LogO (fun _ => .none) K) :=
  cal_of T.d_check_log fun f fd F => ok_P F sc_check_log (fun _ => rfl) fun cdv A outer s H E hr => ⟨_, (pss_one (ps_if (pt_not (pt_val (pe_cal (c_is_log T) hr (by decide) (by rfl) (pa_cons (pv 0) pa_nil)))) (pss_one ps_never) pss_nil)), fun lss h =>
    ss_if (b := false) (eb_not (b := true) (eb_val (ee_call true lss (ea_cons (ee_var rfl) ea_nil) rfl h))) (fun h => by cases h) fun _ => ss_next rfl⟩

/-! ### _check_fitting -/
theorem c_p_check_fitting (T : Txt K mg) : Cal P w K mg base 8 "_check_fitting" (spP (fun a : List (List Int) × List Int => [lgD a.1, lI a.2]) (fun a => FitO a.1 a.2) (fun _ => .none) K) :=
  cal_of T.d_p_check_fitting fun f fd F => ok_P F sc_p_check_fitting (fun _ => rfl) fun cdv A outer s H E hr => ⟨_, (pss_cons (ps_expr (pe_cal (c_check_log T) hr (by decide) (by rfl) (pa_cons (pv 0) pa_nil))) (pss_cons (ps_expr (pe_cal (c_check_ids T) hr (by decide) (by rfl) (pa_cons (pv 1) pa_nil))) (pss_cons (ps_set (i := 2) sc_p_check_fitting.nd rfl (by first | exact .inl rfl | exact .inr rfl) (pe_cal (c_unknown_id T) hr (by decide) (by rfl) (pa_cons (pv 0) (pa_cons (pv 1) pa_nil)))) (pss_one (ps_if (pt_cmp (pc_notN (pv 2)) rfl) (pss_one ps_never) pss_nil))))), fun ⟨lss, ids⟩ fo => by
    have fo : FitO lss ids := fo
    refine ss_seq (ss_expr (ee_call true lss (ea_cons (ee_var rfl) ea_nil) rfl fo.log) (ss_seq (ss_expr (ee_call true ids (ea_cons (ee_var rfl) ea_nil) rfl fo.idO) (ss_seq (ss_set (k := .v .non) (ee_call true (lss, ids) (ea_cons (ee_var rfl) (ea_cons (ee_var rfl) ea_nil)) rfl fo) ?_)))))
    exact ss_if (b := false) (eb_eq (eb_val (ee_notN (ee_var rfl))) rfl) (fun h => by cases h) fun _ => ss_next rfl⟩

/-! ### surely_ahead -/
theorem c_surely_ahead (T : Txt K mg) : Cal P w K mg base 9 "surely_ahead" (spP (fun a : List (List Int) × List Int × Int × Int => [lgD a.1, lI a.2.1, .int a.2.2.1, .int a.2.2.2]) (fun a => FitO a.1 a.2.1 ∧ a.2.2.1 ∈ a.2.1 ∧ a.2.2.2 ∈ a.2.1) (fun a => .bool (decide ((bk32 a.1 a.2.2.1).2 < (bk32 a.1 a.2.2.2).1))) K) :=
  cal_of T.d_surely_ahead fun f fd F => ok_P F sc_surely_ahead (fun _ => rfl) fun cdv A outer s H E hr => ⟨_, (pss_cons (ps_expr (pe_cal (c_check_log T) hr (by decide) (by rfl) (pa_cons (pv 0) pa_nil))) (pss_cons (ps_expr (pe_cal (c_check_ids T) hr (by decide) (by rfl) (pa_cons (pv 1) pa_nil))) (pss_cons (ps_expr (pe_cal (c_p_check_one_of T) hr (by decide) (by rfl) (pa_cons (pv 1) (pa_cons (pv 2) pa_nil)))) (pss_cons (ps_expr (pe_cal (c_p_check_one_of T) hr (by decide) (by rfl) (pa_cons (pv 1) (pa_cons (pv 3) pa_nil)))) (pss_cons (ps_expr (pe_cal (c_p_check_fitting T) hr (by decide) (by rfl) (pa_cons (pv 0) (pa_cons (pv 1) pa_nil)))) (pss_cons (ps_set (i := 4) sc_surely_ahead.nd rfl (by first | exact .inl rfl | exact .inr rfl) (pe_cal (c_blocks_of T) hr (by decide) (by rfl) (pa_cons (pv 0) (pa_cons (pv 1) pa_nil)))) (pss_one (ps_ret (pe_cmpR op_lt (pe_ix (ix_tupK (K := K) rfl) (pe_dget (by exact Nat.lt_of_le_of_lt (Nat.add_le_add_left (show 1 ≤ 64 by decide) _) hr.r.units) (pv 4) (pv 2) (fun _ _ => rfl)) pe_int (fun _ _ => rfl)) (pe_ix (ix_tupK (K := K) rfl) (pe_dget (by exact Nat.lt_of_le_of_lt (Nat.add_le_add_left (show 1 ≤ 64 by decide) _) hr.r.units) (pv 4) (pv 3) (fun _ _ => rfl)) pe_int (fun _ _ => rfl)) (nomark _)))))))))), fun ⟨lss, ids, x, y⟩ ⟨fo, hx, hy⟩ => by
    have fo : FitO lss ids := fo
    have hx : x ∈ ids := hx
    have hy : y ∈ ids := hy
    have v1 := bk_val lss hx
    have v2 := bk_val lss hy
    refine ss_seq (ss_expr (ee_call true lss (ea_cons (ee_var rfl) ea_nil) rfl fo.log) (ss_seq (ss_expr (ee_call true ids (ea_cons (ee_var rfl) ea_nil) rfl fo.idO) (ss_seq (ss_expr (ee_call true (ids, x) (ea_cons (ee_var rfl) (ea_cons (ee_var rfl) ea_nil)) rfl hx) (ss_seq (ss_expr (ee_call true (ids, y) (ea_cons (ee_var rfl) (ea_cons (ee_var rfl) ea_nil)) rfl hy) (ss_seq (ss_expr (ee_call true (lss, ids) (ea_cons (ee_var rfl) (ea_cons (ee_var rfl) ea_nil)) rfl fo) ?_)))))))))
    refine ss_seq (ss_set (k := .own 0) (ow1 := [.dic (bkD lss ids)]) (ee_callD (lss, ids) (ea_cons (ee_var rfl) (ea_cons (ee_var rfl) ea_nil)) rfl fo) ?_)
    exact ss_ret (ee_op (ee_op (ee_eq (k1 := .dat (pQ (bk32 lss x))) (ee_dget (n := 0) (key := .inl x) (d := pQ (bk32 lss x)) (ee_var rfl) (ee_var rfl) rfl v1) rfl) ee_c (rr_ixT (b := true) (d := .int (bk32 lss x).2) rfl rfl)) (ee_op (ee_eq (k1 := .dat (pQ (bk32 lss y))) (ee_dget (n := 0) (key := .inl y) (d := pQ (bk32 lss y)) (ee_var rfl) (ee_var rfl) rfl v2) rfl) ee_c (rr_ixT (b := true) (d := .int (bk32 lss y).1) rfl rfl)) rr_0) rfl⟩

/-! ### _law_right -/
theorem c_right (T : Txt K mg) : Cal P w K mg base 10 "_law_right" (spR (fun a : Src × List (List Int) × List Int × Nat => a.1.l) (fun a => [lgD a.2.1, lI a.2.2.1]) (fun a => SrcOk (a.2.2.2 + 200) a.1 ∧ FitO a.2.1 a.2.2.1)
    (fun a d ns => ∃ s' : Src, d = .bool true ∧ ns = s'.l ∧ SrcOk a.2.2.2 s') K) :=
  cal_of T.d_right fun f fd F => ok_R F sc_right (fun _ => rfl) fun cdv A outer s H E hr => ⟨_, (pss_cons (ps_par (i := 3) (j := 4) (by rfl) sc_right.nd rfl rfl (by decide) rfl rfl (pa_cons (pe_callB (call_rpK (K := K) rfl (by exact hr.g) (by exact hr.r.units)) (by rfl) T.n_repr (show bootBuiltins "repr" = some (.builtin "repr") by decide +kernel) (pa_cons (pe_lst (pa_cons (pv 1) (pa_cons (pv 2) pa_nil))) pa_nil)) (pa_cons (pe_lc (own := [("_law_turn", 5)]) (g := (gName 5)) (by rfl) sc_right.nd (pi_range1 (by rfl) T.n_range (pa_cons pe_int pa_nil)) (blkOk_by (N := ["_law_bag_here", "_law_log_here", "_law_ids", "_law_kept", "_law_orders", "_law_turn", "_law_one", "_law_other", "_law_due", "_law_wrong", "_law_order"]) (sc := defScope s_right) (by decide +kernel)) (fun _ _ _ _ _ => (pg_name (i := 5) sc_right.nd rfl (by first | exact .inl rfl | exact .inr rfl))) (fun _ _ _ _ _ => pts_nil) (fun _ _ _ _ _ => (pe_cal (c_drawn_order T) hr (by decide) (by rfl) (pa_cons (pv 0) (pa_cons (pv 1) (pa_cons (pv 2) pa_nil)))))) pa_nil)) (by rfl)) (pss_cons (ps_for PassesOwn.never rfl (pi_range1 (by rfl) T.n_range (pa_cons (pe_op op_mulW pe_int (pe_callTy call_in1 (by rfl) T.n_int (by decide +kernel) (pa_cons (pe_cmpR (op_neNK (K := K) rfl (by exact hr.r.units)) (pv 2) (pe_lst pa_nil) (nomark _)) pa_nil))) pa_nil)) (pg_name (i := 5) sc_right.nd rfl (by first | exact .inl rfl | exact .inr rfl)) (pss_cons (ps_asg (pe_tup (pa_cons (pe_ix (ix_listK (K := K) rfl) (pv 2) (pe_cal (c_take T) hr (by decide) (by rfl) (pa_cons (pv 0) (pa_cons (pe_callB call_ln (by rfl) T.n_len (show bootBuiltins "len" = some (.builtin "len") by decide +kernel) (pa_cons (pv 2) pa_nil)) pa_nil))) (fun _ _ => rfl)) (pa_cons (pe_ix (ix_listK (K := K) rfl) (pv 2) (pe_cal (c_take T) hr (by decide) (by rfl) (pa_cons (pv 0) (pa_cons (pe_callB call_ln (by rfl) T.n_len (show bootBuiltins "len" = some (.builtin "len") by decide +kernel) (pa_cons (pv 2) pa_nil)) pa_nil))) (fun _ _ => rfl)) pa_nil))) (pg_tupK (K := K) (n := 2) rfl rfl (pgs_cons (pg_name (i := 6) sc_right.nd rfl (by first | exact .inl rfl | exact .inr rfl)) (pgs_cons (pg_name (i := 7) sc_right.nd rfl (by first | exact .inl rfl | exact .inr rfl)) pgs_nil)))) (pss_cons (ps_set (i := 8) sc_right.nd rfl (by first | exact .inl rfl | exact .inr rfl) (pe_cmpR op_lt (pe_ix (ix_tupK (K := K) rfl) (pe_cal (c_ends T) hr (by decide) (by rfl) (pa_cons (pv 1) (pa_cons (pv 2) (pa_cons (pv 6) pa_nil)))) pe_int (fun _ _ => rfl)) (pe_ix (ix_tupK (K := K) rfl) (pe_cal (c_ends T) hr (by decide) (by rfl) (pa_cons (pv 1) (pa_cons (pv 2) (pa_cons (pv 7) pa_nil)))) pe_int (fun _ _ => rfl)) (nomark _))) (pss_cons (ps_if (pt_cmpR op_ne (pe_callB (call_rpK (K := K) rfl (by exact hr.g) (by exact hr.r.units)) (by rfl) T.n_repr (show bootBuiltins "repr" = some (.builtin "repr") by decide +kernel) (pa_cons (pe_cal (c_surely_ahead T) hr (by decide) (by rfl) (pa_cons (pv 1) (pa_cons (pv 2) (pa_cons (pv 6) (pa_cons (pv 7) pa_nil))))) pa_nil)) (pe_callB (call_rpK (K := K) rfl (by exact hr.g) (by exact hr.r.units)) (by rfl) T.n_repr (show bootBuiltins "repr" = some (.builtin "repr") by decide +kernel) (pa_cons (pv 8) pa_nil)) (nomark _)) (pss_one (ps_ret pe_bl)) pss_nil) (pss_cons (ps_setLc (i := 9) (own := [("_law_order", 10)]) (g := (gName 10)) (by rfl) sc_right.nd rfl rfl (sw_true rfl rfl rfl (by decide +kernel)) (pi_listK (K := K) rfl (pv 4)) (blkOk_by (N := ["_law_bag_here", "_law_log_here", "_law_ids", "_law_kept", "_law_orders", "_law_turn", "_law_one", "_law_other", "_law_due", "_law_wrong", "_law_order"]) (sc := defScope s_right) (by decide +kernel)) (fun _ _ _ _ _ => (pg_name (i := 10) sc_right.nd rfl (by first | exact .inl rfl | exact .inr rfl))) (fun _ _ _ _ _ => pts_one (pt_cmpR op_gt (pe_bmK (K := K) rfl PySem.F.plainAttrs_list PySem.F.slot_list_index PySem.F.type_list_index (mt_indexK (K := K) rfl) (pv 10) (pa_cons (pv 6) pa_nil)) (pe_bmK (K := K) rfl PySem.F.plainAttrs_list PySem.F.slot_list_index PySem.F.type_list_index (mt_indexK (K := K) rfl) (pv 10) (pa_cons (pv 7) pa_nil)) (nomark _))) (fun _ _ _ _ _ => (pv 10))) (pss_cons (ps_if (PW.pt (pw_and (pt_val (pv 8)) (pw_and1 (pt_cmpR (op_neNK (K := K) rfl (by exact hr.r.units)) (pv 9) (pe_lst pa_nil) (nomark _))))) (pss_one (ps_ret pe_bl)) pss_nil) (pss_one (ps_if (PW.pt (pw_and (pt_val (pv 8)) (pw_and1 (PW.pt (pw_or (pt_cmpR op_eq (pv 6) (pv 7) (nomark _)) (pw_or1 (pt_val (pe_cal (c_surely_ahead T) hr (by decide) (by rfl) (pa_cons (pv 1) (pa_cons (pv 2) (pa_cons (pv 7) (pa_cons (pv 6) pa_nil)))))))))))) (pss_one (ps_ret pe_bl)) pss_nil)))))))) (pss_one (ps_ret (pe_cmpR op_eq (pe_callB (call_rpK (K := K) rfl (by exact hr.g) (by exact hr.r.units)) (by rfl) T.n_repr (show bootBuiltins "repr" = some (.builtin "repr") by decide +kernel) (pa_cons (pe_lst (pa_cons (pv 1) (pa_cons (pv 2) pa_nil))) pa_nil)) (pv 3) (nomark _)))))), fun ⟨s, lss, ids, n0⟩ ⟨so, fo⟩ => by
    have so : SrcOk (n0 + 200) s := so
    have fo : FitO lss ids := fo
    have p100 := t100
    have h30 : ids.length ≤ 30 := fo.idO.ok.len
    have rp := rep_two32 fo.log fo.idO.ok
    have idl : ((ids.map PyData.int).length : Int) = (ids.length : Int) := by rw [List.length_map]
    refine ss_seq (ss_parX (i := 3) (j := 4) (R := fun ks ow' => ∃ (O : List (List Int)) (s' : Src), ks = [.v (.str (PyData.list [lgD lss, lI ids]).shown), .dat (.list (O.map lI))] ∧ ow' = [.lst (s'.l.map PyData.int)] ∧ (∀ o ∈ O, DrawnTo lss ids o ∧ o.length = ids.length) ∧ O.length = 3 ∧ SrcOk (n0 + 30) s') (exa_ee (ee_cb (ea_cons (ee_lstA (ea_cons (ee_var rfl) (ea_cons (ee_var rfl) ea_nil)) rfl) ea_nil) (cc_repr rfl rp)) ?_) ?_)
    · exact fun He Fr ts σ xs H Q S qf => exa_last (ex_lcRI (j := 5) (vs := [5]) (n := 3) true (fun a ds ow' => ∃ (O : List (List Int)) (s' : Src), ds = O.map lI ∧ ow' = [.lst (s'.l.map PyData.int)] ∧ (∀ o ∈ O, DrawnTo lss ids o ∧ o.length = ids.length) ∧ O.length = a ∧ SrcOk (n0 + 30 + 40 * (3 - a)) s') (ea_cons ee_c ea_nil) rfl ⟨[], s, rfl, rfl, fun _ h => (by cases h), rfl, so.mono (by omega)⟩ (fun a ds ow' ha ⟨O, s', h1, h2, h3, h4, h5⟩ => by
        subst h1; subst h2
        refine ex_imp (ex_callR true (s', lss, ids, n0 + 30 + 40 * (3 - (a + 1))) 0 (ea_cons (ee_var rfl) (ea_cons (ee_var rfl) (ea_cons (ee_var rfl) ea_nil))) rfl rfl ⟨h5.mono (by show n0 + 30 + 40 * (3 - (a + 1)) + 40 ≤ _; omega), fo⟩) ?_
        rintro k ow2 ⟨dd, ns, ⟨os, s2, rfl, rfl, dt, hl, so2⟩, rfl, rfl⟩
        exact ⟨lI os, rfl, O ++ [os], s2, by rw [List.map_append]; rfl, rfl, fun o ho => (List.mem_append.mp ho).elim (h3 o) fun z => by rw [List.mem_singleton.mp z]; exact ⟨dt, hl⟩, by rw [List.length_append, h4]; rfl, so2⟩) (by decide) (by decide)) He Fr ts σ xs H Q S fun ks ys H' ow' ⟨k, e, ds, ow2, ⟨O, s', h1, h2, h3, h4, h5⟩, h6, h7⟩ hl S' => qf ks ys H' ow' (by subst e; subst h6; subst h7; subst h1; subst h2; exact ⟨O, s', rfl, rfl, h3, h4, h5.mono (by omega)⟩) hl S'
    rintro ks ow' ⟨O, s1, rfl, rfl, hO, lO, so1⟩
    refine ⟨_, _, rfl, ?_⟩
    show SS K _ (rtEnv33 lss ids O none none none none none) [.lst (s1.l.map PyData.int)] _
    obtain ⟨nn, hnn, nn12, hne⟩ := twelve33 ids
    refine ss_seqI (fun m ow => ∃ s' a b c d e, m = rtEnv33 lss ids O a b c d e ∧ ow = [.lst (Src.l s' |>.map PyData.int)] ∧ SrcOk n0 s') (ss_forR (fun t m ow => ∃ s' a b c d e, m = rtEnv33 lss ids O a b c d e ∧ ow = [.lst (Src.l s' |>.map PyData.int)] ∧ SrcOk (n0 + 2 * (12 - t)) s') nn (ea_cons (ee_eqI (ee_op ee_c (ee_cb (ea_cons (ee_op (ee_var rfl) (ee_lst true ea_nil rfl) (rr_neN (ds := ids.map PyData.int) rfl rfl)) ea_nil) cc_intB) (rr_1 (cmul (by decide) (by split <;> decide)))) hnn) ea_nil) (by omega) (by omega) ⟨s1, _, _, _, _, _, rfl, rfl, so1.mono (by omega)⟩ ?_ (fun m ow ⟨s', a, b, c, d, e, h1, h2, h3⟩ => ⟨s', a, b, c, d, e, h1, h2, h3.mono (by omega)⟩) (by omega)) (fun m ow ⟨s', a, b, c, d, e, h1, h2, h3⟩ => by subst h1; subst h2; exact ss_ret (k := .v (.bl true)) (ee_eqB (c := true) (ee_op (ee_cb (ea_cons (ee_lstA (ea_cons (ee_var rfl) (ea_cons (ee_var rfl) ea_nil)) rfl) ea_nil) (cc_repr rfl rp)) (ee_var rfl) (rr_eq rfl)) (decide_eq_true rfl)) ⟨.bool true, s'.l, ⟨s', rfl, rfl, h3⟩, rfl, rfl, fun h => by cases h⟩)
    rintro t m ow ht ⟨s', a, b, c, d, e, rfl, rfl, so'⟩
    have hne := hne (by omega)
    have hp : 0 < ids.length := List.length_pos_iff.mpr hne
    have hz : (0 : Int) < (ids.length : Int) := by omega
    have so' := so'.mono (k := n0 + 2 * (12 - (t + 1)) + 1 + 1) (by omega)
    have la := tlim (z := (ids.length : Int)) hz (by omega) so'
    have oa := nxt_ok (lim := (ids.length : Int)) so'
    have a0 := tak_lo s' hz
    have a1 := tak_hi s' hz
    obtain ⟨u, hu⟩ : ∃ u : Nat, tak s' (ids.length : Int) = (u : Int) := ⟨(tak s' (ids.length : Int)).toNat, by omega⟩
    obtain ⟨x, hx⟩ : ∃ x, ids[u]? = some x := ⟨_, List.getElem?_eq_getElem (by omega)⟩
    obtain ⟨s2, hs2⟩ : ∃ s2, s2 = nxt s' (ids.length : Int) := ⟨_, rfl⟩
    rw [← hs2] at oa
    have lb := tlim (z := (ids.length : Int)) hz (by omega) oa
    have ob := nxt_ok (lim := (ids.length : Int)) oa
    have b0 := tak_lo s2 hz
    have b1 := tak_hi s2 hz
    obtain ⟨v, hv⟩ : ∃ v : Nat, tak s2 (ids.length : Int) = (v : Int) := ⟨(tak s2 (ids.length : Int)).toNat, by omega⟩
    obtain ⟨y, hy⟩ : ∃ y, ids[v]? = some y := ⟨_, List.getElem?_eq_getElem (by omega)⟩
    obtain ⟨s3, hs3⟩ : ∃ s3, s3 = nxt s2 (ids.length : Int) := ⟨_, rfl⟩
    rw [← hs3] at ob
    have xin := List.mem_of_getElem? hx
    have yin := List.mem_of_getElem? hy
    refine ss_seq (ss_tup [6, 7] (ks := [.v (.int x), .v (.int y)]) (ea_cons (k := .v (.int x)) (ow1 := [.lst (s2.l.map PyData.int)]) (ee_op (ee_var rfl) (ee_eqO (ee_callM true (s', (ids.length : Int)) 0 (ea_cons (ee_var rfl) (ea_cons (ee_eqI (ee_cb (ea_cons (ee_var rfl) ea_nil) (cc_len rfl)) idl) ea_nil)) rfl rfl la) (k1 := .v (.int (u : Int))) (by show Knd.v (.int (tak s' _)) = _; rw [hu]) (by rw [hs2]; rfl)) (rr_ixI (ns := ids) rfl u hx rfl)) (ea_cons (k := .v (.int y)) (ow1 := [.lst (s3.l.map PyData.int)]) (ee_op (ee_var rfl) (ee_eqO (ee_callM true (s2, (ids.length : Int)) 0 (ea_cons (ee_var rfl) (ea_cons (ee_eqI (ee_cb (ea_cons (ee_var rfl) ea_nil) (cc_len rfl)) idl) ea_nil)) rfl rfl lb) (k1 := .v (.int (v : Int))) (by show Knd.v (.int (tak s2 _)) = _; rw [hv]) (by rw [hs3]; rfl)) (rr_ixI (ns := ids) rfl v hy rfl)) ea_nil)) rfl (Nat.le_of_ble_eq_true rfl) ?_)
    show SS K _ (rtEnv33 lss ids O (some (.v (.int (t : Int)))) (some (.v (.int x))) (some (.v (.int y))) d e) [.lst (s3.l.map PyData.int)] _
    obtain ⟨due, hdue⟩ : ∃ due, due = decide ((bk32 lss x).2 < (bk32 lss y).1) := ⟨_, rfl⟩
    refine ss_seq (ss_set (k := .v (.bl due)) (ow1 := [.lst (s3.l.map PyData.int)]) (ee_eq (ee_op (ee_op (ee_call true (lss, ids, x) (ea_cons (ee_var rfl) (ea_cons (ee_var rfl) (ea_cons (ee_var rfl) ea_nil))) rfl ⟨fo, xin⟩) ee_c (rr_ixT (b := true) (d := .int (bk32 lss x).2) rfl rfl)) (ee_op (ee_call true (lss, ids, y) (ea_cons (ee_var rfl) (ea_cons (ee_var rfl) (ea_cons (ee_var rfl) ea_nil))) rfl ⟨fo, yin⟩) ee_c (rr_ixT (b := true) (d := .int (bk32 lss y).1) rfl rfl)) rr_0) (by rw [hdue])) ?_)
    refine ss_seq (ss_if (b := false) (eb_eq (eb_test (ee_op (ee_cb (ea_cons (k := .v (.bl due)) (ee_eq (ee_call true (lss, ids, x, y) (ea_cons (ee_var rfl) (ea_cons (ee_var rfl) (ea_cons (ee_var rfl) (ea_cons (ee_var rfl) ea_nil)))) rfl ⟨fo, xin, yin⟩) (by rw [hdue]; rfl)) ea_nil) (cc_repr (d := .bool due) rfl (rep_b33 due))) (ee_cb (ea_cons (ee_var rfl) ea_nil) (cc_repr (d := .bool due) rfl (rep_b33 due))) (rr_ne rfl))) (nd_11 rfl)) (fun h => by cases h) fun _ => ss_next ?_)
    have idx : ∀ o ∈ O, ∀ z ∈ ids, o[o.idxOf z]? = some z ∧ (∀ j, j < o.idxOf z → o[j]? ≠ some z) ∧ z ∈ o := fun o ho z hz => by
      obtain ⟨dt, hl⟩ := hO o ho
      have zin := all33 dt hl hz
      have hlz := List.idxOf_lt_length_of_mem zin
      have g : o[o.idxOf z]? = some z := by rw [List.getElem?_eq_getElem hlz, List.getElem_idxOf]
      exact ⟨g, fun j hj e => by have := nd_at dt.nd e g; omega, zin⟩
    refine ss_seq (ss_set (k := .dat (.list ((O.filter fun o => decide ((o.idxOf x : Int) > (o.idxOf y : Int))).map lI))) (ow1 := [.lst (s3.l.map PyData.int)]) (ee_lc (j := 10) (vs := [10]) true O lI (fun o => decide ((o.idxOf x : Int) > (o.idxOf y : Int))) lI (ee_var rfl) rfl (fun o ho => ⟨eb_test (ee_op (ee_index (ns := o) (n := o.idxOf x) (ee_var rfl) rfl (ea_cons (ee_var rfl) ea_nil) (idx o ho x xin).1 (idx o ho x xin).2.1) (ee_index (ns := o) (n := o.idxOf y) (ee_var rfl) rfl (ea_cons (ee_var rfl) ea_nil) (idx o ho y yin).1 (idx o ho y yin).2.1) rr_0), fun _ => ⟨_, rfl, ee_var rfl⟩⟩) (by decide) (by omega)) ?_)
    have hw : due = true → (O.filter fun o => decide ((o.idxOf x : Int) > (o.idxOf y : Int))) = [] := fun hd => List.filter_eq_nil_iff.mpr fun o ho => by
      rw [hdue] at hd
      rw [decide_eq_true_eq]
      exact sure33 (hO o ho).1 (idx o ho x xin).2.2 (idx o ho y yin).2.2 (of_decide_eq_true hd)
    refine ss_seq (ss_if (b := false) (eb_eq (eb_and (eb_val (ee_var rfl)) (fun _ => eb_test (ee_op (ee_var rfl) (ee_lst true ea_nil rfl) (rr_neN (ds := (O.filter fun o => decide ((o.idxOf x : Int) > (o.idxOf y : Int))).map lI) rfl rfl)))) ?_) (fun h => by cases h) fun _ => ss_next ?_)
    · cases hd : due with
      | false => rfl
      | true => rw [hw hd]; rfl
    refine ss_if (b := false) (eb_eq (eb_and (c := false) (eb_val (ee_var rfl)) (fun hd => eb_eq (eb_or (eb_test (ee_op (ee_var rfl) (ee_var rfl) (rr_eq rfl))) (fun _ => eb_val (ee_call true (lss, ids, y, x) (ea_cons (ee_var rfl) (ea_cons (ee_var rfl) (ea_cons (ee_var rfl) (ea_cons (ee_var rfl) ea_nil)))) rfl ⟨fo, yin, xin⟩))) ?_)) (Bool.and_false _)) (fun h => by cases h) fun _ => ss_next ⟨s3, _, _, _, _, _, rfl, rfl, ob⟩
    rw [hdue] at hd
    have hd := of_decide_eq_true hd
    have l1 := bk_le (lss := lss) x
    have l2 := bk_le (lss := lss) y
    have n1 : ¬ V.int x = V.int y := fun e => by
      have e := V.int.inj e
      subst e; omega
    rw [decide_eq_false n1, decide_eq_false (show ¬ (bk32 lss y).2 < (bk32 lss x).1 by omega)]; rfl⟩

/-! ### law -/
theorem f_law {f : Addr} {fd : FuncData} (T : Txt K mg) (F : Fun K "law" "law" s_law f fd) : FnG P w K mg base CX0 11 f fd ["_law_script"] (spLaw K) :=
  ok_P F sc_law (fun _ => rfl) fun cdv A outer s H E hr => ⟨_, (pss_cons (ps_for PassesOwn.never rfl (pi_range1 (by rfl) T.n_range (pa_cons (pe_callB (call_mx2 rfl) (by rfl) T.n_max (by decide +kernel) (pa_cons pe_int (pa_cons (pe_callB (call_mn2 rfl) (by rfl) T.n_min (by decide +kernel) (pa_cons pe_int (pa_cons (pe_callB call_ln (by rfl) T.n_len (show bootBuiltins "len" = some (.builtin "len") by decide +kernel) (pa_cons (pv 0) pa_nil)) pa_nil))) pa_nil))) pa_nil)) (pg_name (i := 1) sc_law.nd rfl (by first | exact .inl rfl | exact .inr rfl)) (pss_cons (ps_set (i := 2) sc_law.nd rfl (by first | exact .inl rfl | exact .inr rfl) (pe_cal (c_bag T) hr (by decide) (by rfl) (pa_cons (pv 0) (pa_cons (pv 1) pa_nil)))) (pss_one (ps_for PassesOwn.never rfl (pi_listK (K := K) rfl (pe_lst (pa_cons pe_int (pa_cons pe_int (pa_cons pe_int pa_nil))))) (pg_name (i := 3) sc_law.nd rfl (by first | exact .inl rfl | exact .inr rfl)) (pss_cons (ps_asg (pe_cal (c_log T) hr (by decide) (by rfl) (pa_cons (pv 2) (pa_cons (pv 3) (pa_cons pe_int pa_nil)))) (pg_tupK (K := K) (n := 2) rfl rfl (pgs_cons (pg_name (i := 4) sc_law.nd rfl (by first | exact .inl rfl | exact .inr rfl)) (pgs_cons (pg_name (i := 5) sc_law.nd rfl (by first | exact .inl rfl | exact .inr rfl)) pgs_nil)))) (pss_cons (ps_if (pt_not (pt_val (pe_cal (c_right T) hr (by decide) (by rfl) (pa_cons (pv 2) (pa_cons (pv 4) (pa_cons (pv 5) pa_nil)))))) (pss_one (ps_ret pe_bl)) pss_nil) (pss_one (ps_if (PW.pt (pw_and (pt_cmpR (op_neNK (K := K) rfl (by exact hr.r.units)) (pv 4) (pe_lst pa_nil) (nomark _)) (pw_and1 (pt_cmpR (op_neNK (K := K) rfl (by exact hr.r.units)) (pv 5) (pe_lst pa_nil) (nomark _))))) (pss_cons (ps_expr (pe_bm0 PySem.F.plainAttrs_list PySem.F.slot_list_pop PySem.F.type_list_pop mt_pop (pv 4))) (pss_cons (ps_expr (pe_bm PySem.F.plainAttrs_list PySem.F.slot_list_append PySem.F.type_list_append mt_append (pv 5) (pa_cons (pe_callB (call_mn2 rfl) (by rfl) T.n_min (by decide +kernel) (pa_cons (pe_op op_pw pe_int pe_int) (pa_cons (pe_op op_add (pe_ix (ix_listK (K := K) rfl) (pv 5) (pe_un un_neg pe_int) (fun _ _ => rfl)) pe_int) pa_nil))) pa_nil))) (pss_one (ps_if (PW.pt (pw_and (pt_cmpR op_gt (pe_ix (ix_listK (K := K) rfl) (pv 5) (pe_un un_neg pe_int) (fun _ _ => rfl)) (pe_ix (ix_listK (K := K) rfl) (pe_slice (sl_listK (K := K) rfl) (pv 5) (po_some (pe_un un_neg pe_int)) po_none) pe_int (fun _ _ => rfl)) (nomark _)) (pw_and (pt_cmpR op_lt (pe_callB call_ln (by rfl) T.n_len (show bootBuiltins "len" = some (.builtin "len") by decide +kernel) (pa_cons (pv 5) pa_nil)) pe_int (nomark _)) (pw_and1 (pt_not (pt_val (pe_cal (c_right T) hr (by decide) (by rfl) (pa_cons (pv 2) (pa_cons (pv 4) (pa_cons (pv 5) pa_nil)))))))))) (pss_one (ps_ret pe_bl)) pss_nil)))) pss_nil)))))))) (pss_cons (ps_asg (pe_tup (pa_cons (pe_lst (pa_cons (pe_lst (pa_cons pe_int pa_nil)) (pa_cons (pe_lst (pa_cons pe_int (pa_cons pe_int pa_nil))) (pa_cons (pe_lst (pa_cons pe_int (pa_cons pe_int pa_nil))) pa_nil)))) (pa_cons (pe_lst (pa_cons pe_int (pa_cons pe_int (pa_cons pe_int (pa_cons pe_int (pa_cons pe_int (pa_cons pe_int (pa_cons pe_int pa_nil)))))))) pa_nil))) (pg_tupK (K := K) (n := 2) rfl rfl (pgs_cons (pg_name (i := 4) sc_law.nd rfl (by first | exact .inl rfl | exact .inr rfl)) (pgs_cons (pg_name (i := 5) sc_law.nd rfl (by first | exact .inl rfl | exact .inr rfl)) pgs_nil)))) (pss_one (ps_ret (pe_cmpR (op_eqK (K := K) rfl (by exact hr.r.units)) (pe_lc (own := [("_law_one", 6), ("_law_other", 7)]) (g := _) (by rfl) sc_law.nd (pi_listK (K := K) rfl (pe_lst (pa_cons (pe_tup (pa_cons pe_int (pa_cons pe_int pa_nil))) (pa_cons (pe_tup (pa_cons pe_int (pa_cons pe_int pa_nil))) (pa_cons (pe_tup (pa_cons pe_int (pa_cons pe_int pa_nil))) pa_nil))))) (blkOk_by (N := ["_law_script", "_law_index", "_law_bag_here", "_law_most", "_law_log_here", "_law_ids", "_law_one", "_law_other"]) (sc := defScope s_law) (by decide +kernel)) (fun _ _ _ _ _ => (pg_tupK (K := K) (n := 2) rfl rfl (pgs_cons (pg_name (i := 6) sc_law.nd rfl (by first | exact .inl rfl | exact .inr rfl)) (pgs_cons (pg_name (i := 7) sc_law.nd rfl (by first | exact .inl rfl | exact .inr rfl)) pgs_nil)))) (fun _ _ _ _ _ => pts_nil) (fun _ _ _ _ _ => (pe_cal (c_surely_ahead T) hr (by decide) (by rfl) (pa_cons (pv 4) (pa_cons (pv 5) (pa_cons (pv 6) (pa_cons (pv 7) pa_nil))))))) (pe_lst (pa_cons pe_bl (pa_cons pe_bl (pa_cons pe_bl pa_nil)))) (nomark _)))))), fun sc hsc => by
    have hsc : sc.length ≤ 63 := hsc
    have hl : (sc.map PyData.int).length = sc.length := List.length_map _
    refine ss_seqI (fun m ow => ∃ a b c d e f g, m = lEnv33 sc a b c d e f g ∧ ow = []) (ss_forR (fun i m ow => ∃ a b c d e f g, m = lEnv33 sc a b c d e f g ∧ ow = []) _ (ea_cons (ee_cb (ea_cons ee_c (ea_cons (ee_cb (ea_cons ee_c (ea_cons (ee_cb (ea_cons (ee_var rfl) ea_nil) (cc_len rfl)) ea_nil)) cc_mn2) ea_nil)) cc_mx2) ea_nil) rfl (by rw [hl]; split <;> split <;> omega) ⟨_, _, _, _, _, _, _, rfl, rfl⟩ ?_ (fun m ow h => h) (by rw [hl]; split <;> split <;> omega)) ?_
    · rintro i m ow hi ⟨a, b, c, d, e, f, g, rfl, rfl⟩
      have hi : i ≤ 63 := by rw [hl] at hi; split at hi <;> split at hi <;> omega
      refine ss_end 0 ?_
      refine ss_seq (ss_set (ee_call false (sc, i) (ea_cons (ee_var rfl) (ea_cons (ee_var rfl) ea_nil)) rfl hi) ?_)
      refine ss_for (fun t m ow => ∃ s' c d e f g, m = lEnv33 sc (some (.v (.int (i : Int)))) (some (.own 0)) c d e f g ∧ ow = [.lst (Src.l s' |>.map PyData.int)] ∧ SrcOk (10000 - 3000 * t) s') true (([6, 14, 30] : List Nat).map fun q : Nat => PyData.int (q : Int)) (ee_lst true (ea_cons ee_c (ea_cons ee_c (ea_cons ee_c ea_nil))) rfl) ⟨mkBag sc i, _, _, _, _, _, rfl, rfl, (mkBag_ok hi).mono (by decide)⟩ (fun _ _ _ _ _ => rfl) ?_ (fun m ow ⟨s', c, d, e, f, g, h1, h2, _⟩ => by subst h1; subst h2; exact ⟨Nat.zero_le _, _, _, _, _, _, _, _, rfl, rfl⟩)
      rintro t dd m ow hd ⟨s', c, d, e, f, g, rfl, rfl, so⟩
      have ht := (List.getElem?_eq_some_iff.mp hd).1
      have ht : t < 3 := ht
      obtain ⟨q, hq, rfl⟩ : ∃ q : Nat, q ≤ 30 ∧ dd = .int (q : Int) := by
        rw [List.getElem?_map] at hd
        obtain ⟨q, h1, h2⟩ := Option.map_eq_some_iff.mp hd
        have := List.mem_of_getElem? h1
        simp at this
        exact ⟨q, by omega, h2.symm⟩
      obtain ⟨n0, hn0⟩ : ∃ n0 : Nat, n0 = 10000 - 3000 * (t + 1) := ⟨_, rfl⟩
      rw [← hn0]
      have so := so.mono (k := (n0 + 1500) + 1000) (by omega)
      refine ss_end 1 ?_
      refine ss_seq (ss_callL (i := 4) (j := 5) (s', q, 12, n0 + 1500) 0 (ea_cons (ee_var rfl) (ea_cons (ee_var rfl) (ea_cons ee_c ea_nil))) (by rfl) (by rfl) (by exact ⟨so, hq, by show 12 ≤ 12; decide⟩) ?_)
      rintro lss ids ns qs ⟨s2, rfl, so2, lo, ao, hsub, hil, hll⟩ hqs
      have so2 : SrcOk (n0 + 1500) s2 := so2
      have fo : FitO lss ids := ⟨lo, ao, hsub⟩
      show SS K _ (lEnv33 sc (some (.v (.int (i : Int)))) (some (.own 0)) (some (.v (.int (q : Int)))) (some (.own 1)) (some (.own 2)) f g) [.lst (s2.l.map PyData.int), .tr qs (lil lss), .lst (ids.map PyData.int)] _
      refine ss_seq (ss_ifNX (ex_callR true (s2, lss, ids, n0 + 1000) 0 (ea_cons (ee_var rfl) (ea_cons (ee_var rfl) (ea_cons (ee_var rfl) ea_nil))) rfl (by show some [PyData.list ((lil lss).map PyData.list), lI ids] = _; rw [lil_list32]; rfl) ⟨so2.mono (by show n0 + 1000 + 200 ≤ _; omega), fo⟩) ?_)
      rintro k3 ow3 ⟨e3, ns3, ⟨s3, rfl, rfl, so3⟩, rfl, rfl⟩
      have so3 : SrcOk (n0 + 1000) s3 := so3
      refine ⟨rfl, ss_next ?_⟩
      show SS K _ (lEnv33 sc (some (.v (.int (i : Int)))) (some (.own 0)) (some (.v (.int (q : Int)))) (some (.own 1)) (some (.own 2)) f g) [.lst (s3.l.map PyData.int), .tr qs (lil lss), .lst (ids.map PyData.int)] _
      refine ss_if (b := !qs.isEmpty && !(ids.map PyData.int).isEmpty) (eb_and (eb_test (ee_op (ee_var rfl) (ee_lst true ea_nil rfl) (rr_neNT rfl rfl))) (fun _ => eb_test (ee_op (ee_var rfl) (ee_lst true ea_nil rfl) (rr_neN (ds := ids.map PyData.int) rfl rfl)))) (fun hb => ?_) (fun _ => ss_next ⟨Nat.le_of_ble_eq_true rfl, s3, _, _, _, _, _, rfl, rfl, so3.mono (by omega)⟩)
      obtain ⟨hb1, hb2⟩ := Bool.and_eq_true_iff.mp hb
      have hne : qs ≠ [] := fun z => by rw [z] at hb1; cases hb1
      have ine : ids ≠ [] := fun z => by rw [z] at hb2; cases hb2
      have i30 := ao.ok.len
      refine ss_seq (ss_popT (n := 1) (ee_var rfl) rfl hne ?_)
      rw [lil_drop32]
      show SS K _ (lEnv33 sc (some (.v (.int (i : Int)))) (some (.own 0)) (some (.v (.int (q : Int)))) (some (.own 1)) (some (.own 2)) f g) [.lst (s3.l.map PyData.int), .tr qs.dropLast (lil lss.dropLast), .lst (ids.map PyData.int)] _
      obtain ⟨v, hv⟩ : ∃ v : Int, v = (if ids.getLastD 0 + 1 < 10 ^ (30 : Int).toNat then ids.getLastD 0 + 1 else 10 ^ (30 : Int).toNat) := ⟨_, rfl⟩
      have v30 : v ≤ 10 ^ (30 : Int).toNat := by rw [hv]; split <;> omega
      refine ss_seq (ss_expr (ee_append (n := 2) (d := .int v) (ds := ids.map PyData.int) (ow1 := [.lst (s3.l.map PyData.int), .tr qs.dropLast (lil lss.dropLast), .lst (ids.map PyData.int)]) (ow2 := [.lst (s3.l.map PyData.int), .tr qs.dropLast (lil lss.dropLast), .lst (ids.map PyData.int)]) (ee_var rfl) rfl (ea_cons (k := .v (.int v)) (ee_eqI (ee_cb (ea_cons (ee_op ee_c ee_c (rr_1 (cpw (by decide) (by decide) (by decide)))) (ea_cons (ee_op (ee_op (ee_var rfl) (ee_un ee_c) (rr_ixL (b := true) (ds := ids.map PyData.int) (d := .int (ids.getLastD 0)) rfl (last32 ine))) ee_c rr_0) ea_nil)) cc_mn2) hv.symm) ea_nil) rfl rfl (by rw [List.length_map]; omega)) ?_)
      have ea : ids.map PyData.int ++ [.int v] = (ids ++ [v]).map PyData.int := by rw [List.map_append]; rfl
      rw [ea]
      show SS K _ (lEnv33 sc (some (.v (.int (i : Int)))) (some (.own 0)) (some (.v (.int (q : Int)))) (some (.own 1)) (some (.own 2)) f g) [.lst (s3.l.map PyData.int), .tr qs.dropLast (lil lss.dropLast), .lst ((ids ++ [v]).map PyData.int)] _
      have lv : (ids ++ [v]).getLastD 0 = v := by simp [List.getLastD_eq_getLast?]
      have len1 : (((ids ++ [v]).map PyData.int).length : Int) = (ids.length : Int) + 1 := by rw [List.length_map, List.length_append, List.length_singleton]; rfl
      refine ss_ifAANX (b := decide (v > ids.getLastD 0)) (c := decide ((ids.length : Int) + 1 < 31)) (eb_test (ee_op (ee_op (ee_var rfl) (ee_un ee_c) (rr_ixL (b := true) (ds := (ids ++ [v]).map PyData.int) (d := .int v) rfl (by have := last32 (l := ids ++ [v]) (by simp); rw [lv] at this; exact this))) (ee_op (ee_slice true (ds := (ids ++ [v]).map PyData.int) (lo := some (-2)) (hi := none) (ee_var rfl) (eo_some (ee_un ee_c)) eo_no rfl rfl) ee_c (rr_ixL (b := true) (d := .int (ids.getLastD 0)) rfl (two_first ine))) rr_0)) (fun _ => eb_test (ee_op (ee_eqI (ee_cb (ea_cons (ee_var rfl) ea_nil) (cc_len rfl)) len1) ee_c rr_0)) (fun h1 h2 => ?_) (ss_next ⟨Nat.le_of_ble_eq_true rfl, s3, _, _, _, _, _, rfl, rfl, so3.mono (by omega)⟩)
      have h1 := of_decide_eq_true h1
      have h2 := of_decide_eq_true h2
      have fo2 := fo.more v30 h1 ine (by omega)
      refine ⟨_, ex_callR true (s3, lss.dropLast, ids ++ [v], n0) 0 (ea_cons (ee_var rfl) (ea_cons (ee_var rfl) (ea_cons (ee_var rfl) ea_nil))) rfl (by show some [PyData.list ((lil lss.dropLast).map PyData.list), lI (ids ++ [v])] = _; rw [lil_list32]; rfl) ⟨so3.mono (by show n0 + 200 ≤ _; omega), fo2⟩, ?_⟩
      rintro k4 ow4 ⟨e4, ns4, ⟨s4, rfl, rfl, so4⟩, rfl, rfl⟩
      exact ⟨rfl, ss_next ⟨Nat.le_of_ble_eq_true rfl, s4, _, _, _, _, _, rfl, rfl, so4⟩⟩
    rintro m ow ⟨a, b, c, d, e, f, g, rfl, rfl⟩
    refine ss_seq (ss_tup [4, 5] (ks := [.dat (lgD [[2], [4, 5], [6, 7]]), .dat (lI [1, 2, 3, 4, 5, 6, 7])]) (ea_cons (ee_lst true (ea_cons (ee_lst true (ea_cons ee_c ea_nil) rfl) (ea_cons (ee_lst true (ea_cons ee_c (ea_cons ee_c ea_nil)) rfl) (ea_cons (ee_lst true (ea_cons ee_c (ea_cons ee_c ea_nil)) rfl) ea_nil))) rfl) (ea_cons (ee_lst true (ea_cons ee_c (ea_cons ee_c (ea_cons ee_c (ea_cons ee_c (ea_cons ee_c (ea_cons ee_c (ea_cons ee_c ea_nil))))))) rfl) ea_nil)) rfl (Nat.le_of_ble_eq_true rfl) ?_)
    have hin : ∀ p ∈ ([(4, 3), (1, 4), (2, 1)] : List (Int × Int)), p.1 ∈ ([1, 2, 3, 4, 5, 6, 7] : List Int) ∧ p.2 ∈ ([1, 2, 3, 4, 5, 6, 7] : List Int) := by decide
    have tp : ∀ {m : Env'} {ow : List OC} {a b : Int}, EE K (tTup (tCons (tC (.int a)) (tCons (tC (.int b)) tNil))) m ow (.dat (pD (a, b))) ow := fun {m ow a b} => ee_tup (ds := [.int a, .int b]) (ea_cons ee_c (ea_cons ee_c ea_nil)) rfl
    exact ss_ret (ee_eqB (c := true) (ee_op (ee_lcG (js := [6, 7]) true ([(4, 3), (1, 4), (2, 1)] : List (Int × Int)) pD (fun _ => true) (fun p => .bool (decide ((bk32 [[2], [4, 5], [6, 7]] p.1).2 < (bk32 [[2], [4, 5], [6, 7]] p.2).1))) (ee_lst true (ea_cons tp (ea_cons tp (ea_cons tp ea_nil))) rfl) rfl (by decide) (fun p hp => ⟨_, st_pair (st_name 6) (st_name 7), eb_yes, fun _ => ⟨.v (.bl _), rfl, ee_call true ([[2], [4, 5], [6, 7]], [1, 2, 3, 4, 5, 6, 7], p.1, p.2) (ea_cons (ee_var rfl) (ea_cons (ee_var rfl) (ea_cons (k := .v (.int p.1)) (ee_var rfl) (ea_cons (k := .v (.int p.2)) (ee_var rfl) ea_nil)))) rfl ⟨fo_end33, (hin p hp).1, (hin p hp).2⟩⟩⟩) (by decide)) (ee_lst true (ea_cons ee_c (ea_cons ee_c (ea_cons ee_c ea_nil))) rfl) (rr_eqD rfl rfl (by decide +kernel) (by decide +kernel))) (by decide +kernel)) rfl⟩

end
theorem fin {l : PySem.W.OpenLaw} {w : World} {K : PySem.W.Frag} {h : Heap} {mg : Str → Option Value} {fa : Addr} (X : K.In h) (G : h.Ns mainGlobals mg) (hfa : mg "law" = some (.ref fa))
    (u_abs : PySem.W.nsIn K mainGlobals "abs" = some none)
    (u_all : PySem.W.nsIn K mainGlobals "all" = some none)
    (u_bool : PySem.W.nsIn K mainGlobals "bool" = some none)
    (u_enumerate : PySem.W.nsIn K mainGlobals "enumerate" = some none)
    (u_int : PySem.W.nsIn K mainGlobals "int" = some none)
    (u_isinstance : PySem.W.nsIn K mainGlobals "isinstance" = some none)
    (u_len : PySem.W.nsIn K mainGlobals "len" = some none)
    (u_list : PySem.W.nsIn K mainGlobals "list" = some none)
    (u_max : PySem.W.nsIn K mainGlobals "max" = some none)
    (u_min : PySem.W.nsIn K mainGlobals "min" = some none)
    (u_range : PySem.W.nsIn K mainGlobals "range" = some none)
    (u_repr : PySem.W.nsIn K mainGlobals "repr" = some none)
    (u_set : PySem.W.nsIn K mainGlobals "set" = some none)
    (u_sorted : PySem.W.nsIn K mainGlobals "sorted" = some none)
    {t_GREATEST_ID : Tok} (u_GREATEST_ID : PySem.W.nsIn K mainGlobals "GREATEST_ID" = some (some (.int 1000000000000000000000000000000 t_GREATEST_ID)))
    {t_MOST_IDS : Tok} (u_MOST_IDS : PySem.W.nsIn K mainGlobals "MOST_IDS" = some (some (.int 30 t_MOST_IDS)))
    {t_MOST_LISTS : Tok} (u_MOST_LISTS : PySem.W.nsIn K mainGlobals "MOST_LISTS" = some (some (.int 12 t_MOST_LISTS)))
    {f_is_integer : Addr} {oc_is_integer kV_is_integer dc_is_integer pm_is_integer cd_is_integer ct_is_integer : Value} {od_is_integer an_is_integer : Option Addr} {sl_is_integer : Array (Option Value)}
    (a_is_integer : PySem.W.nsIn K mainGlobals "is_integer" = some (some (.ref f_is_integer)))
    (l_is_integer : K.lookup f_is_integer = some ⟨oc_is_integer, od_is_integer, .func (PySem.W.fnOf "is_integer" "is_integer" (defArgs s_is_integer) (defBody s_is_integer) (defScope s_is_integer) .none kV_is_integer dc_is_integer pm_is_integer an_is_integer cd_is_integer ct_is_integer), sl_is_integer⟩)
    (c_is_integer : PySem.W.codeIn K cd_is_integer "is_integer" = true) (k_is_integer : PySem.W.keepIn K (.ref f_is_integer) = true)
    {f_returned_by : Addr} {oc_returned_by kV_returned_by dc_returned_by pm_returned_by cd_returned_by ct_returned_by : Value} {od_returned_by an_returned_by : Option Addr} {sl_returned_by : Array (Option Value)}
    (a_returned_by : PySem.W.nsIn K mainGlobals "returned_by" = some (some (.ref f_returned_by)))
    (l_returned_by : K.lookup f_returned_by = some ⟨oc_returned_by, od_returned_by, .func (PySem.W.fnOf "returned_by" "returned_by" (defArgs s_returned_by) (defBody s_returned_by) (defScope s_returned_by) .none kV_returned_by dc_returned_by pm_returned_by an_returned_by cd_returned_by ct_returned_by), sl_returned_by⟩)
    (c_returned_by : PySem.W.codeIn K cd_returned_by "returned_by" = true) (k_returned_by : PySem.W.keepIn K (.ref f_returned_by) = true)
    {f_blocks_of : Addr} {oc_blocks_of kV_blocks_of dc_blocks_of pm_blocks_of cd_blocks_of ct_blocks_of : Value} {od_blocks_of an_blocks_of : Option Addr} {sl_blocks_of : Array (Option Value)}
    (a_blocks_of : PySem.W.nsIn K mainGlobals "blocks_of" = some (some (.ref f_blocks_of)))
    (l_blocks_of : K.lookup f_blocks_of = some ⟨oc_blocks_of, od_blocks_of, .func (PySem.W.fnOf "blocks_of" "blocks_of" (defArgs s_blocks_of) (defBody s_blocks_of) (defScope s_blocks_of) .none kV_blocks_of dc_blocks_of pm_blocks_of an_blocks_of cd_blocks_of ct_blocks_of), sl_blocks_of⟩)
    (c_blocks_of : PySem.W.codeIn K cd_blocks_of "blocks_of" = true) (k_blocks_of : PySem.W.keepIn K (.ref f_blocks_of) = true)
    {f_bag : Addr} {oc_bag kV_bag dc_bag pm_bag cd_bag ct_bag : Value} {od_bag an_bag : Option Addr} {sl_bag : Array (Option Value)}
    (a_bag : PySem.W.nsIn K mainGlobals "_law_bag" = some (some (.ref f_bag)))
    (l_bag : K.lookup f_bag = some ⟨oc_bag, od_bag, .func (PySem.W.fnOf "_law_bag" "_law_bag" (defArgs s_bag) (defBody s_bag) (defScope s_bag) .none kV_bag dc_bag pm_bag an_bag cd_bag ct_bag), sl_bag⟩)
    (c_bag : PySem.W.codeIn K cd_bag "_law_bag" = true) (k_bag : PySem.W.keepIn K (.ref f_bag) = true)
    {f_take : Addr} {oc_take kV_take dc_take pm_take cd_take ct_take : Value} {od_take an_take : Option Addr} {sl_take : Array (Option Value)}
    (a_take : PySem.W.nsIn K mainGlobals "_law_take" = some (some (.ref f_take)))
    (l_take : K.lookup f_take = some ⟨oc_take, od_take, .func (PySem.W.fnOf "_law_take" "_law_take" (defArgs s_take) (defBody s_take) (defScope s_take) .none kV_take dc_take pm_take an_take cd_take ct_take), sl_take⟩)
    (c_take : PySem.W.codeIn K cd_take "_law_take" = true) (k_take : PySem.W.keepIn K (.ref f_take) = true)
    {f_parts : Addr} {oc_parts kV_parts dc_parts pm_parts cd_parts ct_parts : Value} {od_parts an_parts : Option Addr} {sl_parts : Array (Option Value)}
    (a_parts : PySem.W.nsIn K mainGlobals "_law_parts" = some (some (.ref f_parts)))
    (l_parts : K.lookup f_parts = some ⟨oc_parts, od_parts, .func (PySem.W.fnOf "_law_parts" "_law_parts" (defArgs s_parts) (defBody s_parts) (defScope s_parts) .none kV_parts dc_parts pm_parts an_parts cd_parts ct_parts), sl_parts⟩)
    (c_parts : PySem.W.codeIn K cd_parts "_law_parts" = true) (k_parts : PySem.W.keepIn K (.ref f_parts) = true)
    {f_is_between : Addr} {oc_is_between kV_is_between dc_is_between pm_is_between cd_is_between ct_is_between : Value} {od_is_between an_is_between : Option Addr} {sl_is_between : Array (Option Value)}
    (a_is_between : PySem.W.nsIn K mainGlobals "is_between" = some (some (.ref f_is_between)))
    (l_is_between : K.lookup f_is_between = some ⟨oc_is_between, od_is_between, .func (PySem.W.fnOf "is_between" "is_between" (defArgs s_is_between) (defBody s_is_between) (defScope s_is_between) .none kV_is_between dc_is_between pm_is_between an_is_between cd_is_between ct_is_between), sl_is_between⟩)
    (c_is_between : PySem.W.codeIn K cd_is_between "is_between" = true) (k_is_between : PySem.W.keepIn K (.ref f_is_between) = true)
    {f_unknown_id : Addr} {oc_unknown_id kV_unknown_id dc_unknown_id pm_unknown_id cd_unknown_id ct_unknown_id : Value} {od_unknown_id an_unknown_id : Option Addr} {sl_unknown_id : Array (Option Value)}
    (a_unknown_id : PySem.W.nsIn K mainGlobals "unknown_id" = some (some (.ref f_unknown_id)))
    (l_unknown_id : K.lookup f_unknown_id = some ⟨oc_unknown_id, od_unknown_id, .func (PySem.W.fnOf "unknown_id" "unknown_id" (defArgs s_unknown_id) (defBody s_unknown_id) (defScope s_unknown_id) .none kV_unknown_id dc_unknown_id pm_unknown_id an_unknown_id cd_unknown_id ct_unknown_id), sl_unknown_id⟩)
    (c_unknown_id : PySem.W.codeIn K cd_unknown_id "unknown_id" = true) (k_unknown_id : PySem.W.keepIn K (.ref f_unknown_id) = true)
    {f_p_check_one_of : Addr} {oc_p_check_one_of kV_p_check_one_of dc_p_check_one_of pm_p_check_one_of cd_p_check_one_of ct_p_check_one_of : Value} {od_p_check_one_of an_p_check_one_of : Option Addr} {sl_p_check_one_of : Array (Option Value)}
    (a_p_check_one_of : PySem.W.nsIn K mainGlobals "_check_one_of" = some (some (.ref f_p_check_one_of)))
    (l_p_check_one_of : K.lookup f_p_check_one_of = some ⟨oc_p_check_one_of, od_p_check_one_of, .func (PySem.W.fnOf "_check_one_of" "_check_one_of" (defArgs s_p_check_one_of) (defBody s_p_check_one_of) (defScope s_p_check_one_of) .none kV_p_check_one_of dc_p_check_one_of pm_p_check_one_of an_p_check_one_of cd_p_check_one_of ct_p_check_one_of), sl_p_check_one_of⟩)
    (c_p_check_one_of : PySem.W.codeIn K cd_p_check_one_of "_check_one_of" = true) (k_p_check_one_of : PySem.W.keepIn K (.ref f_p_check_one_of) = true)
    {f_log : Addr} {oc_log kV_log dc_log pm_log cd_log ct_log : Value} {od_log an_log : Option Addr} {sl_log : Array (Option Value)}
    (a_log : PySem.W.nsIn K mainGlobals "_law_log" = some (some (.ref f_log)))
    (l_log : K.lookup f_log = some ⟨oc_log, od_log, .func (PySem.W.fnOf "_law_log" "_law_log" (defArgs s_log) (defBody s_log) (defScope s_log) .none kV_log dc_log pm_log an_log cd_log ct_log), sl_log⟩)
    (c_log : PySem.W.codeIn K cd_log "_law_log" = true) (k_log : PySem.W.keepIn K (.ref f_log) = true)
    {f_drawn_order : Addr} {oc_drawn_order kV_drawn_order dc_drawn_order pm_drawn_order cd_drawn_order ct_drawn_order : Value} {od_drawn_order an_drawn_order : Option Addr} {sl_drawn_order : Array (Option Value)}
    (a_drawn_order : PySem.W.nsIn K mainGlobals "_law_drawn_order" = some (some (.ref f_drawn_order)))
    (l_drawn_order : K.lookup f_drawn_order = some ⟨oc_drawn_order, od_drawn_order, .func (PySem.W.fnOf "_law_drawn_order" "_law_drawn_order" (defArgs s_drawn_order) (defBody s_drawn_order) (defScope s_drawn_order) .none kV_drawn_order dc_drawn_order pm_drawn_order an_drawn_order cd_drawn_order ct_drawn_order), sl_drawn_order⟩)
    (c_drawn_order : PySem.W.codeIn K cd_drawn_order "_law_drawn_order" = true) (k_drawn_order : PySem.W.keepIn K (.ref f_drawn_order) = true)
    {f_ends : Addr} {oc_ends kV_ends dc_ends pm_ends cd_ends ct_ends : Value} {od_ends an_ends : Option Addr} {sl_ends : Array (Option Value)}
    (a_ends : PySem.W.nsIn K mainGlobals "_law_ends" = some (some (.ref f_ends)))
    (l_ends : K.lookup f_ends = some ⟨oc_ends, od_ends, .func (PySem.W.fnOf "_law_ends" "_law_ends" (defArgs s_ends) (defBody s_ends) (defScope s_ends) .none kV_ends dc_ends pm_ends an_ends cd_ends ct_ends), sl_ends⟩)
    (c_ends : PySem.W.codeIn K cd_ends "_law_ends" = true) (k_ends : PySem.W.keepIn K (.ref f_ends) = true)
    {f_is_id : Addr} {oc_is_id kV_is_id dc_is_id pm_is_id cd_is_id ct_is_id : Value} {od_is_id an_is_id : Option Addr} {sl_is_id : Array (Option Value)}
    (a_is_id : PySem.W.nsIn K mainGlobals "is_id" = some (some (.ref f_is_id)))
    (l_is_id : K.lookup f_is_id = some ⟨oc_is_id, od_is_id, .func (PySem.W.fnOf "is_id" "is_id" (defArgs s_is_id) (defBody s_is_id) (defScope s_is_id) .none kV_is_id dc_is_id pm_is_id an_is_id cd_is_id ct_is_id), sl_is_id⟩)
    (c_is_id : PySem.W.codeIn K cd_is_id "is_id" = true) (k_is_id : PySem.W.keepIn K (.ref f_is_id) = true)
    {f_is_order : Addr} {oc_is_order kV_is_order dc_is_order pm_is_order cd_is_order ct_is_order : Value} {od_is_order an_is_order : Option Addr} {sl_is_order : Array (Option Value)}
    (a_is_order : PySem.W.nsIn K mainGlobals "is_order" = some (some (.ref f_is_order)))
    (l_is_order : K.lookup f_is_order = some ⟨oc_is_order, od_is_order, .func (PySem.W.fnOf "is_order" "is_order" (defArgs s_is_order) (defBody s_is_order) (defScope s_is_order) .none kV_is_order dc_is_order pm_is_order an_is_order cd_is_order ct_is_order), sl_is_order⟩)
    (c_is_order : PySem.W.codeIn K cd_is_order "is_order" = true) (k_is_order : PySem.W.keepIn K (.ref f_is_order) = true)
    {f_are_ids : Addr} {oc_are_ids kV_are_ids dc_are_ids pm_are_ids cd_are_ids ct_are_ids : Value} {od_are_ids an_are_ids : Option Addr} {sl_are_ids : Array (Option Value)}
    (a_are_ids : PySem.W.nsIn K mainGlobals "are_ids" = some (some (.ref f_are_ids)))
    (l_are_ids : K.lookup f_are_ids = some ⟨oc_are_ids, od_are_ids, .func (PySem.W.fnOf "are_ids" "are_ids" (defArgs s_are_ids) (defBody s_are_ids) (defScope s_are_ids) .none kV_are_ids dc_are_ids pm_are_ids an_are_ids cd_are_ids ct_are_ids), sl_are_ids⟩)
    (c_are_ids : PySem.W.codeIn K cd_are_ids "are_ids" = true) (k_are_ids : PySem.W.keepIn K (.ref f_are_ids) = true)
    {f_check_ids : Addr} {oc_check_ids kV_check_ids dc_check_ids pm_check_ids cd_check_ids ct_check_ids : Value} {od_check_ids an_check_ids : Option Addr} {sl_check_ids : Array (Option Value)}
    (a_check_ids : PySem.W.nsIn K mainGlobals "check_ids" = some (some (.ref f_check_ids)))
    (l_check_ids : K.lookup f_check_ids = some ⟨oc_check_ids, od_check_ids, .func (PySem.W.fnOf "check_ids" "check_ids" (defArgs s_check_ids) (defBody s_check_ids) (defScope s_check_ids) .none kV_check_ids dc_check_ids pm_check_ids an_check_ids cd_check_ids ct_check_ids), sl_check_ids⟩)
    (c_check_ids : PySem.W.codeIn K cd_check_ids "check_ids" = true) (k_check_ids : PySem.W.keepIn K (.ref f_check_ids) = true)
    {f_is_log : Addr} {oc_is_log kV_is_log dc_is_log pm_is_log cd_is_log ct_is_log : Value} {od_is_log an_is_log : Option Addr} {sl_is_log : Array (Option Value)}
    (a_is_log : PySem.W.nsIn K mainGlobals "is_log" = some (some (.ref f_is_log)))
    (l_is_log : K.lookup f_is_log = some ⟨oc_is_log, od_is_log, .func (PySem.W.fnOf "is_log" "is_log" (defArgs s_is_log) (defBody s_is_log) (defScope s_is_log) .none kV_is_log dc_is_log pm_is_log an_is_log cd_is_log ct_is_log), sl_is_log⟩)
    (c_is_log : PySem.W.codeIn K cd_is_log "is_log" = true) (k_is_log : PySem.W.keepIn K (.ref f_is_log) = true)
    {f_check_log : Addr} {oc_check_log kV_check_log dc_check_log pm_check_log cd_check_log ct_check_log : Value} {od_check_log an_check_log : Option Addr} {sl_check_log : Array (Option Value)}
    (a_check_log : PySem.W.nsIn K mainGlobals "check_log" = some (some (.ref f_check_log)))
    (l_check_log : K.lookup f_check_log = some ⟨oc_check_log, od_check_log, .func (PySem.W.fnOf "check_log" "check_log" (defArgs s_check_log) (defBody s_check_log) (defScope s_check_log) .none kV_check_log dc_check_log pm_check_log an_check_log cd_check_log ct_check_log), sl_check_log⟩)
    (c_check_log : PySem.W.codeIn K cd_check_log "check_log" = true) (k_check_log : PySem.W.keepIn K (.ref f_check_log) = true)
    {f_p_check_fitting : Addr} {oc_p_check_fitting kV_p_check_fitting dc_p_check_fitting pm_p_check_fitting cd_p_check_fitting ct_p_check_fitting : Value} {od_p_check_fitting an_p_check_fitting : Option Addr} {sl_p_check_fitting : Array (Option Value)}
    (a_p_check_fitting : PySem.W.nsIn K mainGlobals "_check_fitting" = some (some (.ref f_p_check_fitting)))
    (l_p_check_fitting : K.lookup f_p_check_fitting = some ⟨oc_p_check_fitting, od_p_check_fitting, .func (PySem.W.fnOf "_check_fitting" "_check_fitting" (defArgs s_p_check_fitting) (defBody s_p_check_fitting) (defScope s_p_check_fitting) .none kV_p_check_fitting dc_p_check_fitting pm_p_check_fitting an_p_check_fitting cd_p_check_fitting ct_p_check_fitting), sl_p_check_fitting⟩)
    (c_p_check_fitting : PySem.W.codeIn K cd_p_check_fitting "_check_fitting" = true) (k_p_check_fitting : PySem.W.keepIn K (.ref f_p_check_fitting) = true)
    {f_surely_ahead : Addr} {oc_surely_ahead kV_surely_ahead dc_surely_ahead pm_surely_ahead cd_surely_ahead ct_surely_ahead : Value} {od_surely_ahead an_surely_ahead : Option Addr} {sl_surely_ahead : Array (Option Value)}
    (a_surely_ahead : PySem.W.nsIn K mainGlobals "surely_ahead" = some (some (.ref f_surely_ahead)))
    (l_surely_ahead : K.lookup f_surely_ahead = some ⟨oc_surely_ahead, od_surely_ahead, .func (PySem.W.fnOf "surely_ahead" "surely_ahead" (defArgs s_surely_ahead) (defBody s_surely_ahead) (defScope s_surely_ahead) .none kV_surely_ahead dc_surely_ahead pm_surely_ahead an_surely_ahead cd_surely_ahead ct_surely_ahead), sl_surely_ahead⟩)
    (c_surely_ahead : PySem.W.codeIn K cd_surely_ahead "surely_ahead" = true) (k_surely_ahead : PySem.W.keepIn K (.ref f_surely_ahead) = true)
    {f_right : Addr} {oc_right kV_right dc_right pm_right cd_right ct_right : Value} {od_right an_right : Option Addr} {sl_right : Array (Option Value)}
    (a_right : PySem.W.nsIn K mainGlobals "_law_right" = some (some (.ref f_right)))
    (l_right : K.lookup f_right = some ⟨oc_right, od_right, .func (PySem.W.fnOf "_law_right" "_law_right" (defArgs s_right) (defBody s_right) (defScope s_right) .none kV_right dc_right pm_right an_right cd_right ct_right), sl_right⟩)
    (c_right : PySem.W.codeIn K cd_right "_law_right" = true) (k_right : PySem.W.keepIn K (.ref f_right) = true)
    {f_law : Addr} {oc_law kV_law dc_law pm_law cd_law ct_law : Value} {od_law an_law : Option Addr} {sl_law : Array (Option Value)}
    (a_law : PySem.W.nsIn K mainGlobals "law" = some (some (.ref f_law)))
    (l_law : K.lookup f_law = some ⟨oc_law, od_law, .func (PySem.W.fnOf "law" "law" (defArgs s_law) (defBody s_law) (defScope s_law) .none kV_law dc_law pm_law an_law cd_law ct_law), sl_law⟩)
    (c_law : PySem.W.codeIn K cd_law "law" = true) (k_law : PySem.W.keepIn K (.ref f_law) = true) :
    ∃ fd : FuncData, (∀ (s : Shared) (v : Value), BindsTo s fd ⟨[v], []⟩ [("_law_script", v)]) ∧ ∀ base : Heap, K.In base → base.Ns mainGlobals mg → FnG l.prog w K mg base CX0 11 fa fd ["_law_script"] (spLaw K) := by
  have T : Txt K mg := ⟨PySem.W.mg_none_of X G u_abs,
    PySem.W.mg_none_of X G u_all,
    PySem.W.mg_none_of X G u_bool,
    PySem.W.mg_none_of X G u_enumerate,
    PySem.W.mg_none_of X G u_int,
    PySem.W.mg_none_of X G u_isinstance,
    PySem.W.mg_none_of X G u_len,
    PySem.W.mg_none_of X G u_list,
    PySem.W.mg_none_of X G u_max,
    PySem.W.mg_none_of X G u_min,
    PySem.W.mg_none_of X G u_range,
    PySem.W.mg_none_of X G u_repr,
    PySem.W.mg_none_of X G u_set,
    PySem.W.mg_none_of X G u_sorted,
    ⟨_, PySem.W.mg_of X G u_GREATEST_ID⟩,
    ⟨_, PySem.W.mg_of X G u_MOST_IDS⟩,
    ⟨_, PySem.W.mg_of X G u_MOST_LISTS⟩,
    def_mk X G a_is_integer l_is_integer c_is_integer k_is_integer (fun _ _ _ _ _ _ us hl => match us, hl with | [_], _ => rfl),
    def_mk X G a_returned_by l_returned_by c_returned_by k_returned_by (fun _ _ _ _ _ _ us hl => match us, hl with | [_], _ => rfl),
    def_mk X G a_blocks_of l_blocks_of c_blocks_of k_blocks_of (fun _ _ _ _ _ _ us hl => match us, hl with | [_, _], _ => rfl),
    def_mk X G a_bag l_bag c_bag k_bag (fun _ _ _ _ _ _ us hl => match us, hl with | [_, _], _ => rfl),
    def_mk X G a_take l_take c_take k_take (fun _ _ _ _ _ _ us hl => match us, hl with | [_, _], _ => rfl),
    def_mk X G a_parts l_parts c_parts k_parts (fun _ _ _ _ _ _ us hl => match us, hl with | [_, _], _ => rfl),
    def_mk X G a_is_between l_is_between c_is_between k_is_between (fun _ _ _ _ _ _ us hl => match us, hl with | [_, _, _], _ => rfl),
    def_mk X G a_unknown_id l_unknown_id c_unknown_id k_unknown_id (fun _ _ _ _ _ _ us hl => match us, hl with | [_, _], _ => rfl),
    def_mk X G a_p_check_one_of l_p_check_one_of c_p_check_one_of k_p_check_one_of (fun _ _ _ _ _ _ us hl => match us, hl with | [_, _], _ => rfl),
    def_mk X G a_log l_log c_log k_log (fun _ _ _ _ _ _ us hl => match us, hl with | [_, _, _], _ => rfl),
    def_mk X G a_drawn_order l_drawn_order c_drawn_order k_drawn_order (fun _ _ _ _ _ _ us hl => match us, hl with | [_, _, _], _ => rfl),
    def_mk X G a_ends l_ends c_ends k_ends (fun _ _ _ _ _ _ us hl => match us, hl with | [_, _, _], _ => rfl),
    def_mk X G a_is_id l_is_id c_is_id k_is_id (fun _ _ _ _ _ _ us hl => match us, hl with | [_], _ => rfl),
    def_mk X G a_is_order l_is_order c_is_order k_is_order (fun _ _ _ _ _ _ us hl => match us, hl with | [_], _ => rfl),
    def_mk X G a_are_ids l_are_ids c_are_ids k_are_ids (fun _ _ _ _ _ _ us hl => match us, hl with | [_], _ => rfl),
    def_mk X G a_check_ids l_check_ids c_check_ids k_check_ids (fun _ _ _ _ _ _ us hl => match us, hl with | [_], _ => rfl),
    def_mk X G a_is_log l_is_log c_is_log k_is_log (fun _ _ _ _ _ _ us hl => match us, hl with | [_], _ => rfl),
    def_mk X G a_check_log l_check_log c_check_log k_check_log (fun _ _ _ _ _ _ us hl => match us, hl with | [_], _ => rfl),
    def_mk X G a_p_check_fitting l_p_check_fitting c_p_check_fitting k_p_check_fitting (fun _ _ _ _ _ _ us hl => match us, hl with | [_, _], _ => rfl),
    def_mk X G a_surely_ahead l_surely_ahead c_surely_ahead k_surely_ahead (fun _ _ _ _ _ _ us hl => match us, hl with | [_, _, _, _], _ => rfl),
    def_mk X G a_right l_right c_right k_right (fun _ _ _ _ _ _ us hl => match us, hl with | [_, _, _], _ => rfl),
    def_mk X G a_law l_law c_law k_law (fun _ _ _ _ _ _ us hl => match us, hl with | [_], _ => rfl)⟩
  cases hfa.symm.trans (PySem.W.mg_of X G a_law)
  exact ⟨_, fun s v => .of_eq rfl, fun base _ _ => f_law T (fun_mk (st := s_law) l_law c_law k_law)⟩
end My
open PySem PySem.W PyProof.Rows
set_option maxRecDepth 100000 in
set_option maxHeartbeats 0 in
theorem PySem.Challenge.cw_lateids_k33_sure_order_of_ids_holds : PySem.Challenge.rw_lateids_k33_sure_order_of_ids.Holds := by
  w_on; o_law; k_head; (case hw => w_witness2)
  k_fill
  refine LD.walkG (l := PySem.Challenge.rw_lateids_k33_sure_order_of_ids) (n := 63) (k := 11) (x := "_law_script") (CX := L2.CX0) (sp := LD.spLaw) rfl (by decide) rfl ⟨rfl, by decide, by decide⟩ (fun w h Y => PySem.W.kIn_of Y) ?F (fun K H a ns h1 _ h3 => LD.law_in h1 h3) (fun _ _ _ _ z => z)
  case F =>
    intro w mg fa h KX G hmg
    refine' My.fin KX G hmg ?u_abs ?u_all ?u_bool ?u_enumerate ?u_int ?u_isinstance ?u_len ?u_list ?u_max ?u_min ?u_range ?u_repr ?u_set ?u_sorted ?u_GREATEST_ID ?u_MOST_IDS ?u_MOST_LISTS ?a_is_integer ?l_is_integer ?c_is_integer ?k_is_integer ?a_returned_by ?l_returned_by ?c_returned_by ?k_returned_by ?a_blocks_of ?l_blocks_of ?c_blocks_of ?k_blocks_of ?a_bag ?l_bag ?c_bag ?k_bag ?a_take ?l_take ?c_take ?k_take ?a_parts ?l_parts ?c_parts ?k_parts ?a_is_between ?l_is_between ?c_is_between ?k_is_between ?a_unknown_id ?l_unknown_id ?c_unknown_id ?k_unknown_id ?a_p_check_one_of ?l_p_check_one_of ?c_p_check_one_of ?k_p_check_one_of ?a_log ?l_log ?c_log ?k_log ?a_drawn_order ?l_drawn_order ?c_drawn_order ?k_drawn_order ?a_ends ?l_ends ?c_ends ?k_ends ?a_is_id ?l_is_id ?c_is_id ?k_is_id ?a_is_order ?l_is_order ?c_is_order ?k_is_order ?a_are_ids ?l_are_ids ?c_are_ids ?k_are_ids ?a_check_ids ?l_check_ids ?c_check_ids ?k_check_ids ?a_is_log ?l_is_log ?c_is_log ?k_is_log ?a_check_log ?l_check_log ?c_check_log ?k_check_log ?a_p_check_fitting ?l_p_check_fitting ?c_p_check_fitting ?k_p_check_fitting ?a_surely_ahead ?l_surely_ahead ?c_surely_ahead ?k_surely_ahead ?a_right ?l_right ?c_right ?k_right ?a_law ?l_law ?c_law ?k_law
    (case u_abs => k_is); (case u_all => k_is); (case u_bool => k_is); (case u_enumerate => k_is); (case u_int => k_is); (case u_isinstance => k_is); (case u_len => k_is); (case u_list => k_is); (case u_max => k_is); (case u_min => k_is); (case u_range => k_is); (case u_repr => k_is); (case u_set => k_is); (case u_sorted => k_is); (case u_GREATEST_ID => k_is); (case u_MOST_IDS => k_is); (case u_MOST_LISTS => k_is); (case a_is_integer => k_is); (case l_is_integer => k_is); (case c_is_integer => k_is); (case k_is_integer => k_is); (case a_returned_by => k_is); (case l_returned_by => k_is); (case c_returned_by => k_is); (case k_returned_by => k_is); (case a_blocks_of => k_is); (case l_blocks_of => k_is); (case c_blocks_of => k_is); (case k_blocks_of => k_is); (case a_bag => k_is); (case l_bag => k_is); (case c_bag => k_is); (case k_bag => k_is); (case a_take => k_is); (case l_take => k_is); (case c_take => k_is); (case k_take => k_is); (case a_parts => k_is); (case l_parts => k_is); (case c_parts => k_is); (case k_parts => k_is); (case a_is_between => k_is); (case l_is_between => k_is); (case c_is_between => k_is); (case k_is_between => k_is); (case a_unknown_id => k_is); (case l_unknown_id => k_is); (case c_unknown_id => k_is); (case k_unknown_id => k_is); (case a_p_check_one_of => k_is); (case l_p_check_one_of => k_is); (case c_p_check_one_of => k_is); (case k_p_check_one_of => k_is); (case a_log => k_is); (case l_log => k_is); (case c_log => k_is); (case k_log => k_is); (case a_drawn_order => k_is); (case l_drawn_order => k_is); (case c_drawn_order => k_is); (case k_drawn_order => k_is); (case a_ends => k_is); (case l_ends => k_is); (case c_ends => k_is); (case k_ends => k_is); (case a_is_id => k_is); (case l_is_id => k_is); (case c_is_id => k_is); (case k_is_id => k_is); (case a_is_order => k_is); (case l_is_order => k_is); (case c_is_order => k_is); (case k_is_order => k_is); (case a_are_ids => k_is); (case l_are_ids => k_is); (case c_are_ids => k_is); (case k_are_ids => k_is); (case a_check_ids => k_is); (case l_check_ids => k_is); (case c_check_ids => k_is); (case k_check_ids => k_is); (case a_is_log => k_is); (case l_is_log => k_is); (case c_is_log => k_is); (case k_is_log => k_is); (case a_check_log => k_is); (case l_check_log => k_is); (case c_check_log => k_is); (case k_check_log => k_is); (case a_p_check_fitting => k_is); (case l_p_check_fitting => k_is); (case c_p_check_fitting => k_is); (case k_p_check_fitting => k_is); (case a_surely_ahead => k_is); (case l_surely_ahead => k_is); (case c_surely_ahead => k_is); (case k_surely_ahead => k_is); (case a_right => k_is); (case l_right => k_is); (case c_right => k_is); (case k_right => k_is); (case a_law => k_is); (case l_law => k_is); (case c_law => k_is); (case k_law => k_is)
