import PyProof.Rows.All
import Wide.All
import OpenK.AllK
import Wide.FinOn
import PySem.Challenge.RW_cornerlines_k04_corners_of_spots
import HandS.ForMost
import HandS.Wide
import HandS.EndBits
import PyProof.ReprRoads
import KE.KRevSl
import HandS.IsInst
import HandS.TryOnly
set_option Elab.async false
set_option linter.all false
set_option maxRecDepth 100000
namespace Cl
open PySem PySem.Spec PyProof.Rows L2

/-! ### promises of defs that may be shown (repr) what stands on no guard's list -/
structure RG (k : Nat) (A : Around) : Prop where
  room : Room k A
  gd : A.guards = some []
theorem RG.mono {j k : Nat} {A : Around} (r : RG k A) (h : j ≤ k) : RG j A :=
  ⟨r.room.mono h, r.gd⟩
structure FnG (P : Program) (w : World) (K : PySem.W.Frag) (mg : Str → Option Value)
    (base : Heap) (CX : CXT) (k : Nat) (f : Addr) (fd : FuncData) (ps : List Str) (sp : Sp) : Prop where
  len : ∀ vs H Q E, sp vs H Q E → vs.length = ps.length
  run : ∀ A outer s H args us vs Q E, RG k A → Env0 P w K mg base A outer s H →
    BindsTo s fd args (ps.zip us) → Vals vs us → sp vs H Q E →
    codeAny (model P w) A (.call (.ref f) args) (CR CX outer P w H s Q E) s
section
variable {P : Program} {w : World} {K : PySem.W.Frag} {mg : Str → Option Value} {base : Heap} {CX : CXT}
theorem toG {k : Nat} {f : Addr} {fd : FuncData} {ps : List Str} {sp : Sp}
    (F : FnOk P w K mg base CX k f fd ps sp) : FnG P w K mg base CX k f fd ps sp :=
  ⟨F.len, fun A outer s H args us vs Q E r => F.run A outer s H args us vs Q E r.room⟩

/-- a def with what its body does, where no guard is set -/
theorem okG {x qual : Str} {st : Stmt} {f : Addr} {fd : FuncData} {N ps : List Str} {k : Nat} {sp : Sp}
    (F : Fun K x qual st f fd) (S : FnScope N ps (defScope st))
    (len : ∀ vs H Q E, sp vs H Q E → vs.length = ps.length)
    (body : ∀ (cdv : Value) (A : Around) (outer : List Env) (s : Shared) (H : Hp) (vs : List V) (Q : VK) (E : XK),
      RG k (A.deeper (envOfC qual (defScope st) s.heap.objs.size f cdv)) → sp vs H Q E →
      ∃ t, PSs (cxOf CX0 P w K mg base N qual (defScope st) f cdv A outer s H E).nox (defBody st) t ∧
        t { nx := fun _ H' => Q .non H', rt := Q } (start N vs) H) :
    FnG P w K mg base CX0 (k + 1) f fd ps sp := by
  obtain ⟨oc, od, kV, doc, pm, an, cdv, ct, osl, rfl, lk, hcd⟩ := F.ex
  constructor
  · exact len
  intro A outer s H args us vs Q E hr e0 hb r hsp
  have nvs := len _ _ _ _ hsp
  have keepB : ∀ b o, base.get? b = some o → s.heap.get? b = some o := fun b o z => (e0.bs b o z).1
  have inK : K.In s.heap := e0.mod.kin.keeps keepB
  have nolim : s.heap.NoLimit := e0.mod.nolimit.keeps keepB
  have kinds : ∀ y ∈ ps.zip us, (defScope st).names.lookup y.1 = some .local ∨
      ((defScope st).names.lookup y.1 = some .cell ∧
        ((cellsFrom (s.heap.objs.size + 1) (defScope st).names []).lookup y.1).isSome = true) := by
    rintro ⟨n, v⟩ hy
    rcases S.par n (List.of_mem_zip hy).1 with z | z
    · exact .inl z
    · exact .inr ⟨z, PySem.W.cellsFrom_some _ _ _ (.inl z)⟩
  refine codeAny_call_function hr.room.depth (inK _ _ lk) rfl S.co S.gen rfl
    (PySem.W.codeRec_of inK hcd) (hb _ _ _ _ ?_)
  refine wpAny_newFunctionEnv_cells S.kind kinds fun env he s1 x => ?_
  subst he
  refine ⟨nolim.keeps x.toInCall.keep, codeAny_func ?_⟩
  have hr2 : RG k (A.deeper (envOfC qual (defScope st) s.heap.objs.size f cdv)) := ⟨hr.room.deeper _, hr.gd⟩
  obtain ⟨t, ht, hq⟩ := body cdv A outer s H vs Q E hr2 hsp
  have I : Inv (cxOf CX0 P w K mg base N qual (defScope st) f cdv A outer s H E) [] (start N vs) H s1 :=
    inv_start S hr.room.hd e0 nvs r x
  refine wpAny_mono (ht.nox.run [] s1 (start N vs) H _ I hq) (fun fl s' hs => ?_) fun _ _ z => z
  match fl, hs with
  | .ret u, ⟨v, σ', H', J, rv, q⟩ => exact ⟨v, H', J.os, J.bare, J.base, J.hok, rv, q⟩
  | .next, ⟨σ', H', J, q⟩ => exact ⟨V.non, H', J.os, J.bare, J.base, J.hok, rfl, q⟩
  | .brk, ⟨_, _, _, q⟩ => exact q.elim
  | .cont, ⟨_, _, _, q⟩ => exact q.elim
end

section
variable {X : Cx} {CX : CXT} {k : Nat} {f : Addr} {fd : FuncData} {ps : List Str} {sp : Sp} {dvs : List V}
  {ds : List Value} {E : XK} {x : Str} {p pos : Pos} {e : Expr} {es : List Expr} {t : TA}
/-- f(e, ..) of such a def -/
theorem callG (F : FnG X.prog X.w X.K X.mg X.base CX k f fd ps sp) (hr : RG k X.A) (hg : Gl X x)
    (hm : X.mg x = some (.ref f)) (hk : PySem.W.keepIn X.K (.ref f) = true) (hb : Binds X.K fd ps ds)
    (hd : Vals dvs ds) (hx : Passes CX X E) (ha : PA X (e :: es) t)
    (hdb : (x == ("__debug__" : Str)) = false := by decide)
    (he : starEach (e :: es) X.env = (false, eval e X.env) :: starEach es X.env := by rfl)
    (hpl : (backTo pos (starEach es X.env)).any (·.1) = false := by rfl) :
    PE X (.Call (.Name x p) (e :: es) [] pos) (tCall sp dvs E t) := by
  constructor
  intro pins s σ H Q I h
  refine wpAny_Call_Name_kw (ld_glob I hg hm ?_ hdb)
  refine PySem.W.callWith_K (h₀ := X.base) I.ok.mod.kin hk ?_ he hpl
  refine thn (ha.run pos pins s σ H _ I h) fun us s1 ⟨vs, H1, I1, r, q⟩ => ⟨I1.kIn, ?_⟩
  have r2 : Vals (vs ++ dvs) (us ++ ds) := r.append hd
  have n2 : (us ++ ds).length = ps.length := r2.length.symm.trans (F.len _ _ _ _ q)
  have run := F.run X.A X.stack s1 H1 ⟨us, []⟩ (us ++ ds) (vs ++ dvs) Q E hr I1.env0 (hb s1 us I1.kIn n2) r2 q
  refine wpAny_call (codeAny_mono run fun res s' hq => ?_)
  match res, hq with
  | .error ee, hq => exact hx pins σ H1 s1 ee s' I1 hq
  | .ok (.ret u), hq => exact I1.after hq
  | .ok .next, hq => exact hq.elim
  | .ok .brk, hq => exact hq.elim
  | .ok .cont, hq => exact hq.elim
end

/-! ### repr of data -/
section
variable {X : Cx}
/-- what repr asks of a datum that stands at v -/
def rRepr (K : PySem.W.Frag) : List V → Hp → VK → Prop := fun xs H Q => ∃ v d, xs = [v] ∧ Dp K H v d ∧
  d.showable = true ∧ d.hasDict = false ∧ d.depth ≤ 60 ∧ d.shown.length ≤ sizeLine ∧ Q (.str d.shown) H
theorem call_reprD (hg : X.A.guards = some []) (hu : X.A.units + 64 < cLine) : CallR X (.builtin "repr") (rRepr X.K) := by
  intro pins s σ H xs us Q I r h
  obtain ⟨v, d, rfl, hd, hs, hn, hdp, hl, q⟩ := h
  obtain ⟨u, rfl, ru⟩ := vals1 r
  cases hd with
  | non => cases ru; exact PySem.P.repr_of_none ⟨.str _, H, I.tok _, ⟨_, rfl⟩, q⟩
  | bl b => cases ru; exact PySem.P.repr_of_bool ⟨.str _, H, I.tok _, ⟨_, rfl⟩, q⟩
  | int i => obtain ⟨t, rfl⟩ := ru; exact PySem.P.repr_of_int (by simpa [PyData.showable] using hs) ⟨.str _, H, I.tok _, ⟨_, rfl⟩, q⟩
  | str x => obtain ⟨t, rfl⟩ := ru; exact PySem.P.repr_of_str ⟨.str _, H, I.tok _, ⟨_, rfl⟩, q⟩ (by simpa [PyData.shown] using hl)
  | lst h1 h2 =>
    cases ru
    obtain ⟨as, rd⟩ := Dp.reads I _ _ _ (Dp.lst h1 h2) rfl
    exact repr_of_reads' rd hs (fun z => by rw [hn] at z; cases z) hg (by omega) (fun _ _ z => z) (fun h' u tk hk => ⟨.str _, H, I.kept hk, ⟨_, rfl⟩, q⟩) hl
  | tup h1 h2 =>
    cases ru
    obtain ⟨as, rd⟩ := Dp.reads I _ _ _ (Dp.tup h1 h2) rfl
    exact repr_of_reads' rd hs (fun z => by rw [hn] at z; cases z) hg (by omega) (fun _ _ z => z) (fun h' u tk hk => ⟨.str _, H, I.kept hk, ⟨_, rfl⟩, q⟩) hl
end
/-! ### the end: the law's call, from a promise of this kind -/
theorem endG {l : PySem.W.OpenLaw} {n k : Nat} {q : Program} {loose : List Str} {XP : (Str → Option Value) → Heap → Prop}
    {YP : World → Heap → Prop} {d : DefRec} {K : Params → PySem.W.Frag} {sp : World → Sp} {x : Str}
    (hn : l.most = some n) (hn2 : n ≤ sizeLine) (hdf : d.params.defaults = []) (hr : RG k callerA)
    (hY : ∀ (w : World) (h : Heap), YP w h → (K w.params).In h)
    (F : ∀ (w : World) (mg : Str → Option Value) (fa : Addr) (h : Heap), (K w.params).In h → h.Ns mainGlobals mg →
      mg d.name = some (.ref fa) → ∃ fd : FuncData, (∀ (s : Shared) (u : Value), BindsTo s fd ⟨[u], []⟩ [(x, u)]) ∧
        ∀ base : Heap, (K w.params).In base → base.Ns mainGlobals mg → FnG l.prog w (K w.params) mg base CX0 k fa fd [x] (sp w))
    (hsp : ∀ (w : World) (H : Hp) (a : Addr) (ns : List Int), ns.length ≤ n → (∀ z ∈ ns, Builtin.Int.intBits z ≤ 1048576) →
      Only H → SqL (K w.params) H a (ns.map V.int) → sp w [.ref a] H (fun v _ => v = .bl true) E0) :
    PySem.W.WalkO q loose XP YP l.row.toRowW d [] (fun f vs => PySem.call f vs) := by
  refine Att.attach_callB hn hdf fun w s₀ s1 mg mb fa o pm cd doc a us ns G Y ho hd hcd hmg obj hints nlen bits gens => ?_
  have inK : (K w.params).In s1.heap := hY w _ Y
  obtain ⟨fd, bind, hF⟩ := F w mg fa _ inK G.T.g hmg
  have rv := vals_ints hints
  have nv : us.length = ns.length := hints.length
  have go : ∀ H : Hp, Only H → SqL (K w.params) H a (ns.map V.int) → HOk l.prog w H s1.heap → (∀ b, H b ≠ none → b = a) →
      (H a ≠ none → (K w.params).lookup a = none) → codeAny (model l.prog w) callerA (.call (.ref fa) ⟨[.ref a], []⟩)
        (fun r s' => r = .ok (.ret (.bool true)) ∧ OldK s1.heap s'.heap ∧ s'.os = s1.os ∧ AllBare s'.gens) s1 := by
    intro H only hS hok atA offK
    have none_or : ∀ b, H b = none ∨ b = a := fun b => by
      cases z : H b with
      | none => exact .inl rfl
      | some u => exact .inr (atA b (by rw [z]; intro y; cases y))
    have left : ∀ {b : Addr} {o : Obj}, s1.heap.get? b = some o → H b = none → (hidT s1.heap H).get? b = some o :=
      fun e z => hidT_get e z
    have notA : ∀ {b : Addr} {o : Obj} {es : Array DictEntry} {ep : Nat},
        s1.heap.get? b = some o → o.data = .dict es ep → H b = none := fun {b o es ep} e z => by
      rcases none_or b with y | rfl
      · exact y
      · rw [obj] at e
        cases e
        cases (show Data.seq us.toArray _ = Data.dict es ep from z)
    have spaces : ∀ {b : Addr} {m : Str → Option Value}, s1.heap.Ns b m → (hidT s1.heap H).Ns b m :=
      fun {b m} ⟨o, es, ep, e, z, r⟩ => ⟨o, es, ep, left e (notA e z), z, r⟩
    have inB : (K w.params).In (hidT s1.heap H) := fun b o e => left (inK b o e) (by
      rcases none_or b with y | rfl
      · exact y
      · cases z : H b with
        | none => rfl
        | some u =>
          rw [offK (by rw [z]; intro y; cases y)] at e
          cases e)
    have md : Mod (K w.params) mg (hidT s1.heap H) := by
      obtain ⟨mc, c1, c2⟩ := G.T.nolimit
      exact ⟨inB, spaces G.T.g, ⟨mb, spaces G.T.b, G.T.builtins⟩, ⟨mc, spaces c1, c2⟩⟩
    have e0 : Env0 l.prog w (K w.params) mg (hidT s1.heap H) callerA [] s1 H :=
      ⟨rfl, md, fun b o e => of_hidT e, Nat.le_of_eq (hidT_size _ _), trivial, fun b z => (nomatch z), hok, .of_eq gens⟩
    have run := (hF _ inB (spaces G.T.g)).run callerA [] s1 H ⟨[.ref a], []⟩ [.ref a] [.ref a] _ _ hr e0
      (bind s1 (.ref a)) (.cons rfl .nil) (hsp w H a ns nlen bits only hS)
    refine codeAny_mono run fun res s' h => ?_
    match res, h with
    | .error e, h => exact h.elim
    | .ok .next, h => exact h.elim
    | .ok .brk, h => exact h.elim
    | .ok .cont, h => exact h.elim
    | .ok (.ret u), ⟨v, H', os, bare, un, hok', r', q⟩ =>
      have q' : v = .bl true := q
      subst q'
      have r2 : u = Value.bool true := r'
      subst r2
      refine ⟨rfl, OldK.of_keep fun b o e => ?_, os, bare⟩
      cases z : H b with
      | none => exact un.keep b o e z (fun y => (nomatch y)) (fun y => (nomatch y))
      | some u =>
        rcases only b with y | ⟨ob, xs, y⟩
        · rw [z] at y
          cases y
        · obtain ⟨e1, _⟩ := hok b _ y
          obtain ⟨e2, _⟩ := hok' b _ (un.frzs b ob _ y)
          rw [e] at e1
          cases e1
          exact e2
  have small : ns.length ≤ sizeLine := Nat.le_trans nlen hn2
  cases hk : (K w.params).lookup a with
  | some o =>
    have e := inK a o hk
    rw [obj] at e
    cases e
    refine go (fun _ => none) (fun _ => .inl rfl) (.inr ⟨_, us.toArray, _, hk, rfl, rfl, rfl, ?_, by simpa using rv⟩)
      (fun b u z => nomatch z) (fun b z => absurd rfl z) fun z => absurd rfl z
    rw [List.size_toArray, nv]
    exact small
  | none =>
    let ob : Obj := { cls := .type "list", data := .seq us.toArray }
    have at_ : ∀ b, (fun c => if c = a then some (HO.frz ob (.lst (ns.map V.int))) else none : Hp) b ≠ none → b = a := fun b z => by
      by_cases y : b = a
      · exact y
      · exact absurd (if_neg y) z
    refine go (fun c => if c = a then some (.frz ob (.lst (ns.map V.int))) else none) (fun b => ?_) (.inl (.inr ⟨ob, if_pos rfl⟩))
      (fun b u z => ?_) at_ fun _ => hk
    · by_cases y : b = a
      · exact .inr ⟨_, _, if_pos y⟩
      · exact .inl (if_neg y)
    · obtain rfl := at_ b (by rw [z]; intro y; cases y)
      have z' := (if_pos rfl).symm.trans z
      cases z'
      exact ⟨obj, by rw [List.length_map]; exact small, us, _, rv, obj⟩
end Cl

namespace Cl
open PySem PySem.Spec PyProof.Rows L2
theorem same_new {H : Hp} {p : Addr} {o : HO} (h : H p = none) : Same H (upd H p o) := fun b x e => by
  rw [upd_ne (ne_of_none e h)]
  exact e
/-- what is handed on where a new object stands at its place -/
def New (H : Hp) (o : HO) (Q : VK) : Prop := ∀ p H', H p = none → Same H H' → H' p = some o → Q (.ref p) H'
theorem New.go {H : Hp} {o : HO} {Q : VK} (h : New H o Q) : ∀ p, H p = none → Q (.ref p) (upd H p o) :=
  fun p n => h p _ n (same_new n) upd_same
section
variable {X : Cx} {e : Expr} {te : TE}
theorem valsRev : ∀ {xs : List V} {us : List Value}, Vals xs us → Vals xs.reverse us.reverse
  | _, _, .nil => .nil
  | _, _, .cons r t => by
    rw [List.reverse_cons, List.reverse_cons]
    exact (valsRev t).append (.cons r .nil)
/-- xs[::-1] of a list -/
def tRevL (K : PySem.W.Frag) (te : TE) : TE := fun σ H Q => te σ H fun x H1 => ∃ a xs, x = .ref a ∧ SqL K H1 a xs ∧ New H1 (.lst xs.reverse) Q
theorem pe_revL {p0 p1 p2 pos : Pos} {j : Nat} (he : PE X e te) :
    PE X (.Subscript e (.Slice none none (some (.UnaryOp .USub (.Constant (.int 1) j p0) p1)) p2) pos) (tRevL X.K te) := by
  constructor
  intro pins s σ H Q I h
  refine Subscript_ (thn (he.run pins s σ H _ I h) fun v s1 ⟨x, H1, I1, r1, a, xs, hx, hl, q⟩ => ?_)
  subst hx
  cases r1
  refine wpAny_Slice ?_
  rw [evalPart_none]
  refine wpAny_pure ?_
  refine wpAny_pure ?_
  rw [evalPart_some]
  have hneg : PE X (.UnaryOp .USub (.Constant (.int 1) j p0) p1) _ := pe_un un_neg pe_int
  refine thn (hneg.run pins s1 σ H1 (fun y H2 => y = .int (-1) ∧ H2 = H1) I1 ⟨1, rfl, rfl, rfl⟩) fun u s2 ⟨y, H2, I2, ry, hy, hH⟩ => ?_
  subst hy hH
  obtain ⟨t, rfl⟩ := ry
  obtain ⟨its, r, ht, hz⟩ := I2.list hl
  have I4 : Inv X pins σ H2 { s2 with heap := s2.heap.push { cls := .type "slice", data := .fields #[.none, .none, .int (-1) t] } } :=
    I2.kept (t' := s2.toks) fun b ob q => Heap.get?_push_of_some _ q
  obtain ⟨its, r, ht, hz⟩ := I4.list hl
  have hlen := r.length
  refine tail_any ht.isList.typeIs slot_list_getitem.lookup ?_ (by with_unfolding_all rfl)
  refine wpAny_getItem_list_slice ht.isList (Heap.IsSliceOf.new ..) .none .none (.int (-1) t) (by decide) ?_ (by rw [List.size_toArray] <;> omega)
  rw [PySem.W.krv_pick]
  refine ⟨.ref _, _, I4.laid (t' := s2.toks) (o := .lst xs.reverse) (fun b ob q => Heap.get?_push_of_some _ q) (Nat.le_refl _) ?_, rfl, q.go _ (I4.hok.fresh (Nat.le_refl _))⟩
  exact ⟨by rw [List.length_reverse]; exact hz, _, 0, valsRev r, Heap.get?_push_size _ rfl⟩
end
end Cl

namespace Cl
open PySem PySem.Spec PyProof.Rows L2

/-! ### a def of the text, with its promise -/
structure Def (P : Program) (w : World) (K : PySem.W.Frag) (mg : Str → Option Value) (base : Heap)
    (k : Nat) (x : Str) (ps : List Str) (sp : Sp) : Prop where
  ex : ∃ f fd, FnG P w K mg base CX0 k f fd ps sp ∧ mg x = some (.ref f) ∧
    PySem.W.keepIn K (.ref f) = true ∧ Binds K fd ps []
section
variable {X : Cx} {k : Nat} {ps : List Str} {sp : Sp} {x : Str} {p pos : Pos} {e : Expr} {es : List Expr} {t : TA}
theorem callD (D : Def X.prog X.w X.K X.mg X.base k x ps sp) (hr : RG k X.A) (ha : PA X (e :: es) t)
    (hg : Gl X x := by rfl) (hdb : (x == ("__debug__" : Str)) = false := by decide)
    (he : starEach (e :: es) X.env = (false, eval e X.env) :: starEach es X.env := by rfl)
    (hpl : (backTo pos (starEach es X.env)).any (·.1) = false := by rfl) :
    PE X (.Call (.Name x p) (e :: es) [] pos) (tCall sp [] E0 t) := by
  obtain ⟨f, fd, F, hm, hk, hb⟩ := D.ex
  exact callG F hr hg hm hk hb .nil pass0 ha hdb he hpl
end
section
variable {P : Program} {w : World} {K : PySem.W.Frag} {mg : Str → Option Value} {base : Heap}
theorem Def.mk1 {k : Nat} {x qual : Str} {st : Stmt} {f : Addr} {fd : FuncData} {ps : List Str} {sp : Sp}
    (F : Fun K x qual st f fd) (G : FnG P w K mg base CX0 k f fd ps sp) (hm : mg x = some (.ref f))
    (b : Binds K fd ps []) : Def P w K mg base k x ps sp := ⟨f, fd, G, hm, F.kp, b⟩
end

/-! ### heaps -/
theorem Same.rfl' {H : Hp} : Same H H := fun _ _ e => e
/-! ### rules that hand on a heap in which a new object stands -/
section
variable {X : Cx} {es : List Expr} {e : Expr} {t : TA} {te : TE} {pos : Pos}
def tTupN (t : TA) : TE := fun σ H Q => t σ H fun xs H1 => xs.length ≤ sizeLine ∧ New H1 (.tup xs) Q
def tLstN (t : TA) : TE := fun σ H Q => t σ H fun xs H1 => xs.length ≤ sizeLine ∧ New H1 (.lst xs) Q
theorem tupN {j} (h : PA X es t) : PE X (.Tuple es j pos) (tTupN t) := by
  constructor
  intro pins s σ H Q I hq
  refine wpAny_Tuple_spliced ?_
  refine thn (h.run pos pins s σ H _ I hq) fun us s1 ⟨xs, H1, I1, r, z, q⟩ => ⟨by rw [← r.length]; exact z, ?_⟩
  refine ⟨.ref s1.heap.objs.size, _, I1.laid (t' := s1.toks) (o := .tup xs) (fun b u e => Heap.get?_push_of_some _ e) (Nat.le_refl _) ?_, rfl,
    q.go _ (I1.hok.fresh (Nat.le_refl _))⟩
  exact ⟨z, us, r, ⟨_, Heap.get?_push_size _ rfl, rfl, _, rfl⟩⟩
theorem lstN (h : PA X es t) : PE X (.List es pos) (tLstN t) := by
  constructor
  intro pins s σ H Q I hq
  refine wpAny_List_spliced ?_
  refine thn (h.run pos pins s σ H _ I hq) fun us s1 ⟨xs, H1, I1, r, z, q⟩ => ⟨by rw [← r.length]; exact z, ?_⟩
  refine ⟨.ref s1.heap.objs.size, _, I1.laid (t' := s1.toks) (o := .lst xs) (fun b u e => Heap.get?_push_of_some _ e) (Nat.le_refl _) ?_, rfl,
    q.go _ (I1.hok.fresh (Nat.le_refl _))⟩
  exact ⟨z, us, 0, r, Heap.get?_push_size _ rfl⟩
def rSlLN (K : PySem.W.Frag) : V → Option Int → Option Int → Hp → VK → Prop := fun x lo hi H Q =>
  ∃ a xs, x = .ref a ∧ SqL K H a xs ∧ New H (.lst (cutV xs lo hi)) Q
theorem sl_listN : SlR X (rSlLN X.K) := fun pins s σ H x v vl vu lo hi sl Q I rx hs pl pu ⟨a, xs, h1, h2, q⟩ =>
  sl_list pins s σ H x v vl vu lo hi sl Q I rx hs pl pu ⟨a, xs, h1, h2, q.go⟩
def rSlTN (K : PySem.W.Frag) : V → Option Int → Option Int → Hp → VK → Prop := fun x lo hi H Q =>
  ∃ a xs, x = .ref a ∧ SqT K H a xs ∧ ¬ (HT.sIx xs.length 0 lo = 0 ∧ HT.sIx xs.length xs.length hi = xs.length) ∧ New H (.tup (cutV xs lo hi)) Q
theorem sl_tupN : SlR X (rSlTN X.K) := fun pins s σ H x v vl vu lo hi sl Q I rx hs pl pu ⟨a, xs, h1, h2, h3, q⟩ =>
  sl_tup pins s σ H x v vl vu lo hi sl Q I rx hs pl pu ⟨a, xs, h1, h2, h3, q.go⟩
theorem call_list_ofN : CallR X (.type "list") (fun xs H Q => ∃ p ys, xs = [.ref p] ∧ (SqL X.K H p ys ∨ SqT X.K H p ys) ∧ New H (.lst ys) Q) :=
  fun pins s σ H xs us Q I r ⟨p, ys, h1, h2, q⟩ => call_list_of pins s σ H xs us Q I r ⟨p, ys, h1, h2, q.go⟩
end
/-! ### cuts: what stands between two statements, or behind a part, by a word of one's own -/
section
variable {X : Cx} {st : Stmt} {rest : List Stmt} {t u : TS} {e : Expr} {te : TE} {tt : TT}
def tCut (t u : TS) : TS := fun D σ H => ∃ M : L2.St → Hp → Prop, t { D with nx := M } σ H ∧ ∀ σ' H', M σ' H' → u D σ' H'
theorem cutS (h1 : PS X st t) (h2 : PSs X rest u) : PSs X (st :: rest) (tCut t u) := by
  constructor
  rintro pins s σ H D I ⟨M, h, k⟩
  refine wpAny_execs_cons (thn (h1.run pins s σ H _ I h) fun f s1 q => ?_)
  match f, q with
  | .next, ⟨σ', H', I', q⟩ => exact h2.run pins s1 σ' H' D I' (k _ _ q)
  | .ret v, q => exact q
  | .brk, q => exact q
  | .cont, q => exact q
def tMid (te : TE) : TE := fun σ H Q => ∃ M : VK, te σ H M ∧ ∀ v H', M v H' → Q v H'
theorem cutE (h : PE X e te) : PE X e (tMid te) := ⟨fun pins s σ H Q I ⟨M, h1, k⟩ =>
  thn (h.run pins s σ H M I h1) fun v s1 ⟨x, H1, I1, r1, q1⟩ => ⟨x, H1, I1, r1, k _ _ q1⟩⟩
def tMidT (tt : TT) : TT := fun σ H Q => ∃ M : Bool → Hp → Prop, tt σ H M ∧ ∀ b H', M b H' → Q b H'
theorem cutT (h : PT X e tt) : PT X e (tMidT tt) := ⟨fun pins s σ H Q I ⟨M, h1, k⟩ =>
  thn (h.run pins s σ H M I h1) fun b s1 ⟨H1, I1, q1⟩ => ⟨H1, I1, k _ _ q1⟩⟩
end
def lcL {K : PySem.W.Frag} {a : Addr} {xs : List V} {g : TG} {tt : TT} {te : TE} {vs : List Nat} {σ : L2.St} {H1 : Hp} {D : Addr} {Qd : Hp → Prop}
    (Pv : Nat → Hp → Prop) (hD : H1 D = none) (h0 : ∀ H', Same H1 H' → H' D = some (.lst []) → Pv 0 H') (hl : ∀ i H, i ≤ xs.length → Pv i H → SqL K H a xs)
    (hs : ∀ i x H, xs[i]? = some x → Pv i H → g x (wipe σ vs) H fun σ2 H2 => wipe σ2 vs = wipe σ vs ∧ tt σ2 H2 fun b H3 =>
      if b = true then te σ2 H3 fun y H4 => ∃ acc, H4 D = some (.lst acc) ∧ acc.length < sizeLine ∧ Pv (i + 1) (upd H4 D (.lst (acc ++ [y]))) else Pv (i + 1) H3)
    (hd : ∀ H, Pv xs.length H → Qd H) :=
  lc_list (K := K) (a := a) (xs := xs) (g := g) (tt := tt) (te := te) (vs := vs) (σ := σ) (H1 := H1) (D := D) (Qd := Qd) Pv (h0 _ (same_new hD) upd_same) hl hs hd
def lcT {K : PySem.W.Frag} {a : Addr} {xs : List V} {g : TG} {tt : TT} {te : TE} {vs : List Nat} {σ : L2.St} {H1 : Hp} {D : Addr} {Qd : Hp → Prop}
    (Pv : Nat → Hp → Prop) (hD : H1 D = none) (h0 : ∀ H', Same H1 H' → H' D = some (.lst []) → Pv 0 H') (hl : ∀ i H, i ≤ xs.length → Pv i H → SqT K H a xs)
    (hs : ∀ i x H, xs[i]? = some x → Pv i H → g x (wipe σ vs) H fun σ2 H2 => wipe σ2 vs = wipe σ vs ∧ tt σ2 H2 fun b H3 =>
      if b = true then te σ2 H3 fun y H4 => ∃ acc, H4 D = some (.lst acc) ∧ acc.length < sizeLine ∧ Pv (i + 1) (upd H4 D (.lst (acc ++ [y]))) else Pv (i + 1) H3)
    (hd : ∀ H, Pv xs.length H → Qd H) :=
  lc_tup (K := K) (a := a) (xs := xs) (g := g) (tt := tt) (te := te) (vs := vs) (σ := σ) (H1 := H1) (D := D) (Qd := Qd) Pv (h0 _ (same_new hD) upd_same) hl hs hd
/-- the heap without the deck -/
def hide (d l : Addr) (H : Hp) : Hp := fun b => if b = d ∨ b = l then none else H b
theorem hide_at {d l b : Addr} {H : Hp} {o : HO} (h : hide d l H b = some o) : b ≠ d ∧ b ≠ l ∧ H b = some o := by
  unfold hide at h
  split at h
  · cases h
  · rename_i n
    exact ⟨fun e => n (.inl e), fun e => n (.inr e), h⟩
theorem hide_ne {d l b : Addr} {H : Hp} (h1 : b ≠ d) (h2 : b ≠ l) : hide d l H b = H b := by
  unfold hide
  rw [if_neg]
  rintro (e | e)
  · exact h1 e
  · exact h2 e
/-- the deck stands: a list of the script's rest, its number, its count -/
structure Deck (H : Hp) (d l : Addr) : Prop where
  ne : d ≠ l
  ex : ∃ (ns : List Int) (s c : Int), H d = some (.lst [.ref l, .int s, .int c]) ∧ H l = some (.lst (ns.map V.int)) ∧ ns.length ≤ 63
/-- the deck still stands, and all else that stood stands -/
structure Step (d l : Addr) (H H' : Hp) : Prop where
  deck : Deck H' d l
  same : Same (hide d l H) (hide d l H')
section
variable {d l p a : Addr} {H H' H2 : Hp} {o : HO} {K : PySem.W.Frag} {xs : List V}
theorem Deck.nd (D : Deck H d l) (h : H p = none) : p ≠ d ∧ p ≠ l := by
  obtain ⟨ns, s, c, h1, h2, _⟩ := D.ex
  exact ⟨(ne_of_none h1 h).symm, (ne_of_none h2 h).symm⟩
theorem Step.refl (D : Deck H d l) : Step d l H H := ⟨D, fun _ _ e => e⟩
theorem Step.trans (A : Step d l H H') (B : Step d l H' H2) : Step d l H H2 := ⟨B.deck, fun b x e => B.same b x (A.same b x e)⟩
theorem Step.of (D : Deck H d l) (S : Same H H') : Step d l H H' := by
  obtain ⟨ns, s, c, h1, h2, h3⟩ := D.ex
  refine ⟨⟨D.ne, ns, s, c, S _ _ h1, S _ _ h2, h3⟩, fun b x e => ?_⟩
  obtain ⟨e1, e2, e3⟩ := hide_at e
  rw [hide_ne e1 e2]
  exact S _ _ e3
theorem Step.new (D : Deck H d l) (h : H p = none) : Step d l H (upd H p o) := by
  obtain ⟨n1, n2⟩ := D.nd h
  obtain ⟨ns, s, c, h1, h2, h3⟩ := D.ex
  refine ⟨⟨D.ne, ns, s, c, ?_, ?_, h3⟩, fun b x e => ?_⟩
  · rw [upd_ne n1.symm]; exact h1
  · rw [upd_ne n2.symm]; exact h2
  · obtain ⟨e1, e2, e3⟩ := hide_at e
    rw [hide_ne e1 e2, upd_ne (ne_of_none e3 h)]
    exact e3
/-- a new object ahead of a step is there behind it -/
theorem Step.at (S : Step d l H H') (h1 : p ≠ d) (h2 : p ≠ l) (h : H p = some o) : H' p = some o := by
  have e := S.same p o (by rw [hide_ne h1 h2]; exact h)
  exact (hide_at e).2.2
theorem Step.tupH (S : Step d l H H') (D : Deck H d l) (h : H p = some (.tup xs)) : H' p = some (.tup xs) := by
  obtain ⟨ns, s, c, h1, h2, h3⟩ := D.ex
  exact S.at (ne_of h h1 (by intro z; cases z)) (ne_of h h2 (by intro z; cases z)) h
end
theorem dropLast_map (ns : List Int) : (ns.map V.int).dropLast = ns.dropLast.map V.int := by
  rw [List.map_dropLast]

/-! ### promises of the deck's defs -/
def spDeck (K : PySem.W.Frag) : Sp := fun vs H Q _ => ∃ (a : Addr) (ns : List Int), vs = [.ref a] ∧ SqL K H a (ns.map V.int) ∧ ns.length ≤ 63 ∧
  ∀ d l H', Same H H' → Deck H' d l → Q (.ref d) H'
def spDraw : Sp := fun vs H Q _ => ∃ (d l : Addr) (m : Int), vs = [.ref d, .int m] ∧ 0 < m ∧ m < 2 ^ 64 ∧ Deck H d l ∧
  ∀ v H', 0 ≤ v → v < m → Step d l H H' → Q (.int v) H'
theorem mulc {a b : Int} (h : -(2 ^ 64) < a ∧ a < 2 ^ 64) : CMul a b := .inl h
theorem mulr {a b : Int} (h : -(2 ^ 64) < b ∧ b < 2 ^ 64) : CMul a b := .inr h
theorem modlt {a m : Int} (h : 0 < m) (h2 : m ≤ 2 ^ 64) : -(2 ^ 64) < a % m ∧ a % m < 2 ^ 64 := by
  have := Int.emod_nonneg a (show m ≠ 0 by omega)
  have := Int.emod_lt_of_pos a h
  omega
theorem shapedInts (ns : List Int) : SeqAt.shaped (.list (ns.map PyData.int)) = true := by
  have h1 : ∀ ns : List Int, PyData.canLayAll0 (ns.map PyData.int) = true := by
    intro ns
    induction ns with
    | nil => rfl
    | cons n r ih => simp [PyData.canLayAll0, PyData.canLay0, ih]
  have h2 : ∀ ns : List Int, PyData.depthAll (ns.map PyData.int) = 0 := by
    intro ns
    induction ns with
    | nil => rfl
    | cons n r ih => simp [PyData.depthAll, PyData.depth, ih]
  simp [SeqAt.shaped, PyData.canLay0, PyData.depth, h1, h2]
theorem dpInts {K : PySem.W.Frag} {H : Hp} : ∀ ns : List Int, DpAll K H (ns.map V.int) (ns.map PyData.int)
  | [] => .nil
  | n :: r => .cons (.int n) (dpInts r)
theorem eqvNil (ns : List Int) : PyData.eqv (.list (ns.map PyData.int)) (.list []) = ns.isEmpty := by
  cases ns <;> simp [PyData.eqv, PyData.eqvAll]

/-! ### data whose repr is short -/
structure Fine (d : PyData) : Prop where
  lv : d.leavesShort 200 = true
  sh : d.showable = true
  nd : d.hasDict = false
  dp : d.depth ≤ 60
  bk : d.bulk ≤ 80000
def okI (i : Int) : Prop := i.natAbs < 2 ^ 190
theorem okI.log {i : Int} (h : okI i) : i.natAbs.log2 < 190 := PySem.Flt.log2_lt_of (by decide) h
theorem okI.len {i : Int} (h : okI i) : (PyData.shown (.int i)).length ≤ 200 := by
  have e := int_text_length_le (k := 190) (by decide) h.log
  show (Str.ofString (toString i)).length ≤ 200
  rw [PySem.ofString_length]
  omega
theorem okI.of {i : Int} (h1 : -(2 ^ 189) < i) (h2 : i < 2 ^ 189) : okI i := by
  unfold okI
  omega
def rReprF (K : PySem.W.Frag) : List V → Hp → VK → Prop := fun xs H Q => ∃ v d, xs = [v] ∧ Dp K H v d ∧ Fine d ∧ Q (.str d.shown) H
theorem call_repr {X : Cx} (hg : X.A.guards = some []) (hu : X.A.units + 64 < cLine) : CallR X (.builtin "repr") (rReprF X.K) :=
  fun pins s σ H xs us Q I r ⟨v, d, h1, h2, f, q⟩ => call_reprD hg hu pins s σ H xs us Q I r ⟨v, d, h1, h2, f.sh, f.nd, f.dp, by
    have e := PyData.shown_le_bulk 200 (by decide) d f.lv
    have e2 := f.bk
    have e3 : sizeLine = 16777216 := by decide
    omega, q⟩
theorem fineInts2 {i j : Int} (h1 : okI i) (h2 : okI j) : Fine (.tuple [.int i, .int j]) := by
  have a1 := h1.len
  have a2 := h2.len
  have b1 : i.natAbs.log2 < 1920 := by have := h1.log; omega
  have b2 : j.natAbs.log2 < 1920 := by have := h2.log; omega
  constructor
  · simp [PyData.leavesShort, PyData.leavesShortAll, a1, a2]
  · simp [PyData.showable, PyData.showableAll, b1, b2]
  · rfl
  · simp [PyData.depth, PyData.depthAll]
  · simp [PyData.bulk, PyData.bulkAll]
theorem fineBool (b : Bool) : Fine (.bool b) := by constructor <;> first | rfl | (cases b <;> decide)
end Cl

namespace Cl
open PySem PySem.Spec PyProof.Rows L2
/-! ### the nearest whole number -/
def nr (n d : Int) : Int := (2 * n + d) / (2 * d)
theorem nr_law {n g : Int} (h : 0 < g) : nr n g = if 2 * n < (2 * (n / g) + 1) * g then n / g else n / g + 1 := by
  have e1 := Int.mul_ediv_add_emod n g
  have e2 := Int.emod_nonneg n (show g ≠ 0 by omega)
  have e3 := Int.emod_lt_of_pos n h
  generalize n / g = k at *
  generalize n % g = r at *
  subst e1
  unfold nr
  have c1 : (2 * k + 1) * g = 2 * (g * k) + g := by rw [Int.add_mul, Int.mul_assoc, Int.mul_comm k g]; omega
  have c2 : 2 * (g * k + r) + g = (2 * r + g) + (2 * g) * k := by rw [Int.mul_assoc 2 g k]; omega
  rw [c1, c2, Int.add_mul_ediv_left _ _ (show 2 * g ≠ 0 by omega)]
  split
  · rw [Int.ediv_eq_zero_of_lt (by omega) (by omega)]; omega
  · have c3 : 2 * r + g = (2 * r - g) + (2 * g) * 1 := by omega
    rw [c3, Int.add_mul_ediv_left _ _ (show 2 * g ≠ 0 by omega), Int.ediv_eq_zero_of_lt (by omega) (by omega)]; omega
theorem nr_move {n d g : Int} (h : 0 < g) : nr (n + d * g) g = nr n g + d := by
  unfold nr
  have c : 2 * (n + d * g) + g = (2 * n + g) + (2 * g) * d := by
    rw [Int.mul_add, Int.mul_assoc 2 g d, Int.mul_comm d g]; omega
  rw [c, Int.add_mul_ediv_left _ _ (show 2 * g ≠ 0 by omega)]
theorem nr_times {n g t : Int} (ht : 0 < t) : nr (n * t) (g * t) = nr n g := by
  unfold nr
  have c1 : 2 * (n * t) + g * t = (2 * n + g) * t := by rw [Int.add_mul, Int.mul_assoc]
  have c2 : 2 * (g * t) = (2 * g) * t := by rw [Int.mul_assoc]
  rw [c1, c2, Int.mul_ediv_mul_of_pos_left _ _ ht]
theorem nr_ok {n g B : Int} (h : 0 < g) (h1 : -B < n) (h2 : n < B) (hB : 0 < B) : -(B + 1) ≤ nr n g ∧ nr n g ≤ B + 1 := by
  unfold nr
  have hg : 0 < 2 * g := by omega
  constructor
  · refine Int.le_ediv_of_mul_le hg ?_
    have : B * 1 ≤ B * g := Int.mul_le_mul_of_nonneg_left (by omega) (by omega)
    have e : -(B + 1) * (2 * g) = -(2 * (B * g)) - 2 * g := by rw [Int.neg_mul, Int.add_mul, Int.mul_left_comm B 2 g]; omega
    rw [e]; omega
  · refine Int.ediv_le_of_le_mul hg ?_
    have : B * 1 ≤ B * g := Int.mul_le_mul_of_nonneg_left (by omega) (by omega)
    have e : (B + 1) * (2 * g) = 2 * (B * g) + 2 * g := by rw [Int.add_mul, Int.mul_left_comm B 2 g]; omega
    rw [e]; omega
def spNear : Sp := fun vs H Q _ => ∃ n d : Int, vs = [.int n, .int d] ∧ 0 < d ∧ d < 2 ^ 60 ∧ Q (.int (nr n d)) H
def spCorner (K : PySem.W.Frag) : Sp := fun vs H Q _ => ∃ (g : Int) (a : Addr) (x y : Int), vs = [.int g, .ref a] ∧ SqT K H a [.int x, .int y] ∧ 0 < g ∧ g < 2 ^ 60 ∧
  New H (.tup [.int (nr x g), .int (nr y g)]) Q

def spLaw (K : PySem.W.Frag) : Sp := fun vs H Q _ => ∃ (a : Addr) (ns : List Int), vs = [.ref a] ∧ SqL K H a (ns.map V.int) ∧ ns.length ≤ 63 ∧ ∀ H', Q (.bl true) H'
section
variable {X : Cx}
def CDivX (_ j : Int) : Prop := j ≠ 0 ∧ j.natAbs.log2 < 9000
theorem op_fdivX : OpR X (binaryOp .FloorDiv) (rI CDivX fun i j => .int (i.fdiv j)) :=
  opI fun i j _ _ _ _ _ hc q => floordiv_int hc.1 q (.inl (PyProof.noPylong_of_log2 hc.2))
end
/-! ### the greatest number that parts -/
def spGp : Sp := fun vs H Q _ => ∃ n m : Int, vs = [.int n, .int m] ∧ Q (.int (Int.gcd n m : Nat)) H
def gpar (n m d : Int) : Int := (Int.gcd (Int.gcd n m : Nat) d : Nat)
def spP (n m d : Int) : Int := if d < 0 then -gpar n m d else gpar n m d
def spSpotOf : Sp := fun vs H Q _ => ∃ n m d : Int, vs = [.int n, .int m, .int d] ∧ d ≠ 0 ∧ d.natAbs < 2 ^ 200 ∧
  New H (.tup [.int (n / spP n m d), .int (m / spP n m d), .int (d / spP n m d)]) Q
theorem gpar_dvd (n m d : Int) : gpar n m d ∣ n ∧ gpar n m d ∣ m ∧ gpar n m d ∣ d := by
  unfold gpar
  have h1 : (Int.gcd (Int.gcd n m : Nat) d : Int) ∣ (Int.gcd n m : Nat) := Int.gcd_dvd_left ..
  refine ⟨Int.dvd_trans h1 (Int.gcd_dvd_left ..), Int.dvd_trans h1 (Int.gcd_dvd_right ..), Int.gcd_dvd_right ..⟩
theorem gpar_pos {n m d : Int} (h : d ≠ 0) : 0 < gpar n m d := by
  unfold gpar
  have : 0 < Int.gcd (Int.gcd n m : Nat) d := Int.gcd_pos_of_ne_zero_right _ h
  omega
theorem gpar_le {n m d : Int} (h : d ≠ 0) : gpar n m d ≤ d.natAbs := by
  have := (gpar_dvd n m d).2.2
  have h2 : gpar n m d ∣ (d.natAbs : Int) := Int.dvd_natAbs.mpr this
  exact Int.le_of_dvd (by omega) h2
theorem spP_dvd (n m d : Int) : spP n m d ∣ n ∧ spP n m d ∣ m ∧ spP n m d ∣ d := by
  obtain ⟨h1, h2, h3⟩ := gpar_dvd n m d
  unfold spP
  split
  · exact ⟨Int.neg_dvd.mpr h1, Int.neg_dvd.mpr h2, Int.neg_dvd.mpr h3⟩
  · exact ⟨h1, h2, h3⟩
theorem spP_ne {n m d : Int} (h : d ≠ 0) : spP n m d ≠ 0 := by
  have := gpar_pos (n := n) (m := m) h
  unfold spP
  split <;> omega
/-- the spot of d above nought: some part that all three have, taken out -/
theorem spot_pos {n m d : Int} (h : 0 < d) : ∃ p : Int, 0 < p ∧ n = n / spP n m d * p ∧ m = m / spP n m d * p ∧ d = d / spP n m d * p ∧ 0 < d / spP n m d ∧ d / spP n m d ≤ d := by
  obtain ⟨h1, h2, h3⟩ := gpar_dvd n m d
  have h0 := gpar_pos (n := n) (m := m) (d := d) (by omega)
  have e : spP n m d = gpar n m d := if_neg (by omega)
  rw [e]
  have e3 := Int.ediv_mul_cancel h3
  refine ⟨gpar n m d, h0, (Int.ediv_mul_cancel h1).symm, (Int.ediv_mul_cancel h2).symm, e3.symm, ?_, Int.ediv_le_self _ (by omega)⟩
  exact Int.ediv_pos_of_pos_of_dvd h (by omega) h3
theorem nr_spot {n m d g : Int} (h : 0 < d) : nr (n / spP n m d) (d / spP n m d * g) = nr n (d * g) ∧ nr (m / spP n m d) (d / spP n m d * g) = nr m (d * g) := by
  obtain ⟨p, hp, e1, e2, e3, _⟩ := spot_pos (n := n) (m := m) h
  have c : d * g = d / spP n m d * g * p := by
    conv => lhs; rw [e3]
    rw [Int.mul_assoc, Int.mul_assoc, Int.mul_comm p g]
  have k1 := nr_times (n := n / spP n m d) (g := d / spP n m d * g) hp
  have k2 := nr_times (n := m / spP n m d) (g := d / spP n m d * g) hp
  rw [← e1, ← c] at k1
  rw [← e2, ← c] at k2
  exact ⟨k1.symm, k2.symm⟩
theorem nr_lies {n g : Int} (h : 0 < g) : (2 * nr n g - 1) * g ≤ 2 * n ∧ 2 * n < (2 * nr n g + 1) * g := by
  unfold nr
  have e1 := Int.mul_ediv_add_emod (2 * n + g) (2 * g)
  have e2 := Int.emod_nonneg (2 * n + g) (show 2 * g ≠ 0 by omega)
  have e3 := Int.emod_lt_of_pos (2 * n + g) (show 0 < 2 * g by omega)
  generalize (2 * n + g) / (2 * g) = k at *
  generalize (2 * n + g) % (2 * g) = r at *
  have c1 : (2 * k - 1) * g = 2 * g * k - g := by rw [Int.sub_mul, Int.mul_right_comm]; omega
  have c2 : (2 * k + 1) * g = 2 * g * k + g := by rw [Int.add_mul, Int.mul_right_comm]; omega
  omega
end Cl

namespace Cl
open PySem PySem.Spec PyProof.Rows L2
/-! ### kinds of things -/
def isI : V → Bool
  | .int _ => true
  | _ => false
def isB : V → Bool
  | .bl _ => true
  | _ => false
/-- a thing with the name of its class -/
inductive Kd (K : PySem.W.Frag) (H : Hp) : V → String → Prop where
  | non : Kd K H .non "NoneType"
  | bl (b : Bool) : Kd K H (.bl b) "bool"
  | int (i : Int) : Kd K H (.int i) "int"
  | str (x : Str) : Kd K H (.str x) "str"
  | lst {a : Addr} {xs : List V} (h : SqL K H a xs) : Kd K H (.ref a) "list"
  | tup {a : Addr} {xs : List V} (h : SqT K H a xs) : Kd K H (.ref a) "tuple"
  | dct {a : Addr} {kvs : List (Key × V)} (h : H a = some (.dK kvs)) : Kd K H (.ref a) "dict"
section
variable {K : PySem.W.Frag} {H : Hp} {v : V} {T : String}
theorem Kd.ty (h : Kd K H v T) : TyX K H v (.type T) := by
  cases h with
  | non => exact .base .non
  | bl b => exact .base (.bl b)
  | int i => exact .base (.int i)
  | str x => exact .base (.str x)
  | lst h =>
    rcases h with (h | ⟨o, h⟩) | ⟨o, its, n, h1, h2, _⟩
    · exact .base (.lst h)
    · exact .base (.frz h)
    · exact .kList h1 h2
  | tup h =>
    rcases h with (h | ⟨o, h⟩) | ⟨o, its, n, h1, h2, _⟩
    · exact .base (.tup h)
    · exact .fTuple h
    · exact .kTuple h1 h2
  | dct h => exact .base (.dK h)
theorem Kd.int? (h : Kd K H v T) : kitB T "int" = some (isI v || isB v) := by
  cases h <;> first | (show kitB _ _ = some true; decide +kernel) | (show kitB _ _ = some false; decide +kernel)
theorem Kd.bool? (h : Kd K H v T) : kitB T "bool" = some (isB v) := by
  cases h <;> first | (show kitB _ _ = some true; decide +kernel) | (show kitB _ _ = some false; decide +kernel)
theorem Kd.tuple? (h : Kd K H v T) : kitB T "tuple" = some (decide (T = "tuple")) := by
  cases h <;> first | (show kitB _ _ = some true; decide +kernel) | (show kitB _ _ = some false; decide +kernel)
theorem Kd.str? (h : Kd K H v T) : kitB T "str" = some (decide (T = "str")) := by
  cases h <;> first | (show kitB _ _ = some true; decide +kernel) | (show kitB _ _ = some false; decide +kernel)
end
theorem seT {K : PySem.W.Frag} {H H' : Hp} {a : Addr} {xs : List V} (e : Same H H') (h : SqT K H a xs) : SqT K H' a xs := by
  rcases h with (h | ⟨o, h⟩) | h
  · exact .inl (.inl (e _ _ h))
  · exact .inl (.inr ⟨o, e _ _ h⟩)
  · exact .inr h
/-- isinstance(thing, a built-in class) -/
theorem isi {K : PySem.W.Frag} {H : Hp} {v : V} {T c : String} {b : Bool} {Q : VK} (h : Kd K H v T) (e : kitB T c = some b) (q : Q (.bl b) H) :
    rIsi K [v, .ty c] H Q := ⟨v, .ty c, .type T, .type c, b, rfl, .ty c, h.ty, kit_ty e, q⟩
def spWhole (K : PySem.W.Frag) : Sp := fun vs H Q _ => ∃ v T, vs = [v] ∧ Kd K H v T ∧ Q (.bl (isI v)) H

/-! ### lists of draws -/
def Acc (d l pD : Addr) (H0 : Hp) (i : Nat) (P : Int → Prop) (H' : Hp) : Prop :=
  ∃ xs : List Int, Step d l H0 H' ∧ H' pD = some (.lst (xs.map V.int)) ∧ xs.length = i ∧ ∀ x ∈ xs, P x
section
variable {d l pD : Addr} {H0 H H4 : Hp} {i : Nat} {P : Int → Prop} {y : Int}
theorem Step.updN (S : Step d l H0 H4) (h1 : pD ≠ d) (h2 : pD ≠ l) (n : H0 pD = none) {o : HO} : Step d l H0 (upd H4 pD o) := by
  obtain ⟨ns, s, c, e1, e2, e3⟩ := S.deck.ex
  refine ⟨⟨S.deck.ne, ns, s, c, by rw [upd_ne h1.symm]; exact e1, by rw [upd_ne h2.symm]; exact e2, e3⟩, fun b x e => ?_⟩
  obtain ⟨n1, n2, n3⟩ := hide_at e
  have e5 := (hide_at (S.same b x e)).2.2
  rw [hide_ne n1 n2, upd_ne (ne_of_none n3 n)]
  exact e5
theorem Acc.start (D : Deck H0 d l) (S : Same H0 H) (e : H pD = some (.lst [])) : Acc d l pD H0 0 P H :=
  ⟨[], Step.of D S, e, rfl, fun x h => nomatch h⟩
theorem Acc.turn (A : Acc d l pD H0 i P H) (S : Step d l H H4) (D : Deck H0 d l) (n : H0 pD = none) (hi : i < 1000) (h : P y) :
    ∃ acc, H4 pD = some (.lst acc) ∧ acc.length < sizeLine ∧ Acc d l pD H0 (i + 1) P (upd H4 pD (.lst (acc ++ [.int y]))) := by
  obtain ⟨xs, S0, e, l1, a⟩ := A
  obtain ⟨h1, h2⟩ := D.nd n
  refine ⟨_, S.at h1 h2 e, by rw [List.length_map, l1]; exact small1000 (by omega), xs ++ [y], (S0.trans S).updN h1 h2 n, ?_, by rw [List.length_append, l1]; rfl, fun x hx => ?_⟩
  · rw [upd_same, List.map_append]; rfl
  · rcases List.mem_append.mp hx with z | z
    · exact a x z
    · rw [List.mem_singleton.mp z]; exact h
end
def lcR {lo : Int} {n : Nat} {g : TG} {tt : TT} {te : TE} {vs : List Nat} {σ : L2.St} {H1 : Hp} {D : Addr} {Qd : Hp → Prop}
    (Pv : Nat → Hp → Prop) (hD : H1 D = none) (h0 : ∀ H', Same H1 H' → H' D = some (.lst []) → Pv 0 H')
    (hs : ∀ i H, i < n → Pv i H → g (.int (lo + i)) (wipe σ vs) H fun σ2 H2 => wipe σ2 vs = wipe σ vs ∧ tt σ2 H2 fun b H3 =>
      if b = true then te σ2 H3 fun y H4 => ∃ acc, H4 D = some (.lst acc) ∧ acc.length < sizeLine ∧ Pv (i + 1) (upd H4 D (.lst (acc ++ [y]))) else Pv (i + 1) H3)
    (hd : ∀ H, Pv n H → Qd H) :=
  lc_range (lo := lo) (n := n) (g := g) (tt := tt) (te := te) (vs := vs) (σ := σ) (H1 := H1) (D := D) (Qd := Qd) Pv (h0 _ (same_new hD) upd_same) hs hd
theorem two {xs : List Int} (h : xs.length = 2) : ∃ x y, xs = [x, y] := by
  match xs, h with
  | [x, y], _ => exact ⟨x, y, rfl⟩
end Cl

namespace Cl
open PySem PySem.Spec PyProof.Rows L2
def topS (i : Nat) : Stmt := PySem.Challenge.pw_cornerlines_k04_corners_of_spots.main.body.getD i (.Pass ⟨0, 0, 0, 0⟩)

abbrev sgreatest_parting : Stmt := topS 1
theorem scgreatest_parting : FnScope ["n", "m"] ["n", "m"] (defScope sgreatest_parting) := ⟨rfl, rfl, rfl, by decide +kernel, rfl, by decide +kernel, by decide +kernel⟩
abbrev snearest : Stmt := topS 2
theorem scnearest : FnScope ["n", "d"] ["n", "d"] (defScope snearest) := ⟨rfl, rfl, rfl, by decide +kernel, rfl, by decide +kernel, by decide +kernel⟩
abbrev sspot_of : Stmt := topS 4
theorem scspot_of : FnScope ["n", "m", "d", "part"] ["n", "m", "d"] (defScope sspot_of) := ⟨rfl, rfl, rfl, by decide +kernel, rfl, by decide +kernel, by decide +kernel⟩
abbrev scorner_at : Stmt := topS 5
theorem sccorner_at : FnScope ["grain", "spot", "n", "m", "d"] ["grain", "spot"] (defScope scorner_at) := ⟨rfl, rfl, rfl, by decide +kernel, rfl, by decide +kernel, by decide +kernel⟩
abbrev scorner_of : Stmt := topS 7
theorem sccorner_of : FnScope ["grain", "point", "x", "y"] ["grain", "point"] (defScope scorner_of) := ⟨rfl, rfl, rfl, by decide +kernel, rfl, by decide +kernel, by decide +kernel⟩
abbrev s_law_deck : Stmt := topS 9
theorem sc_law_deck : FnScope ["_law_script", "_law_cell"] ["_law_script"] (defScope s_law_deck) := ⟨rfl, rfl, rfl, by decide +kernel, rfl, by decide +kernel, by decide +kernel⟩
abbrev s_law_draw : Stmt := topS 10
theorem sc_law_draw : FnScope ["_law_deck_here", "_law_most", "_law_cell", "_law_number"] ["_law_deck_here", "_law_most"] (defScope s_law_draw) := ⟨rfl, rfl, rfl, by decide +kernel, rfl, by decide +kernel, by decide +kernel⟩
abbrev s_law_whole : Stmt := topS 11
theorem sc_law_whole : FnScope ["_law_thing"] ["_law_thing"] (defScope s_law_whole) := ⟨rfl, rfl, rfl, by decide +kernel, rfl, by decide +kernel, by decide +kernel⟩
abbrev s_law_are_whole : Stmt := topS 12
theorem sc_law_are_whole : FnScope ["_law_thing", "_law_many", "_law_one"] ["_law_thing", "_law_many"] (defScope s_law_are_whole) := ⟨rfl, rfl, rfl, by decide +kernel, rfl, by decide +kernel, by decide +kernel⟩
abbrev s_law_spot : Stmt := topS 13
theorem sc_law_spot : FnScope ["_law_deck_here", "_law_grain", "_law_way", "_law_d", "_law_n", "_law_m", "_law_k", "_law_one", "_law_other"] ["_law_deck_here", "_law_grain"] (defScope s_law_spot) := ⟨rfl, rfl, rfl, by decide +kernel, rfl, by decide +kernel, by decide +kernel⟩
abbrev s_law_lies : Stmt := topS 14
theorem sc_law_lies : FnScope ["_law_grain", "_law_number", "_law_bottom", "_law_k"] ["_law_grain", "_law_number", "_law_bottom", "_law_k"] (defScope s_law_lies) := ⟨rfl, rfl, rfl, by decide +kernel, rfl, by decide +kernel, by decide +kernel⟩
abbrev slaw : Stmt := topS 15
theorem sclaw : FnScope ["_law_script", "_law_deck_here", "_law_turn", "_law_grain", "_law_k", "_law_spot_here", "_law_n", "_law_m", "_law_d", "_law_found", "_law_dx", "_law_dy", "_law_moved", "_law_times"] ["_law_script"] (defScope slaw) := ⟨rfl, rfl, rfl, by decide +kernel, rfl, by decide +kernel, by decide +kernel⟩
structure Bt (mg : Str → Option Value) : Prop where
  list : mg "list" = none
  sum : mg "sum" = none
  len : mg "len" = none
  range : mg "range" = none
  abs : mg "abs" = none
  max : mg "max" = none
  isinstance : mg "isinstance" = none
  tuple : mg "tuple" = none
  int : mg "int" = none
  bool : mg "bool" = none
theorem cut63 {ns : List Int} (h : ns.length ≤ 63) : cutV (ns.map V.int) none (some 63) = ns.map V.int := by
  unfold cutV
  rw [HT.sIx_none, show HT.sIx (ns.map V.int).length (ns.map V.int).length (some 63) = min 63 (ns.map V.int).length from HT.sIx_nat _ _ 63, List.length_map]
  rw [List.drop_zero, List.take_of_length_le (by rw [List.length_map]; omega)]
section
variable {P : Program} {w : World} {K : PySem.W.Frag} {mg : Str → Option Value} {base : Heap}
theorem ok_law_deck {f : Addr} {fd : FuncData} (F : Fun K "_law_deck" "_law_deck" s_law_deck f fd) (T : Bt mg) :
    FnG P w K mg base CX0 1 f fd ["_law_script"] (spDeck K) := by
  refine okG (k := 0) F sc_law_deck (fun vs H Q E h => ?_) (fun cdv A outer s H vs Q E hr h => ?_)
  · obtain ⟨a, ns, rfl, _⟩ := h
    rfl
  · obtain ⟨a, ns, rfl, hS, hlen, q⟩ := h
    refine ⟨_, (pss_one (ps_ret (lstN (pa_cons (pe_revL (pe_callTy call_list_ofN (by rfl) T.list (by decide +kernel) (pa_cons (pe_slice sl_listN (pv 0) po_none (po_some pe_int)) pa_nil))) (pa_cons (pe_op op_add (pe_callB (cr_sum rfl) (by rfl) T.sum (by decide +kernel) (pa_cons (pe_lc (own := [("_law_cell", 1)]) (g := gName 1) (tt := tYes) (by rfl) sc_law_deck.nd (pi_list (pe_slice sl_listN (pv 0) po_none (po_some pe_int))) (blkOk_by (own := [("_law_cell", 1)]) (N := ["_law_script", "_law_cell"]) (sc := defScope s_law_deck) (by decide +kernel)) (fun _ _ _ _ _ => (pg_name (i := 1) sc_law_deck.nd rfl (.inl rfl))) (fun _ _ _ _ _ => pts_nil) (fun _ _ _ _ _ => (pe_op op_mod (pv 1) pe_int))) pa_nil)) (pe_op op_mul pe_int (pe_callB call_len_seq (by rfl) T.len (by decide +kernel) (pa_cons (pe_slice sl_listN (pv 0) po_none (po_some pe_int)) pa_nil)))) (pa_cons pe_int pa_nil)))))), ?_⟩
    -- list(script[:63])[::-1]
    refine ⟨.ref a, rfl, 63, rfl, a, _, rfl, hS, fun p1 H1 n1 s1 g1 => ⟨p1, _, rfl, .inl (.inl (.inl g1)), fun p2 H2 n2 s2 g2 => ⟨p2, _, rfl, .inl (.inl g2), fun l H3 n3 s3 g3 => ?_⟩⟩⟩
    have t3 : Same H H3 := (s1.trans s2).trans s3
    rw [cut63 hlen, ← List.map_reverse] at g3
    -- sum([cell % 1000003 for cell in script[:63]])
    refine ⟨.ref a, rfl, 63, rfl, a, _, rfl, t3.seq hS, fun p4 H4 n4 s4 g4 => ⟨p4, rfl, ⟨_, .inl (.inl g4)⟩, fun p5 n5 => ?_⟩⟩
    rw [cut63 hlen] at g4
    refine lcL (K := K) (a := p4) (xs := ns.map V.int) (fun i H' => Same H4 H' ∧ H' p5 = some (.lst ((ns.take i).map fun z => V.int (z % 1000003)))) n5 (fun H' e1 e2 => ⟨e1, e2⟩) (fun i H' _ z => .inl (.inl (z.1 _ _ g4))) (fun i x H' hx z => ?_) (fun H5 z => ?_)
    · obtain ⟨e1, e2⟩ := z
      rw [List.getElem?_map] at hx
      cases hn : ns[i]? with
      | none => rw [hn] at hx; cases hx
      | some y =>
        rw [hn] at hx
        cases hx
        refine ⟨rfl, _, rfl, _, _, rfl, rfl, (by show (0 : Int) < 1000003; decide), _, e2, ?_, ?_, ?_⟩
        · rw [List.length_map, List.length_take]
          exact small1000 (by omega)
        · intro b o e
          rw [upd_ne (ne_of_none e n5)]
          exact e1 _ _ e
        · rw [upd_same, List.take_add_one, hn, List.map_append]
          rfl
    · obtain ⟨e1, e2⟩ := z
      have l1 : (ns.map V.int).length = ns.length := List.length_map _
      rw [l1, List.take_length] at e2
      have t5 : Same H H5 := (t3.trans s4).trans e1
      refine ⟨p5, ns.map fun z => z % 1000003, rfl, .inl (.inl ?_), .ref a, rfl, 63, rfl, a, _, rfl, t5.seq hS, fun p6 H6 n6 s6 g6 => ?_⟩
      · rw [e2, List.map_map]
        rfl
      refine ⟨p6, _, rfl, .inl (.inl (.inl g6)), _, _, rfl, rfl, .inl (by decide), _, _, rfl, rfl, (by show 3 ≤ sizeLine; decide), fun d H7 n7 s7 g7 => ?_⟩
      have t37 : Same H3 H7 := ((s4.trans e1).trans s6).trans s7
      have hl : H7 l = some (.lst (ns.reverse.map V.int)) := t37 _ _ g3
      exact q d l H7 (((t5.trans s6)).trans s7) ⟨ne_of g7 hl (by intro z; cases hns : ns.reverse with
        | nil => rw [hns] at z; cases z
        | cons y r => rw [hns] at z; cases z), _, _, _, g7, hl, by rw [List.length_reverse]; exact hlen⟩

theorem ok_law_draw {f : Addr} {fd : FuncData} (F : Fun K "_law_draw" "_law_draw" s_law_draw f fd) (T : Bt mg) :
    FnG P w K mg base CX0 1 f fd ["_law_deck_here", "_law_most"] spDraw := by
  refine okG (k := 0) F sc_law_draw (fun vs H Q E h => ?_) (fun cdv A outer s H vs Q E hr h => ?_)
  · obtain ⟨d, l, m, rfl, _⟩ := h
    rfl
  · obtain ⟨d, l, m, rfl, hm, hm2, D, q⟩ := h
    refine ⟨_, (pss_cons (ps_asg (pe_op op_add (pe_ix ix_list (pv 0) pe_int (fun _ _ => rfl)) pe_int) (pg_sub (pv 0) pe_int set_list))
      (pss_cons (ps_set (i := 2) sc_law_draw.nd rfl (.inl rfl) (pe_ix ix_list (pv 0) pe_int (fun _ _ => rfl)))
      (cutS (ps_if (pt_cmpR (op_neD hr.room.units) (pe_ix ix_list (pv 0) pe_int (fun _ _ => rfl)) (lstN pa_nil) (nomark _)) (pss_cons (ps_set (i := 2) sc_law_draw.nd rfl (.inl rfl) (pe_bm0 PySem.F.plainAttrs_list PySem.F.slot_list_pop PySem.F.type_list_pop mt_pop (pe_ix ix_list (pv 0) pe_int (fun _ _ => rfl))))
      (pss_one (ps_if (pt_cmpR op_ge (pv 2) (pe_op op_pow pe_int pe_int) (nomark _)) (pss_cons (ps_expr (pe_bm PySem.F.plainAttrs_list PySem.F.slot_list_append PySem.F.type_list_append mt_append (pe_ix ix_list (pv 0) pe_int (fun _ _ => rfl)) (pa_cons (pe_op op_fdivW (pv 2) (pv 1)) pa_nil)))
      (pss_one (ps_ret (pe_op op_mod (pv 2) (pv 1))))) pss_nil))) pss_nil)
      (pss_cons (ps_set (i := 3) sc_law_draw.nd rfl (.inl rfl) (pe_op op_mod (pe_op op_mul (pe_op op_add (pe_op op_add (pe_op op_mod (pv 2) pe_int) (pe_op op_mul pe_int (pe_ix ix_list (pv 0) pe_int (fun _ _ => rfl)))) pe_int) pe_int) pe_int))
      (pss_cons (ps_set (i := 3) sc_law_draw.nd rfl (.inl rfl) (pe_op op_mod (pe_op op_add (pe_op op_add (pe_op op_mul (pv 3) (pv 3)) (pe_op op_mul pe_int (pe_ix ix_list (pv 0) pe_int (fun _ _ => rfl)))) pe_int) pe_int))
      (pss_one (ps_ret (pe_op op_mod (pe_op op_fdiv (pe_op op_mod (pe_op op_add (pe_op op_mul (pv 3) (pv 3)) pe_int) pe_int) pe_int) (pv 1))))))))), ?_⟩
    obtain ⟨ns, s0, c, h1, h2, h3⟩ := D.ex
    have dl := D.ne
    -- deck[2] = deck[2] + 1
    refine ⟨.ref d, rfl, d, _, 2, .int c, rfl, rfl, .inl (.inl h1), rfl, c, 1, rfl, rfl, .ref d, rfl, d, _, 2, 2, rfl, rfl, h1, rfl, ?_⟩
    generalize hU : upd H d (.lst ([V.ref l, .int s0, .int c].set 2 ((fun i j => V.int (i + j)) c 1))) = H1
    have g1 : H1 d = some (.lst [.ref l, .int s0, .int (c + 1)]) := by rw [← hU]; exact upd_same
    have g2 : H1 l = some (.lst (ns.map V.int)) := by rw [← hU, upd_ne dl.symm]; exact h2
    have g3 : ∀ b o, b ≠ d → b ≠ l → H b = some o → H1 b = some o := fun b o e1 _ e2 => by rw [← hU, upd_ne e1]; exact e2
    clear hU
    have fin : ∀ (ms : List Int) (H2 : Hp), ms.length ≤ 63 → H2 d = some (.lst [.ref l, .int s0, .int (c + 1)]) → H2 l = some (.lst (ms.map V.int)) →
        (∀ b o, b ≠ d → b ≠ l → H b = some o → H2 b = some o) → Step d l H H2 := fun ms H2 e1 e2 e3 e4 => ⟨⟨dl, ms, s0, c + 1, e2, e3, e1⟩, fun b o e => by
          obtain ⟨n1, n2, n3⟩ := hide_at e
          rw [hide_ne n1 n2]
          exact e4 b o n1 n2 n3⟩
    -- cell = deck[1]
    refine ⟨.ref d, rfl, d, _, 1, .int s0, rfl, rfl, .inl (.inl g1), rfl, ?_⟩
    refine ⟨fun σ' H' => ∃ (cell : Int) (y : Option V) (ms : List Int), σ' = [some (.ref d), some (.int m), some (.int cell), y] ∧ ms.length ≤ 63 ∧
      H' d = some (.lst [.ref l, .int s0, .int (c + 1)]) ∧ H' l = some (.lst (ms.map V.int)) ∧ (∀ b o, b ≠ d → b ≠ l → H b = some o → H' b = some o), ?_, ?_⟩
    · -- if deck[0] != []
      refine ⟨.ref d, rfl, d, _, 0, .ref l, rfl, rfl, .inl (.inl g1), rfl, Nat.zero_le _, fun pe HE ne se ge => ?_⟩
      have h1E := se _ _ g1
      have h2E := se _ _ g2
      have h3E : ∀ b o, b ≠ d → b ≠ l → H b = some o → HE b = some o := fun b o e1 e2 e3 => se _ _ (g3 b o e1 e2 e3)
      refine ⟨_, _, .lst (.inl (.inl h2E)) (dpInts ns), .lst (.inl (.inl ge)) .nil, shapedInts ns, rfl, _, rfl, ?_⟩
      show if (!PyData.eqv (.list (ns.map PyData.int)) (.list [])) = true then _ else _
      rw [eqvNil]
      refine ite2 (fun e => ?_) (fun e => ?_)
      · have h0 : ns ≠ [] := fun z => by subst z; exact absurd e (by decide)
        obtain ⟨z, hz⟩ : ∃ z, ns[ns.length - 1]? = some z := by
          have : ns.length - 1 < ns.length := by cases ns with
            | nil => exact absurd rfl h0
            | cons a b => simp
          exact ⟨_, List.getElem?_eq_getElem this⟩
        -- cell = deck[0].pop()
        refine ⟨.ref d, rfl, d, _, 0, .ref l, rfl, rfl, .inl (.inl h1E), rfl, .inl ⟨rfl, _, .inl (.inl h2E)⟩, l, _, .int z, rfl, rfl, h2E, ?_, ?_⟩
        · rw [List.length_map, List.getElem?_map, hz]
          rfl
        have k1 : ns.dropLast.length < 63 := by
          rw [List.length_dropLast]
          have : ns.length ≠ 0 := fun z => h0 (List.length_eq_zero_iff.mp z)
          omega
        generalize hU : upd HE l (.lst (ns.map V.int).dropLast) = H2
        have u1 : H2 d = some (.lst [.ref l, .int s0, .int (c + 1)]) := by rw [← hU, upd_ne dl]; exact h1E
        have u2 : H2 l = some (.lst (ns.dropLast.map V.int)) := by rw [← hU, upd_same, dropLast_map]
        have u3 : ∀ b o, b ≠ d → b ≠ l → H b = some o → H2 b = some o := fun b o e1 e2 e3 => by rw [← hU, upd_ne e2]; exact h3E b o e1 e2 e3
        clear hU
        refine ⟨.int z, rfl, _, _, rfl, rfl, ⟨by decide, by decide, by decide⟩, _, _, rfl, rfl, _, rfl, ite2 (fun e2 => ?_) (fun e2 => ?_)⟩
        · -- deck[0].append(cell // most); return cell % most
          refine ⟨.ref d, rfl, d, _, 0, .ref l, rfl, rfl, .inl (.inl u1), rfl, .inl ⟨rfl, _, .inl (.inl u2)⟩, .int z, rfl, .int m, rfl, _, _, rfl, rfl,
            wide_div (b := 64) hm (by omega) (by decide) (by decide), l, _, _, rfl, rfl, u2, ?_, ?_⟩
          · rw [List.length_map]
            exact small1000 (by omega)
          refine ⟨.int z, rfl, .int m, rfl, _, _, rfl, rfl, hm, q _ _ (Int.emod_nonneg _ (by omega)) (Int.emod_lt_of_pos _ hm) (fin (ns.dropLast ++ [z / m]) _ ?_ ?_ ?_ ?_)⟩
          · rw [List.length_append]; show _ + 1 ≤ 63; omega
          · rw [upd_ne dl]; exact u1
          · rw [upd_same, List.map_append]; rfl
          · intro b o e1 e2 e3
            rw [upd_ne e2]; exact u3 b o e1 e2 e3
        · exact ⟨z, none, ns.dropLast, rfl, by omega, u1, u2, u3⟩
      · exact ⟨s0, none, ns, rfl, h3, h1E, h2E, h3E⟩
    · rintro σ' H' ⟨cell, y, ms, rfl, e1, e2, e3, e4⟩
      have S := fin ms H' e1 e2 e3 e4
      have eD : SqL K H' d [.ref l, .int s0, .int (c + 1)] := .inl (.inl e2)
      refine ⟨_, rfl, _, _, rfl, rfl, (by show (0 : Int) < 2147483629; decide), .ref d, rfl, d, _, 2, .int (c + 1), rfl, rfl, eD, rfl, _, _, rfl, rfl, .inl (by decide),
        _, _, rfl, rfl, _, _, rfl, rfl, _, _, rfl, rfl, .inr (by decide), _, _, rfl, rfl, (by show (0 : Int) < 2147483647; decide), ?_⟩
      refine ⟨_, rfl, _, rfl, _, _, rfl, rfl, .inl (modlt (by decide) (by decide)), .ref d, rfl, d, _, 2, .int (c + 1), rfl, rfl, eD, rfl, _, _, rfl, rfl, .inl (by decide),
        _, _, rfl, rfl, _, _, rfl, rfl, _, _, rfl, rfl, (by show (0 : Int) < 2147483587; decide), ?_⟩
      refine ⟨_, rfl, _, rfl, _, _, rfl, rfl, .inl (modlt (by decide) (by decide)), _, _, rfl, rfl, _, _, rfl, rfl, (by show (0 : Int) < 2147483563; decide),
        _, _, rfl, rfl, ⟨by decide, by decide⟩, .int m, rfl, _, _, rfl, rfl, hm, q _ _ (Int.emod_nonneg _ (by omega)) (Int.emod_lt_of_pos _ hm) S⟩

end


def spCornerAt (K : PySem.W.Frag) : Sp := fun vs H Q _ => ∃ (g : Int) (a : Addr) (n m d : Int), vs = [.int g, .ref a] ∧ SqT K H a [.int n, .int m, .int d] ∧ 0 < g ∧ g < 2 ^ 60 ∧ 0 < d ∧ d * g < 2 ^ 60 ∧
  New H (.tup [.int (nr n (d * g)), .int (nr m (d * g))]) Q
def spAre2 (K : PySem.W.Frag) : Sp := fun vs H Q _ => ∃ (a : Addr) (x y : Int), vs = [.ref a, .int 2] ∧ SqT K H a [.int x, .int y] ∧ ∀ H', Same H H' → Q (.bl true) H'
def spLies : Sp := fun vs H Q _ => ∃ g n b k : Int, vs = [.int g, .int n, .int b, .int k] ∧ (0 < g ∧ g < 2 ^ 60) ∧ (0 < b ∧ b < 2 ^ 60) ∧ Q (.bl (decide ((2 * k - 1) * g * b ≤ 2 * n) && decide (2 * n < (2 * k + 1) * g * b))) H
def spLSpot : Sp := fun vs H Q _ => ∃ (d l : Addr) (g : Int), vs = [.ref d, .int g] ∧ 0 < g ∧ g ≤ 1000 ∧ Deck H d l ∧
  ∀ p H' n m b, Step d l H H' → p ≠ d → p ≠ l → H' p = some (.tup [.int n, .int m, .int b]) → 0 < b → b < 2 ^ 40 → Q (.ref p) H'

section
variable {P : Program} {w : World} {K : PySem.W.Frag} {mg : Str → Option Value} {base : Heap}

theorem oknearest {f : Addr} {fd : FuncData} (F : Fun K "nearest" "nearest" snearest f fd) (T : Bt mg) :
    FnG P w K mg base CX0 1 f fd ["n", "d"] spNear := by
  refine okG (k := 0) F scnearest (fun vs H Q E h => ?_) (fun cdv A outer s H vs Q E hr h => ?_)
  · obtain ⟨n, d, rfl, _⟩ := h
    rfl
  · obtain ⟨n, d, rfl, h0, h1, q⟩ := h
    refine ⟨_, (pss_one (ps_ret (pe_op op_fdivW (pe_op op_add (pe_op op_mul pe_int (pv 0)) (pv 1)) (pe_op op_mul pe_int (pv 1))))), ?_⟩
    exact ⟨_, rfl, _, _, rfl, rfl, .inl (by decide), _, rfl, _, _, rfl, rfl, _, rfl, _, _, rfl, rfl, .inl (by decide), _, _, rfl, rfl, wide_div (b := 64) (by omega) (by omega) (by decide) (by decide), q⟩

theorem okcorner_of {f : Addr} {fd : FuncData} (F : Fun K "corner_of" "corner_of" scorner_of f fd) (T : Bt mg) (Dnearest : Def P w K mg base 1 "nearest" ["n", "d"] spNear) :
    FnG P w K mg base CX0 2 f fd ["grain", "point"] (spCorner K) := by
  refine okG (k := 1) F sccorner_of (fun vs H Q E h => ?_) (fun cdv A outer s H vs Q E hr h => ?_)
  · obtain ⟨g, a, x, y, rfl, _⟩ := h
    rfl
  · obtain ⟨g, a, x, y, rfl, hS, h0, h1, q⟩ := h
    refine ⟨_, (pss_cons (ps_asg (pv 1) (pg_tup (by rfl) (pgs_cons (pg_name (i := 2) sccorner_of.nd rfl (.inl rfl)) (pgs_cons (pg_name (i := 3) sccorner_of.nd rfl (.inl rfl)) pgs_nil))))
      (pss_one (ps_ret (tupN (pa_cons (callD Dnearest (hr.mono (by decide)) (pa_cons (pv 2) (pa_cons (pv 0) pa_nil))) (pa_cons (callD Dnearest (hr.mono (by decide)) (pa_cons (pv 3) (pa_cons (pv 0) pa_nil))) pa_nil)))))), ?_⟩
    refine ⟨.ref a, rfl, a, _, rfl, hS, rfl, _, _, rfl, _, _, rfl, rfl, ?_⟩
    exact ⟨_, rfl, _, rfl, x, g, rfl, h0, h1, _, rfl, _, rfl, y, g, rfl, h0, h1, (by show 2 ≤ sizeLine; decide), q⟩

theorem okgreatest_parting {f : Addr} {fd : FuncData} (F : Fun K "greatest_parting" "greatest_parting" sgreatest_parting f fd) (T : Bt mg) :
    FnG P w K mg base CX0 1 f fd ["n", "m"] spGp := by
  refine okG (k := 0) F scgreatest_parting (fun vs H Q E h => ?_) (fun cdv A outer s H vs Q E hr h => ?_)
  · obtain ⟨n, m, rfl, _⟩ := h
    rfl
  · obtain ⟨n, m, rfl, q⟩ := h
    refine ⟨_, (pss_cons (ps_par (i := 0) (j := 1) (by rfl) scgreatest_parting.nd rfl rfl (by decide) rfl rfl (pa_cons (pe_callB call_abs (by rfl) T.abs (by decide +kernel) (pa_cons (pv 0) pa_nil)) (pa_cons (pe_callB call_abs (by rfl) T.abs (by decide +kernel) (pa_cons (pv 1) pa_nil)) pa_nil)) (by rfl))
      (pss_cons (ps_while PassesOwn.never (pt_cmpR op_gt (pv 1) pe_int (nomark _)) (pss_one (ps_par (i := 0) (j := 1) (by rfl) scgreatest_parting.nd rfl rfl (by decide) rfl rfl (pa_cons (pv 1) (pa_cons (pe_op op_mod (pv 0) (pv 1)) pa_nil)) (by rfl))))
      (pss_one (ps_ret (pv 0))))), ?_⟩
    refine ⟨_, rfl, _, rfl, _, rfl, _, rfl, _, _, rfl, ?_⟩
    have e1 : (if n < 0 then -n else n) = (n.natAbs : Int) := by split <;> omega
    have e2 : (if m < 0 then -m else m) = (m.natAbs : Int) := by split <;> omega
    refine while_by (fun σ H' => ∃ a b : Nat, σ = [some (.int a), some (.int b)] ∧ H' = H ∧ Nat.gcd a b = Int.gcd n m) (fun σ _ => match σ with | [_, some (.int b)] => b.toNat | _ => 0) ?_ ?_ ?_
    · refine ⟨n.natAbs, m.natAbs, ?_, rfl, rfl⟩
      show [some (V.int (if n < 0 then -n else n)), some (.int (if m < 0 then -m else m))] = _
      rw [e1, e2]
    · rintro σ H' ⟨a, b, rfl, rfl, hg⟩
      refine ⟨_, rfl, _, _, rfl, rfl, _, rfl, ite2 (fun e => ?_) (fun e => ?_)⟩
      · have hb : 0 < b := by have := of_decide_eq_true e; omega
        refine ⟨_, rfl, _, rfl, _, rfl, _, _, rfl, rfl, (by omega), _, _, rfl, ⟨b, a % b, rfl, rfl, ?_⟩, ?_⟩
        · rw [← hg, Nat.gcd_comm b, ← Nat.gcd_rec, Nat.gcd_comm]
        · show ((a : Int) % (b : Int)).toNat < (b : Int).toNat
          have := Nat.mod_lt a hb
          omega
      · have hb : b = 0 := by
          have : ¬ (0 : Int) < b := fun z => e (decide_eq_true z)
          omega
        subst hb
        rw [Nat.gcd_zero_right] at hg
        rw [← hg] at q
        exact ⟨_, rfl, q⟩
    · rintro σ H1 Q1 Q2 hq ⟨v, h1, i, j, h2, h3, k, h4, h5⟩
      exact ⟨v, h1, i, j, h2, h3, k, h4, hq _ _ h5⟩

theorem okspot_of {f : Addr} {fd : FuncData} (F : Fun K "spot_of" "spot_of" sspot_of f fd) (T : Bt mg) (Dgreatest_parting : Def P w K mg base 1 "greatest_parting" ["n", "m"] spGp) :
    FnG P w K mg base CX0 2 f fd ["n", "m", "d"] spSpotOf := by
  refine okG (k := 1) F scspot_of (fun vs H Q E h => ?_) (fun cdv A outer s H vs Q E hr h => ?_)
  · obtain ⟨n, m, d, rfl, _⟩ := h
    rfl
  · obtain ⟨n, m, d, rfl, h0, h1, q⟩ := h
    refine ⟨_, (pss_cons (ps_set (i := 3) scspot_of.nd rfl (.inl rfl) (callD Dgreatest_parting (hr.mono (by decide)) (pa_cons (callD Dgreatest_parting (hr.mono (by decide)) (pa_cons (pv 0) (pa_cons (pv 1) pa_nil))) (pa_cons (pv 2) pa_nil))))
      (cutS (ps_if (pt_cmpR op_lt (pv 2) pe_int (nomark _)) (pss_one (ps_set (i := 3) scspot_of.nd rfl (.inl rfl) (pe_un un_neg (pv 3)))) pss_nil)
      (pss_one (ps_ret (tupN (pa_cons (pe_op op_fdivX (pv 0) (pv 3)) (pa_cons (pe_op op_fdivX (pv 1) (pv 3)) (pa_cons (pe_op op_fdivX (pv 2) (pv 3)) pa_nil)))))))), ?_⟩
    refine ⟨_, rfl, _, rfl, n, m, rfl, _, rfl, _, d, rfl, ?_⟩
    obtain ⟨v1, v2, v3⟩ := spP_dvd n m d
    rw [← Int.fdiv_eq_ediv_of_dvd v1, ← Int.fdiv_eq_ediv_of_dvd v2, ← Int.fdiv_eq_ediv_of_dvd v3] at q
    have hd : CDivX n (spP n m d) := by
      refine ⟨spP_ne h0, ?_⟩
      have a1 := gpar_le (n := n) (m := m) h0
      have a2 := gpar_pos (n := n) (m := m) h0
      have a3 : (spP n m d).natAbs < 2 ^ 200 := by unfold spP; split <;> omega
      have := PySem.Flt.log2_lt_of (show 0 < 200 by decide) a3
      omega
    refine ⟨fun σ' H' => σ' = [some (.int n), some (.int m), some (.int d), some (.int (spP n m d))] ∧ H' = H, ?_, ?_⟩
    · refine ⟨_, rfl, _, _, rfl, rfl, _, rfl, ite2 (fun e => ?_) (fun e => ?_)⟩
      · have e' := of_decide_eq_true e
        refine ⟨_, rfl, _, rfl, ?_, rfl⟩
        unfold spP
        rw [if_pos e']
        rfl
      · have e' : ¬ d < 0 := fun z => e (decide_eq_true z)
        refine ⟨?_, rfl⟩
        unfold spP
        rw [if_neg e']
        rfl
    · rintro σ' H' ⟨rfl, rfl⟩
      exact ⟨_, rfl, _, rfl, _, _, rfl, rfl, hd, _, rfl, _, rfl, _, _, rfl, rfl, hd, _, rfl, _, rfl, _, _, rfl, rfl, hd, (by show 3 ≤ sizeLine; decide), q⟩

theorem okcorner_at {f : Addr} {fd : FuncData} (F : Fun K "corner_at" "corner_at" scorner_at f fd) (T : Bt mg) (Dnearest : Def P w K mg base 1 "nearest" ["n", "d"] spNear) :
    FnG P w K mg base CX0 2 f fd ["grain", "spot"] (spCornerAt K) := by
  refine okG (k := 1) F sccorner_at (fun vs H Q E h => ?_) (fun cdv A outer s H vs Q E hr h => ?_)
  · obtain ⟨g, a, n, m, d, rfl, _⟩ := h
    rfl
  · obtain ⟨g, a, n, m, d, rfl, hS, h0, h1, h2, h3, q⟩ := h
    refine ⟨_, (pss_cons (ps_asg (pv 1) (pg_tup (by rfl) (pgs_cons (pg_name (i := 2) sccorner_at.nd rfl (.inl rfl)) (pgs_cons (pg_name (i := 3) sccorner_at.nd rfl (.inl rfl)) (pgs_cons (pg_name (i := 4) sccorner_at.nd rfl (.inl rfl)) pgs_nil)))))
      (pss_one (ps_ret (tupN (pa_cons (callD Dnearest (hr.mono (by decide)) (pa_cons (pv 2) (pa_cons (pe_op op_mul (pv 4) (pv 0)) pa_nil))) (pa_cons (callD Dnearest (hr.mono (by decide)) (pa_cons (pv 3) (pa_cons (pe_op op_mul (pv 4) (pv 0)) pa_nil))) pa_nil)))))), ?_⟩
    have h4 : 0 < d * g := Int.mul_pos h2 h0
    refine ⟨.ref a, rfl, a, _, rfl, hS, rfl, _, _, rfl, _, _, rfl, _, _, rfl, rfl, ?_⟩
    exact ⟨_, rfl, _, rfl, _, rfl, _, _, rfl, rfl, .inr (by omega), n, d * g, rfl, h4, h3, _, rfl, _, rfl, _, rfl, _, _, rfl, rfl, .inr (by omega), m, d * g, rfl, h4, h3, (by show 2 ≤ sizeLine; decide), q⟩

theorem ok_law_whole {f : Addr} {fd : FuncData} (F : Fun K "_law_whole" "_law_whole" s_law_whole f fd) (T : Bt mg) :
    FnG P w K mg base CX0 1 f fd ["_law_thing"] (spWhole K) := by
  refine okG (k := 0) F sc_law_whole (fun vs H Q E h => ?_) (fun cdv A outer s H vs Q E hr h => ?_)
  · obtain ⟨v, T, rfl, _⟩ := h
    rfl
  · obtain ⟨v, U, rfl, hk, q⟩ := h
    refine ⟨_, (pss_one (ps_ret (pe_and (pe_callB call_isi (by rfl) T.isinstance (by decide +kernel) (pa_cons (pv 0) (pa_cons (pe_bltn (v := .ty "int") (by rfl) T.int (by decide +kernel) rfl) pa_nil))) (pe_one (pe_not (pe_callB call_isi (by rfl) T.isinstance (by decide +kernel) (pa_cons (pv 0) (pa_cons (pe_bltn (v := .ty "bool") (by rfl) T.bool (by decide +kernel) rfl) pa_nil)))))))), ?_⟩
    refine ⟨_, rfl, _, _, _, _, _, rfl, .ty _, hk.ty, kit_ty hk.int?, _, rfl, ?_⟩
    cases hb : isB v with
    | true =>
      have e : (isI v || true) = true := by cases isI v <;> rfl
      rw [e]
      refine iteT ⟨_, rfl, _, _, _, _, _, rfl, .ty _, hk.ty, kit_ty hk.bool?, _, rfl, ?_⟩
      rw [hb]
      have e2 : isI v = false := by cases v <;> first | rfl | cases hb
      rw [e2] at q
      exact q
    | false =>
      rw [Bool.or_false]
      cases hi : isI v with
      | false =>
        rw [hi] at q
        exact iteF q
      | true =>
        rw [hi] at q
        refine iteT ⟨_, rfl, _, _, _, _, _, rfl, .ty _, hk.ty, kit_ty hk.bool?, _, rfl, ?_⟩
        rw [hb]
        exact q

theorem ok_law_are_whole {f : Addr} {fd : FuncData} (F : Fun K "_law_are_whole" "_law_are_whole" s_law_are_whole f fd) (T : Bt mg) (D_law_whole : Def P w K mg base 1 "_law_whole" ["_law_thing"] (spWhole K)) :
    FnG P w K mg base CX0 2 f fd ["_law_thing", "_law_many"] (spAre2 K) := by
  refine okG (k := 1) F sc_law_are_whole (fun vs H Q E h => ?_) (fun cdv A outer s H vs Q E hr h => ?_)
  · obtain ⟨a, x, y, rfl, _⟩ := h
    rfl
  · obtain ⟨a, x, y, rfl, hS, q⟩ := h
    refine ⟨_, (pss_one (ps_ret (pe_and (pe_callB call_isi (by rfl) T.isinstance (by decide +kernel) (pa_cons (pv 0) (pa_cons (pe_bltn (v := .ty "tuple") (by rfl) T.tuple (by decide +kernel) rfl) pa_nil))) (pe_and (pe_cmpR op_eq (pe_callB call_len_seq (by rfl) T.len (by decide +kernel) (pa_cons (pv 0) pa_nil)) (pv 1) (nomark _)) (pe_one (pe_cmpR (op_eqD hr.room.units) (pe_lc (own := [("_law_one", 2)]) (g := gName 2) (by rfl) sc_law_are_whole.nd (pi_tup (pv 0)) (blkOk_by (own := [("_law_one", 2)]) (N := ["_law_thing", "_law_many", "_law_one"]) (sc := defScope s_law_are_whole) (by decide +kernel)) (fun _ _ _ _ _ => (pg_name (i := 2) sc_law_are_whole.nd rfl (.inl rfl))) (fun _ _ _ _ _ => (pts_one (pt_not (pt_val (callD D_law_whole (hr.mono (by decide)) (pa_cons (pv 2) pa_nil)))))) (fun _ _ _ _ _ => (pv 2))) (lstN pa_nil) (nomark _))))))), ?_⟩
    refine ⟨_, rfl, _, _, _, _, _, rfl, .ty _, (Kd.tup hS).ty, kit_ty (Kd.tup hS).tuple?, _, rfl, iteT ?_⟩
    refine ⟨_, rfl, a, _, rfl, .inr hS, _, rfl, rfl, _, rfl, iteT ?_⟩
    refine ⟨_, rfl, a, rfl, ⟨_, hS⟩, fun p1 n1 => ?_⟩
    refine lcT (K := K) (a := a) (xs := [.int x, .int y]) (fun i H' => Same H H' ∧ H' p1 = some (.lst [])) n1 (fun H' e1 e2 => ⟨e1, e2⟩) (fun i H' _ z => seT z.1 hS) (fun i v H' hx z => ?_) (fun H5 z => ?_)
    · have hv : ∃ w, v = .int w := by
        match i, hx with
        | 0, hx => exact ⟨x, (Option.some.inj hx).symm⟩
        | 1, hx => exact ⟨y, (Option.some.inj hx).symm⟩
        | i + 2, hx => cases hx
      obtain ⟨w, rfl⟩ := hv
      refine ⟨rfl, _, rfl, .int w, _, rfl, .int w, _, rfl, ?_⟩
      exact iteF z
    · obtain ⟨e1, e2⟩ := z
      refine ⟨Nat.zero_le _, fun p6 H6 n6 s6 g6 => ⟨.list [], .list [], .lst (.inl (.inl (s6 _ _ e2))) .nil, .lst (.inl (.inl g6)) .nil, rfl, rfl, ?_⟩⟩
      exact q _ (e1.trans s6)

theorem ok_law_lies {f : Addr} {fd : FuncData} (F : Fun K "_law_lies" "_law_lies" s_law_lies f fd) (T : Bt mg) :
    FnG P w K mg base CX0 1 f fd ["_law_grain", "_law_number", "_law_bottom", "_law_k"] spLies := by
  refine okG (k := 0) F sc_law_lies (fun vs H Q E h => ?_) (fun cdv A outer s H vs Q E hr h => ?_)
  · obtain ⟨g, n, b, k, rfl, _⟩ := h
    rfl
  · obtain ⟨g, n, b, k, rfl, h0, h1, q⟩ := h
    refine ⟨_, (pss_one (ps_ret (pe_chain op_le op_lt (pe_op op_mul (pe_op op_mul (pe_op op_sub (pe_op op_mul pe_int (pv 3)) pe_int) (pv 0)) (pv 2)) (pe_op op_mul pe_int (pv 1)) (pe_op op_mul (pe_op op_mul (pe_op op_add (pe_op op_mul pe_int (pv 3)) pe_int) (pv 0)) (pv 2))))), ?_⟩
    refine ⟨_, rfl, _, _, rfl, rfl, .inl (by decide), _, _, rfl, rfl, _, rfl, _, _, rfl, rfl, .inr (by omega), _, rfl, _, _, rfl, rfl, .inr (by omega), _, rfl, _, _, rfl, rfl, .inl (by decide), _, _, rfl, rfl, _, rfl, ite2 (fun e => ?_) (fun e => ?_)⟩
    · refine ⟨_, rfl, _, _, rfl, rfl, .inl (by decide), _, _, rfl, rfl, _, rfl, _, _, rfl, rfl, .inr (by omega), _, rfl, _, _, rfl, rfl, .inr (by omega), _, _, rfl, rfl, ?_⟩
      rw [e, Bool.true_and] at q
      exact q
    · rw [Bool.eq_false_iff.mpr e, Bool.false_and] at q
      exact q

theorem ok_law_spot {f : Addr} {fd : FuncData} (F : Fun K "_law_spot" "_law_spot" s_law_spot f fd) (T : Bt mg) (D_law_draw : Def P w K mg base 1 "_law_draw" ["_law_deck_here", "_law_most"] spDraw) (Dspot_of : Def P w K mg base 2 "spot_of" ["n", "m", "d"] spSpotOf) :
    FnG P w K mg base CX0 3 f fd ["_law_deck_here", "_law_grain"] spLSpot := by
  refine okG (k := 2) F sc_law_spot (fun vs H Q E h => ?_) (fun cdv A outer s H vs Q E hr h => ?_)
  · obtain ⟨d, l, g, rfl, _⟩ := h
    rfl
  · obtain ⟨d, l, g, rfl, h0, h1, D, q⟩ := h
    refine ⟨_, (pss_cons (ps_set (i := 2) sc_law_spot.nd rfl (.inl rfl) (callD D_law_draw (hr.mono (by decide)) (pa_cons (pv 0) (pa_cons pe_int pa_nil))))
      (pss_cons (ps_set (i := 3) sc_law_spot.nd rfl (.inl rfl) (pe_op op_add pe_int (callD D_law_draw (hr.mono (by decide)) (pa_cons (pv 0) (pa_cons pe_int pa_nil)))))
      (pss_cons (ps_if (pt_cmpR op_eq (pv 2) pe_int (nomark _)) (pss_one (ps_ret (callD Dspot_of (hr.mono (by decide)) (pa_cons (pe_op op_sub (callD D_law_draw (hr.mono (by decide)) (pa_cons (pv 0) (pa_cons pe_int pa_nil))) pe_int) (pa_cons (pe_op op_sub (callD D_law_draw (hr.mono (by decide)) (pa_cons (pv 0) (pa_cons pe_int pa_nil))) pe_int) (pa_cons (pv 3) pa_nil)))))) pss_nil)
      (cutS (ps_if (pt_cmpR op_eq (pv 2) pe_int (nomark _)) (pss_one (ps_set (i := 3) sc_law_spot.nd rfl (.inl rfl) (pe_op op_add (pe_op op_pow pe_int pe_int) (callD D_law_draw (hr.mono (by decide)) (pa_cons (pv 0) (pa_cons (pe_op op_pow pe_int pe_int) pa_nil)))))) pss_nil)
      (pss_cons (ps_asg (pe_lc (own := [("_law_k", 6)]) (g := gName 6) (tt := tYes) (by rfl) sc_law_spot.nd (pi_range1 (by rfl) T.range (pa_cons pe_int pa_nil)) (blkOk_by (own := [("_law_k", 6)]) (N := ["_law_deck_here", "_law_grain", "_law_way", "_law_d", "_law_n", "_law_m", "_law_k", "_law_one", "_law_other"]) (sc := defScope s_law_spot) (by decide +kernel)) (fun _ _ _ _ _ => (pg_name (i := 6) sc_law_spot.nd rfl (.inl rfl))) (fun _ _ _ _ _ => pts_nil) (fun _ _ _ _ _ => (pe_op op_sub (callD D_law_draw (hr.mono (by decide)) (pa_cons (pv 0) (pa_cons pe_int pa_nil))) pe_int))) (pg_lst (by rfl) (pgs_cons (pg_name (i := 4) sc_law_spot.nd rfl (.inl rfl)) (pgs_cons (pg_name (i := 5) sc_law_spot.nd rfl (.inl rfl)) pgs_nil))))
      (pss_cons (ps_if (pt_cmpR op_lt (pv 2) pe_int (nomark _)) (pss_cons (ps_asg (pe_lc (own := [("_law_k", 6)]) (g := gName 6) (tt := tYes) (by rfl) sc_law_spot.nd (pi_range1 (by rfl) T.range (pa_cons pe_int pa_nil)) (blkOk_by (own := [("_law_k", 6)]) (N := ["_law_deck_here", "_law_grain", "_law_way", "_law_d", "_law_n", "_law_m", "_law_k", "_law_one", "_law_other"]) (sc := defScope s_law_spot) (by decide +kernel)) (fun _ _ _ _ _ => (pg_name (i := 6) sc_law_spot.nd rfl (.inl rfl))) (fun _ _ _ _ _ => pts_nil) (fun _ _ _ _ _ => (pe_op op_sub (callD D_law_draw (hr.mono (by decide)) (pa_cons (pv 0) (pa_cons pe_int pa_nil))) pe_int))) (pg_lst (by rfl) (pgs_cons (pg_name (i := 7) sc_law_spot.nd rfl (.inl rfl)) (pgs_cons (pg_name (i := 8) sc_law_spot.nd rfl (.inl rfl)) pgs_nil))))
      (pss_one (ps_ret (callD Dspot_of (hr.mono (by decide)) (pa_cons (pe_op op_add (pe_op op_mul (pe_op op_mul (pe_op op_add (pe_op op_mul pe_int (pv 4)) pe_int) (pv 1)) (pv 3)) (pv 7)) (pa_cons (pe_op op_add (pe_op op_mul (pe_op op_mul (pe_op op_add (pe_op op_mul pe_int (pv 5)) pe_int) (pv 1)) (pv 3)) (pe_op op_mul (pv 8) (pe_op op_sub (pv 2) pe_int))) (pa_cons (pe_op op_mul pe_int (pv 3)) pa_nil))))))) pss_nil)
      (pss_one (ps_ret (callD Dspot_of (hr.mono (by decide)) (pa_cons (pe_op op_add (pe_op op_mul (pe_op op_mul (pv 4) (pv 1)) (pv 3)) (callD D_law_draw (hr.mono (by decide)) (pa_cons (pv 0) (pa_cons (pe_op op_mul (pv 1) pe_int) pa_nil)))) (pa_cons (pe_op op_add (pe_op op_mul (pe_op op_mul (pv 5) (pv 1)) (pv 3)) (callD D_law_draw (hr.mono (by decide)) (pa_cons (pv 0) (pa_cons (pe_op op_mul (pv 1) pe_int) pa_nil)))) (pa_cons (pv 3) pa_nil)))))))))))), ?_⟩
    have fin : ∀ (n m b : Int) (H1 : Hp), Step d l H H1 → 0 < b → b < 2 ^ 40 → spSpotOf [.int n, .int m, .int b] H1 Q E0 := fun n m b H1 S b0 b1 => by
      refine ⟨n, m, b, rfl, by omega, by omega, fun p H' n1 s1 g1 => ?_⟩
      obtain ⟨_, _, _, _, _, b2, b3⟩ := spot_pos (n := n) (m := m) b0
      obtain ⟨a1, a2⟩ := S.deck.nd n1
      exact q p H' _ _ _ (S.trans (Step.of S.deck s1)) a1 a2 g1 b2 (by omega)
    refine ⟨.ref d, rfl, d, l, 6, rfl, by decide, by decide, D, fun way H1 w0 w1 S1 => ?_⟩
    refine ⟨.ref d, rfl, d, l, 12, rfl, by decide, by decide, S1.deck, fun d1 H2 d10 d11 S2 => ⟨_, _, rfl, rfl, ?_⟩⟩
    have S := S1.trans S2
    refine ⟨_, rfl, rfl, _, rfl, ite2 (fun e => ?_) (fun e => ?_)⟩
    · refine ⟨.ref d, rfl, d, l, 2000001, rfl, by decide, by decide, S2.deck, fun x H3 x0 x1 S3 => ⟨_, _, rfl, rfl, .ref d, rfl, d, l, 2000001, rfl, by decide, by decide, S3.deck, fun y H4 y0 y1 S4 => ⟨_, _, rfl, rfl, _, rfl, ?_⟩⟩⟩
      exact fin _ _ _ _ ((S.trans S3).trans S4) (by omega) (by omega)
    refine ⟨fun σ' H' => ∃ b : Int, σ' = [some (.ref d), some (.int g), some (.int way), some (.int b), none, none, none, none, none] ∧ Step d l H H' ∧ 0 < b ∧ b < 2 ^ 38, ?_, ?_⟩
    · refine ⟨_, rfl, rfl, _, rfl, ite2 (fun e => ?_) (fun e => ?_)⟩
      · refine ⟨_, _, rfl, rfl, ⟨by decide, by decide, by decide⟩, .ref d, rfl, _, _, rfl, rfl, ⟨by decide, by decide, by decide⟩, d, l, _, rfl, by decide, by decide, S2.deck, fun d2 H3 d20 d21 S3 => ⟨_, _, rfl, rfl, ?_⟩⟩
        have d21' : d2 < 1000000 := d21
        exact ⟨_, rfl, S.trans S3, (by show (0 : Int) < 1000000000 + d2; omega), (by show 1000000000 + d2 < (2 ^ 38 : Int); omega)⟩
      · exact ⟨_, rfl, S, by omega, by omega⟩
    · rintro σ' H3 ⟨b, rfl, S3, b0, b1⟩
      refine ⟨2, rfl, by decide, by decide, fun pA nA => ?_⟩
      refine lcR (lo := 0) (n := 2) (Acc d l pA H3 · (fun z => -10 ≤ z ∧ z < 21 - 10) ·) nA (fun H' e1 e2 => .start S3.deck e1 e2) (fun i H' hi z => ⟨rfl, .ref d, rfl, d, l, 21, rfl, by decide, by decide, z.choose_spec.1.deck, fun v Hv v0 v1 Sv => ⟨_, _, rfl, rfl, z.turn Sv S3.deck nA (by omega) (by omega)⟩⟩) (fun H4 z => ?_)
      obtain ⟨xs, S4, eA, l1, a1⟩ := z
      obtain ⟨x, y, rfl⟩ := two l1
      have kx := a1 x (by simp)
      have ky := a1 y (by simp)
      clear a1 l1
      refine ⟨pA, _, rfl, .inl (.inl eA), rfl, _, _, rfl, _, _, rfl, rfl, ?_⟩
      refine ⟨_, rfl, _, _, rfl, rfl, _, rfl, ite2 (fun e => ?_) (fun e => ?_)⟩
      · skip
        refine ⟨2, rfl, by decide, by decide, fun pB nB => ?_⟩
        refine lcR (lo := 0) (n := 2) (Acc d l pB H4 · (fun z => -1 ≤ z ∧ z < 3 - 1) ·) nB (fun H' e1 e2 => .start S4.deck e1 e2) (fun i H' hi z => ⟨rfl, .ref d, rfl, d, l, 3, rfl, by decide, by decide, z.choose_spec.1.deck, fun v Hv v0 v1 Sv => ⟨_, _, rfl, rfl, z.turn Sv S4.deck nB (by omega) (by omega)⟩⟩) (fun H5 z => ?_)
        obtain ⟨xs, S5, eB, l1, a1⟩ := z
        obtain ⟨u, v, rfl⟩ := two l1
        have ku := a1 u (by simp)
        have kv := a1 v (by simp)
        clear a1 l1
        refine ⟨pB, _, rfl, .inl (.inl eB), rfl, _, _, rfl, _, _, rfl, rfl, ?_⟩
        refine ⟨_, rfl, _, _, rfl, rfl, .inl (by decide), _, _, rfl, rfl, _, rfl, _, _, rfl, rfl, .inr (by omega), _, rfl, _, _, rfl, rfl, .inr (by omega), _, rfl, _, _, rfl, rfl,
          _, rfl, _, _, rfl, rfl, .inl (by decide), _, _, rfl, rfl, _, rfl, _, _, rfl, rfl, .inr (by omega), _, rfl, _, _, rfl, rfl, .inr (by omega), _, rfl, _, rfl, _, _, rfl, rfl, _, _, rfl, rfl, .inr (by omega), _, _, rfl, rfl,
          _, rfl, _, _, rfl, rfl, .inl (by decide), fin _ _ _ _ ((S3.trans S4).trans S5) (by omega) (by omega)⟩
      · refine ⟨_, rfl, _, rfl, _, _, rfl, rfl, .inr (by omega), _, rfl, _, _, rfl, rfl, .inr (by omega), .ref d, rfl, _, rfl, _, _, rfl, rfl, .inr (by decide), d, l, _, rfl, by omega, by omega, S4.deck, fun u H5 u0 u1 S5 => ⟨_, _, rfl, rfl, ?_⟩⟩
        refine ⟨_, rfl, _, rfl, _, _, rfl, rfl, .inr (by omega), _, rfl, _, _, rfl, rfl, .inr (by omega), .ref d, rfl, _, rfl, _, _, rfl, rfl, .inr (by decide), d, l, _, rfl, by omega, by omega, S5.deck, fun v H6 v0 v1 S6 => ⟨_, _, rfl, rfl, ?_⟩⟩
        exact ⟨_, rfl, fin _ _ _ _ (((S3.trans S4).trans S5).trans S6) (by omega) (by omega)⟩

theorem oklaw {f : Addr} {fd : FuncData} (F : Fun K "law" "law" slaw f fd) (T : Bt mg) (D_law_deck : Def P w K mg base 1 "_law_deck" ["_law_script"] (spDeck K)) (D_law_draw : Def P w K mg base 1 "_law_draw" ["_law_deck_here", "_law_most"] spDraw) (D_law_spot : Def P w K mg base 3 "_law_spot" ["_law_deck_here", "_law_grain"] spLSpot) (D_law_are_whole : Def P w K mg base 2 "_law_are_whole" ["_law_thing", "_law_many"] (spAre2 K)) (D_law_lies : Def P w K mg base 1 "_law_lies" ["_law_grain", "_law_number", "_law_bottom", "_law_k"] spLies) (Dcorner_at : Def P w K mg base 2 "corner_at" ["grain", "spot"] (spCornerAt K)) (Dcorner_of : Def P w K mg base 2 "corner_of" ["grain", "point"] (spCorner K)) (Dspot_of : Def P w K mg base 2 "spot_of" ["n", "m", "d"] spSpotOf) :
    FnG P w K mg base CX0 4 f fd ["_law_script"] (spLaw K) := by
  refine okG (k := 3) F sclaw (fun vs H Q E h => ?_) (fun cdv A outer s H vs Q E hr h => ?_)
  · obtain ⟨a, ns, rfl, _⟩ := h
    rfl
  · obtain ⟨a, ns, rfl, hS, hlen, q⟩ := h
    refine ⟨_, (pss_cons (ps_set (i := 1) sclaw.nd rfl (.inl rfl) (callD D_law_deck (hr.mono (by decide)) (pa_cons (pv 0) pa_nil)))
      (pss_cons (ps_for PassesOwn.never rfl (pi_range1 (by rfl) T.range (pa_cons pe_int pa_nil)) (pg_name (i := 2) sclaw.nd rfl (.inl rfl)) (pss_cons (ps_set (i := 3) sclaw.nd rfl (.inl rfl) (pe_ix ix_list (lstN (pa_cons pe_int (pa_cons pe_int (pa_cons pe_int (pa_cons pe_int (pa_cons pe_int (pa_cons pe_int (pa_cons pe_int (pa_cons pe_int pa_nil))))))))) (callD D_law_draw (hr.mono (by decide)) (pa_cons (pv 1) (pa_cons pe_int pa_nil))) (fun _ _ => rfl)))
      (pss_one (ps_for PassesOwn.never rfl (pi_range1 (by rfl) T.range (pa_cons pe_int pa_nil)) (pg_name (i := 4) sclaw.nd rfl (.inl rfl)) (pss_cons (ps_set (i := 5) sclaw.nd rfl (.inl rfl) (callD D_law_spot (hr.mono (by decide)) (pa_cons (pv 1) (pa_cons (pv 3) pa_nil))))
      (pss_cons (ps_asg (pv 5) (pg_tup (by rfl) (pgs_cons (pg_name (i := 6) sclaw.nd rfl (.inl rfl)) (pgs_cons (pg_name (i := 7) sclaw.nd rfl (.inl rfl)) (pgs_cons (pg_name (i := 8) sclaw.nd rfl (.inl rfl)) pgs_nil)))))
      (pss_cons (ps_set (i := 9) sclaw.nd rfl (.inl rfl) (callD Dcorner_at (hr.mono (by decide)) (pa_cons (pv 3) (pa_cons (pv 5) pa_nil))))
      (pss_cons (ps_if (PW.pt (pw_or (pt_not (pt_val (callD D_law_are_whole (hr.mono (by decide)) (pa_cons (pv 9) (pa_cons pe_int pa_nil))))) (pw_or1 (pt_cmpR (op_neD hr.room.units) (callD Dcorner_at (hr.mono (by decide)) (pa_cons (pv 3) (pa_cons (pv 5) pa_nil))) (pv 9) (nomark _))))) (pss_one (ps_ret pe_bl)) pss_nil)
      (pss_cons (ps_if (PW.pt (pw_or (pt_not (pt_val (callD D_law_lies (hr.mono (by decide)) (pa_cons (pv 3) (pa_cons (pv 6) (pa_cons (pv 8) (pa_cons (pe_ix ix_tup (pv 9) pe_int (fun _ _ => rfl)) pa_nil))))))) (pw_or1 (pt_not (pt_val (callD D_law_lies (hr.mono (by decide)) (pa_cons (pv 3) (pa_cons (pv 7) (pa_cons (pv 8) (pa_cons (pe_ix ix_tup (pv 9) pe_int (fun _ _ => rfl)) pa_nil)))))))))) (pss_one (ps_ret pe_bl)) pss_nil)
      (cutS (ps_if (PW.pt (pw_and (pt_cmpR op_le (pe_callB (call_max2 rfl) (by rfl) T.max (by decide +kernel) (pa_cons (pe_callB call_abs (by rfl) T.abs (by decide +kernel) (pa_cons (pv 6) pa_nil)) (pa_cons (pe_callB call_abs (by rfl) T.abs (by decide +kernel) (pa_cons (pv 7) pa_nil)) pa_nil))) (pe_op op_pow pe_int pe_int) (nomark _)) (pw_and1 (pt_cmpR (op_neD hr.room.units) (callD Dcorner_at (hr.mono (by decide)) (pa_cons (pv 3) (pa_cons (tupN (pa_cons (pv 6) (pa_cons (pv 7) (pa_cons pe_int pa_nil)))) pa_nil))) (callD Dcorner_of (hr.mono (by decide)) (pa_cons (pv 3) (pa_cons (tupN (pa_cons (pv 6) (pa_cons (pv 7) pa_nil))) pa_nil))) (nomark _))))) (pss_one (ps_ret pe_bl)) pss_nil)
      (pss_cons (ps_par (i := 10) (j := 11) (by rfl) sclaw.nd rfl rfl (by decide) rfl rfl (pa_cons (pe_op op_sub (callD D_law_draw (hr.mono (by decide)) (pa_cons (pv 1) (pa_cons pe_int pa_nil))) pe_int) (pa_cons (pe_op op_sub (callD D_law_draw (hr.mono (by decide)) (pa_cons (pv 1) (pa_cons pe_int pa_nil))) pe_int) pa_nil)) (by rfl))
      (pss_cons (ps_set (i := 12) sclaw.nd rfl (.inl rfl) (callD Dspot_of (hr.mono (by decide)) (pa_cons (pe_op op_add (pv 6) (pe_op op_mul (pe_op op_mul (pv 10) (pv 3)) (pv 8))) (pa_cons (pe_op op_add (pv 7) (pe_op op_mul (pe_op op_mul (pv 11) (pv 3)) (pv 8))) (pa_cons (pv 8) pa_nil)))))
      (pss_cons (ps_set (i := 13) sclaw.nd rfl (.inl rfl) (pe_op op_add pe_int (callD D_law_draw (hr.mono (by decide)) (pa_cons (pv 1) (pa_cons (pe_op op_fdivW pe_int (pv 3)) pa_nil)))))
      (pss_cons (ps_if (pt_cmpR (op_neD hr.room.units) (callD Dcorner_at (hr.mono (by decide)) (pa_cons (pv 3) (pa_cons (pv 12) pa_nil))) (tupN (pa_cons (pe_op op_add (pe_ix ix_tup (pv 9) pe_int (fun _ _ => rfl)) (pv 10)) (pa_cons (pe_op op_add (pe_ix ix_tup (pv 9) pe_int (fun _ _ => rfl)) (pv 11)) pa_nil))) (nomark _)) (pss_one (ps_ret pe_bl)) pss_nil)
      (pss_one (ps_if (pt_cmpR (op_neD hr.room.units) (callD Dcorner_at (hr.mono (by decide)) (pa_cons (pe_op op_mul (pv 3) (pv 13)) (pa_cons (callD Dspot_of (hr.mono (by decide)) (pa_cons (pe_op op_mul (pv 6) (pv 13)) (pa_cons (pe_op op_mul (pv 7) (pv 13)) (pa_cons (pv 8) pa_nil)))) pa_nil))) (pv 9) (nomark _)) (pss_one (ps_ret pe_bl)) pss_nil))))))))))))))))
      (pss_one (ps_ret pe_bl)))), ?_⟩
    refine ⟨.ref a, rfl, a, ns, rfl, hS, hlen, fun d l H1 s1 D1 => ?_⟩
    refine ⟨12, rfl, by decide, by decide, for_range (n := 12) (fun _ σ H => ∃ y2 y3 y4 y5 y6 y7 y8 y9 y10 y11 y12 y13, σ = [some (.ref a), some (.ref d), y2, y3, y4, y5, y6, y7, y8, y9, y10, y11, y12, y13] ∧ Deck H d l) ?_ ?_ ?_⟩
    · exact ⟨_, _, _, _, _, _, _, _, _, _, _, _, rfl, D1⟩
    · rintro i σ H2 hi ⟨y2, y3, y4, y5, y6, y7, y8, y9, y10, y11, y12, y13, rfl, D2⟩
      refine ⟨(by show 8 ≤ sizeLine; decide), fun pm H3 n3 s3 e3 => ?_⟩
      have D3 := (Step.of D2 s3).deck
      refine ⟨.ref d, rfl, d, l, 8, rfl, by decide, by decide, D3, fun way H4 w0 w1 S4 => ?_⟩
      obtain ⟨m1, m2⟩ := D2.nd n3
      have e4 := S4.at m1 m2 e3
      obtain ⟨g, hg, h0, h1⟩ : ∃ g : Int, atI [V.int 1, .int 2, .int 3, .int 10, .int 1000, .int 4, .int 7, .int 12] way = some (.int g) ∧ 0 < g ∧ g ≤ 1000 := by
        obtain rfl | rfl | rfl | rfl | rfl | rfl | rfl | rfl : way = 0 ∨ way = 1 ∨ way = 2 ∨ way = 3 ∨ way = 4 ∨ way = 5 ∨ way = 6 ∨ way = 7 := by omega
        all_goals exact ⟨_, rfl, by omega, by omega⟩
      refine ⟨pm, _, way, _, rfl, rfl, .inl (.inl e4), hg, ?_⟩
      refine ⟨2, rfl, by decide, by decide, for_range (n := 2) (fun _ σ H => ∃ y2 y4 y5 y6 y7 y8 y9 y10 y11 y12 y13, σ = [some (.ref a), some (.ref d), y2, some (.int g), y4, y5, y6, y7, y8, y9, y10, y11, y12, y13] ∧ Deck H d l) ?_ ?_ ?_⟩
      · exact ⟨_, _, _, _, _, _, _, _, _, _, _, rfl, S4.deck⟩
      · clear hg e4 e3 s3 S4 D3 n3 m1 m2
        rintro j σ H6 hj ⟨y2, y4, y5, y6, y7, y8, y9, y10, y11, y12, y13, rfl, D6⟩
        refine ⟨.ref d, rfl, _, rfl, d, l, g, rfl, h0, h1, D6, fun ps H7 n m b S7 np1 np2 e7 b0 b1 => ?_⟩
        have bg : 0 < b * g := Int.mul_pos b0 h0
        have bg2 : b * g ≤ b * 1000 := Int.mul_le_mul_of_nonneg_left h1 (by omega)
        have hat : ∀ {H : Hp} {Q' : VK} {p : Addr}, H p = some (.tup [.int n, .int m, .int b]) → New H (.tup [.int (nr n (b * g)), .int (nr m (b * g))]) Q' → spCornerAt K [.int g, .ref p] H Q' E0 :=
          fun e q' => ⟨g, _, n, m, b, rfl, .inl (.inl e), h0, by omega, b0, by omega, q'⟩
        refine ⟨_, rfl, ps, _, rfl, .inl (.inl e7), rfl, _, _, rfl, _, _, rfl, _, _, rfl, rfl, ?_⟩
        refine ⟨_, rfl, _, rfl, g, ps, n, m, b, rfl, .inl (.inl e7), h0, by omega, b0, by omega, fun pf H8 n8 s8 e8 => ?_⟩
        have D8 := (Step.of S7.deck s8).deck
        have f8 := s8 _ _ e7
        -- whole, and told again
        refine ⟨_, rfl, pf, _, _, rfl, .inl (.inl e8), fun H9 s9 => ⟨_, rfl, iteF ?_⟩⟩
        have e9 := s9 _ _ e8
        have f9 := s9 _ _ f8
        refine ⟨_, rfl, _, rfl, g, ps, n, m, b, rfl, .inl (.inl f9), h0, by omega, b0, by omega, fun p10 H10 n10 s10 e10 => ?_⟩
        have g10 := s10 _ _ e9
        refine ⟨_, rfl, .tuple [.int _, .int _], .tuple [.int _, .int _], .tup (.inl (.inl e10)) (.cons (.int _) (.cons (.int _) .nil)), .tup (.inl (.inl g10)) (.cons (.int _) (.cons (.int _) .nil)), rfl, rfl, _, rfl, ?_⟩
        rw [SeqAt.eqv_refl _ rfl]
        refine iteF ?_
        have f10 := s10 _ _ f9
        have D10 := (Step.of D8 (s9.trans s10)).deck
        -- where they lie
        have lie : ∀ {n : Int}, (decide ((2 * nr n (b * g) - 1) * g * b ≤ 2 * n) && decide (2 * n < (2 * nr n (b * g) + 1) * g * b)) = true := fun {n} => by
          have := nr_lies (n := n) bg
          rw [Int.mul_assoc, Int.mul_comm g b, Int.mul_assoc, Int.mul_comm g b, decide_eq_true this.1, decide_eq_true this.2]
          rfl
        refine ⟨_, rfl, _, rfl, _, rfl, _, rfl, pf, _, 0, _, rfl, rfl, .inl (.inl g10), rfl, g, n, b, _, rfl, ⟨h0, by omega⟩, ⟨b0, by omega⟩, _, rfl, ?_⟩
        rw [lie]
        refine iteF ⟨_, rfl, _, rfl, _, rfl, _, rfl, pf, _, 1, _, rfl, rfl, .inl (.inl g10), rfl, g, m, b, _, rfl, ⟨h0, by omega⟩, ⟨b0, by omega⟩, _, rfl, ?_⟩
        rw [lie]
        refine iteF ?_
        -- of a point told as a spot
        refine ⟨fun σ' H' => σ' = [some (.ref a), some (.ref d), y2, some (.int g), some (.int (0 + (j : Int))), some (.ref ps), some (.int n), some (.int m), some (.int b), some (.ref pf), y10, y11, y12, y13] ∧ Deck H' d l ∧ H' pf = some (.tup [.int (nr n (b * g)), .int (nr m (b * g))]), ?_, ?_⟩
        · refine ⟨_, rfl, _, rfl, _, rfl, _, rfl, _, _, rfl, _, _, rfl, rfl, ⟨by decide, by decide, by decide⟩, _, _, rfl, rfl, _, rfl, ite2 (fun e => ?_) (fun e => iteF ⟨rfl, D10, g10⟩)⟩
          refine ⟨_, rfl, _, rfl, _, rfl, (by show 3 ≤ sizeLine; decide), fun p11 H11 n11 s11 e11 => ⟨g, p11, n, m, 1, rfl, .inl (.inl e11), h0, by omega, by decide, by omega, fun p12 H12 n12 s12 e12 => ?_⟩⟩
          refine ⟨_, rfl, _, rfl, _, rfl, (by show 2 ≤ sizeLine; decide), fun p13 H13 n13 s13 e13 => ⟨g, p13, n, m, rfl, .inl (.inl e13), h0, by omega, fun p14 H14 n14 s14 e14 => ?_⟩⟩
          have e12' := (s13.trans s14) _ _ e12
          rw [Int.one_mul] at e12'
          refine ⟨.tuple [.int _, .int _], .tuple [.int _, .int _], .tup (.inl (.inl e12')) (.cons (.int _) (.cons (.int _) .nil)), .tup (.inl (.inl e14)) (.cons (.int _) (.cons (.int _) .nil)), rfl, rfl, _, rfl, ?_⟩
          rw [SeqAt.eqv_refl _ rfl]
          have t := ((s11.trans s12).trans s13).trans s14
          exact iteF ⟨rfl, (Step.of D10 t).deck, t _ _ g10⟩
        · clear f10 g10 D10 e10 e9 f9 f8 e8 D8 e7 s8 s9 s10 n8 n10 hat
          rintro σ' H' ⟨rfl, D', g'⟩
          refine ⟨.ref d, rfl, d, l, 19, rfl, by decide, by decide, D', fun dx H14 a0 a1 S14 => ⟨_, _, rfl, rfl, .ref d, rfl, d, l, 19, rfl, by decide, by decide, S14.deck, fun dy H15 b0' b1' S15 => ⟨_, _, rfl, rfl, _, _, rfl, ?_⟩⟩⟩
          have g15 := S15.tupH S14.deck (S14.tupH D' g')
          -- moved
          refine ⟨_, rfl, _, rfl, _, rfl, _, _, rfl, rfl, .inr (by omega), _, rfl, _, _, rfl, rfl, .inr (by omega), _, _, rfl, rfl, _, rfl, _, rfl, _, rfl, _, _, rfl, rfl, .inr (by omega), _, rfl, _, _, rfl, rfl, .inr (by omega), _, _, rfl, rfl, _, rfl,
            n + (dx - 9) * g * b, m + (dy - 9) * g * b, b, rfl, by omega, by omega, fun pv H16 n16 s16 e16 => ?_⟩
          obtain ⟨_, _, _, _, _, z1, z2⟩ := spot_pos (n := n + (dx - 9) * g * b) (m := m + (dy - 9) * g * b) b0
          have zs := nr_spot (n := n + (dx - 9) * g * b) (m := m + (dy - 9) * g * b) (g := g) b0
          generalize (b / spP (n + (dx - 9) * g * b) (m + (dy - 9) * g * b) b) = b' at e16 z1 z2 zs
          generalize ((n + (dx - 9) * g * b) / spP (n + (dx - 9) * g * b) (m + (dy - 9) * g * b) b) = n' at e16 zs
          generalize ((m + (dy - 9) * g * b) / spP (n + (dx - 9) * g * b) (m + (dy - 9) * g * b) b) = m' at e16 zs
          have mv : ∀ {n dx : Int}, nr (n + dx * g * b) (b * g) = nr n (b * g) + dx := fun {n dx} => by
            rw [Int.mul_assoc, Int.mul_comm g b, nr_move bg]
          rw [mv, mv] at zs
          have D16 := (Step.of S15.deck s16).deck
          have g16 := s16 _ _ g15
          -- times
          have hq : 1000 / g ≤ 1000 := Int.ediv_le_self _ (by omega)
          have hq0 : 1 ≤ 1000 / g := Int.le_ediv_of_mul_le h0 (by omega)
          refine ⟨.ref d, rfl, _, rfl, _, _, rfl, rfl, wide_div (b := 64) h0 (by omega) (by decide) (by decide), d, l, _, rfl, by omega, by omega, D16, fun t H19 t0 t1 S19 => ⟨_, _, rfl, rfl, ?_⟩⟩
          have g19 := S19.tupH D16 g16
          have e19 := S19.tupH D16 e16
          have bz : b' * g ≤ b' * 1000 := Int.mul_le_mul_of_nonneg_left h1 (by omega)
          refine ⟨_, rfl, _, rfl, g, pv, n', m', b', rfl, .inl (.inl e19), h0, by omega, z1, by omega, fun p20 H20 n20 s20 e20 => ?_⟩
          have g20 := s20 _ _ g19
          refine ⟨_, rfl, pf, _, 0, _, rfl, rfl, .inl (.inl g20), rfl, _, rfl, _, _, rfl, rfl, _, rfl, pf, _, 1, _, rfl, rfl, .inl (.inl g20), rfl, _, rfl, _, _, rfl, rfl, (by show 2 ≤ sizeLine; decide), fun p21 H21 n21 s21 e21 => ?_⟩
          have e20' := s21 _ _ e20
          rw [zs.1, zs.2] at e20'
          refine ⟨.tuple [.int _, .int _], .tuple [.int _, .int _], .tup (.inl (.inl e20')) (.cons (.int _) (.cons (.int _) .nil)), .tup (.inl (.inl e21)) (.cons (.int _) (.cons (.int _) .nil)), rfl, rfl, _, rfl, ?_⟩
          rw [SeqAt.eqv_refl _ rfl]
          refine iteF ?_
          have g21 := s21 _ _ g20
          have D21 := (Step.of S19.deck (s20.trans s21)).deck
          have gt : 0 < g * (1 + t) := Int.mul_pos h0 (by omega)
          have gt2 : g * (1 + t) ≤ 1000 * 1001 := Int.mul_le_mul h1 (by omega) (by omega) (by omega)
          refine ⟨_, rfl, _, rfl, _, _, rfl, rfl, .inl (by omega), _, rfl, _, rfl, _, _, rfl, rfl, .inr (by omega), _, rfl, _, rfl, _, _, rfl, rfl, .inr (by omega), _, rfl, n * (1 + t), m * (1 + t), b, rfl, by omega, by omega, fun pw H22 n22 s22 e22 => ?_⟩
          obtain ⟨_, _, _, _, _, y1', y2'⟩ := spot_pos (n := n * (1 + t)) (m := m * (1 + t)) b0
          have ys := nr_spot (n := n * (1 + t)) (m := m * (1 + t)) (g := g * (1 + t)) b0
          generalize (b / spP (n * (1 + t)) (m * (1 + t)) b) = b2 at e22 y1' y2' ys
          generalize (n * (1 + t) / spP (n * (1 + t)) (m * (1 + t)) b) = n2 at e22 ys
          generalize (m * (1 + t) / spP (n * (1 + t)) (m * (1 + t)) b) = m2 at e22 ys
          rw [show b * (g * (1 + t)) = b * g * (1 + t) from (Int.mul_assoc ..).symm, nr_times (by omega), nr_times (by omega)] at ys
          have by2 : b2 * (g * (1 + t)) ≤ b2 * (1000 * 1001) := Int.mul_le_mul_of_nonneg_left gt2 (by omega)
          refine ⟨_, pw, n2, m2, b2, rfl, .inl (.inl e22), gt, by omega, y1', by omega, fun pz H23 n23 s23 e23 => ?_⟩
          have g23 := (s22.trans s23) _ _ g21
          rw [ys.1, ys.2] at e23
          refine ⟨_, rfl, .tuple [.int _, .int _], .tuple [.int _, .int _], .tup (.inl (.inl e23)) (.cons (.int _) (.cons (.int _) .nil)), .tup (.inl (.inl g23)) (.cons (.int _) (.cons (.int _) .nil)), rfl, rfl, _, rfl, ?_⟩
          rw [SeqAt.eqv_refl _ rfl]
          exact iteF ⟨_, _, _, _, _, _, _, _, _, _, _, rfl, (Step.of D21 (s22.trans s23)).deck⟩
      · rintro σ H6 ⟨y2, y4, y5, y6, y7, y8, y9, y10, y11, y12, y13, rfl, D6⟩
        exact ⟨_, _, _, _, _, _, _, _, _, _, _, _, rfl, D6⟩
    · rintro σ H2 ⟨y2, y3, y4, y5, y6, y7, y8, y9, y10, y11, y12, y13, rfl, D2⟩
      exact q _

end

theorem all_mk {l : PySem.W.OpenLaw} {w : World} {K : PySem.W.Frag} {h : Heap} {mg : Str → Option Value} {fa : Addr} (X : K.In h) (G : h.Ns mainGlobals mg) (hfa : mg "law" = some (.ref fa))
    {f0 : Addr} {od0 an0 : Option Addr} {sl0 : Array (Option Value)} {oc0 kV0 dc0 pm0 cd0 ct0 : Value}
    {f1 : Addr} {od1 an1 : Option Addr} {sl1 : Array (Option Value)} {oc1 kV1 dc1 pm1 cd1 ct1 : Value}
    {f2 : Addr} {od2 an2 : Option Addr} {sl2 : Array (Option Value)} {oc2 kV2 dc2 pm2 cd2 ct2 : Value}
    {f3 : Addr} {od3 an3 : Option Addr} {sl3 : Array (Option Value)} {oc3 kV3 dc3 pm3 cd3 ct3 : Value}
    {f4 : Addr} {od4 an4 : Option Addr} {sl4 : Array (Option Value)} {oc4 kV4 dc4 pm4 cd4 ct4 : Value}
    {f5 : Addr} {od5 an5 : Option Addr} {sl5 : Array (Option Value)} {oc5 kV5 dc5 pm5 cd5 ct5 : Value}
    {f6 : Addr} {od6 an6 : Option Addr} {sl6 : Array (Option Value)} {oc6 kV6 dc6 pm6 cd6 ct6 : Value}
    {f7 : Addr} {od7 an7 : Option Addr} {sl7 : Array (Option Value)} {oc7 kV7 dc7 pm7 cd7 ct7 : Value}
    {f8 : Addr} {od8 an8 : Option Addr} {sl8 : Array (Option Value)} {oc8 kV8 dc8 pm8 cd8 ct8 : Value}
    {f9 : Addr} {od9 an9 : Option Addr} {sl9 : Array (Option Value)} {oc9 kV9 dc9 pm9 cd9 ct9 : Value}
    {f10 : Addr} {od10 an10 : Option Addr} {sl10 : Array (Option Value)} {oc10 kV10 dc10 pm10 cd10 ct10 : Value}
    {f11 : Addr} {od11 an11 : Option Addr} {sl11 : Array (Option Value)} {oc11 kV11 dc11 pm11 cd11 ct11 : Value}
    (a0 : PySem.W.nsIn K mainGlobals "_law_deck" = some (some (.ref f0))) (l0 : K.lookup f0 = some ⟨oc0, od0, .func (PySem.W.fnOf "_law_deck" "_law_deck" (defArgs s_law_deck) (defBody s_law_deck) (defScope s_law_deck) .none kV0 dc0 pm0 an0 cd0 ct0), sl0⟩) (c0 : PySem.W.codeIn K cd0 "_law_deck" = true) (k0 : PySem.W.keepIn K (.ref f0) = true)
    (a1 : PySem.W.nsIn K mainGlobals "_law_draw" = some (some (.ref f1))) (l1 : K.lookup f1 = some ⟨oc1, od1, .func (PySem.W.fnOf "_law_draw" "_law_draw" (defArgs s_law_draw) (defBody s_law_draw) (defScope s_law_draw) .none kV1 dc1 pm1 an1 cd1 ct1), sl1⟩) (c1 : PySem.W.codeIn K cd1 "_law_draw" = true) (k1 : PySem.W.keepIn K (.ref f1) = true)
    (a2 : PySem.W.nsIn K mainGlobals "nearest" = some (some (.ref f2))) (l2 : K.lookup f2 = some ⟨oc2, od2, .func (PySem.W.fnOf "nearest" "nearest" (defArgs snearest) (defBody snearest) (defScope snearest) .none kV2 dc2 pm2 an2 cd2 ct2), sl2⟩) (c2 : PySem.W.codeIn K cd2 "nearest" = true) (k2 : PySem.W.keepIn K (.ref f2) = true)
    (a3 : PySem.W.nsIn K mainGlobals "greatest_parting" = some (some (.ref f3))) (l3 : K.lookup f3 = some ⟨oc3, od3, .func (PySem.W.fnOf "greatest_parting" "greatest_parting" (defArgs sgreatest_parting) (defBody sgreatest_parting) (defScope sgreatest_parting) .none kV3 dc3 pm3 an3 cd3 ct3), sl3⟩) (c3 : PySem.W.codeIn K cd3 "greatest_parting" = true) (k3 : PySem.W.keepIn K (.ref f3) = true)
    (a4 : PySem.W.nsIn K mainGlobals "_law_whole" = some (some (.ref f4))) (l4 : K.lookup f4 = some ⟨oc4, od4, .func (PySem.W.fnOf "_law_whole" "_law_whole" (defArgs s_law_whole) (defBody s_law_whole) (defScope s_law_whole) .none kV4 dc4 pm4 an4 cd4 ct4), sl4⟩) (c4 : PySem.W.codeIn K cd4 "_law_whole" = true) (k4 : PySem.W.keepIn K (.ref f4) = true)
    (a5 : PySem.W.nsIn K mainGlobals "_law_lies" = some (some (.ref f5))) (l5 : K.lookup f5 = some ⟨oc5, od5, .func (PySem.W.fnOf "_law_lies" "_law_lies" (defArgs s_law_lies) (defBody s_law_lies) (defScope s_law_lies) .none kV5 dc5 pm5 an5 cd5 ct5), sl5⟩) (c5 : PySem.W.codeIn K cd5 "_law_lies" = true) (k5 : PySem.W.keepIn K (.ref f5) = true)
    (a6 : PySem.W.nsIn K mainGlobals "corner_of" = some (some (.ref f6))) (l6 : K.lookup f6 = some ⟨oc6, od6, .func (PySem.W.fnOf "corner_of" "corner_of" (defArgs scorner_of) (defBody scorner_of) (defScope scorner_of) .none kV6 dc6 pm6 an6 cd6 ct6), sl6⟩) (c6 : PySem.W.codeIn K cd6 "corner_of" = true) (k6 : PySem.W.keepIn K (.ref f6) = true)
    (a7 : PySem.W.nsIn K mainGlobals "spot_of" = some (some (.ref f7))) (l7 : K.lookup f7 = some ⟨oc7, od7, .func (PySem.W.fnOf "spot_of" "spot_of" (defArgs sspot_of) (defBody sspot_of) (defScope sspot_of) .none kV7 dc7 pm7 an7 cd7 ct7), sl7⟩) (c7 : PySem.W.codeIn K cd7 "spot_of" = true) (k7 : PySem.W.keepIn K (.ref f7) = true)
    (a8 : PySem.W.nsIn K mainGlobals "corner_at" = some (some (.ref f8))) (l8 : K.lookup f8 = some ⟨oc8, od8, .func (PySem.W.fnOf "corner_at" "corner_at" (defArgs scorner_at) (defBody scorner_at) (defScope scorner_at) .none kV8 dc8 pm8 an8 cd8 ct8), sl8⟩) (c8 : PySem.W.codeIn K cd8 "corner_at" = true) (k8 : PySem.W.keepIn K (.ref f8) = true)
    (a9 : PySem.W.nsIn K mainGlobals "_law_are_whole" = some (some (.ref f9))) (l9 : K.lookup f9 = some ⟨oc9, od9, .func (PySem.W.fnOf "_law_are_whole" "_law_are_whole" (defArgs s_law_are_whole) (defBody s_law_are_whole) (defScope s_law_are_whole) .none kV9 dc9 pm9 an9 cd9 ct9), sl9⟩) (c9 : PySem.W.codeIn K cd9 "_law_are_whole" = true) (k9 : PySem.W.keepIn K (.ref f9) = true)
    (a10 : PySem.W.nsIn K mainGlobals "_law_spot" = some (some (.ref f10))) (l10 : K.lookup f10 = some ⟨oc10, od10, .func (PySem.W.fnOf "_law_spot" "_law_spot" (defArgs s_law_spot) (defBody s_law_spot) (defScope s_law_spot) .none kV10 dc10 pm10 an10 cd10 ct10), sl10⟩) (c10 : PySem.W.codeIn K cd10 "_law_spot" = true) (k10 : PySem.W.keepIn K (.ref f10) = true)
    (a11 : PySem.W.nsIn K mainGlobals "law" = some (some (.ref f11))) (l11 : K.lookup f11 = some ⟨oc11, od11, .func (PySem.W.fnOf "law" "law" (defArgs slaw) (defBody slaw) (defScope slaw) .none kV11 dc11 pm11 an11 cd11 ct11), sl11⟩) (c11 : PySem.W.codeIn K cd11 "law" = true) (k11 : PySem.W.keepIn K (.ref f11) = true)
    (z0 : PySem.W.nsIn K mainGlobals "list" = some none) (z1 : PySem.W.nsIn K mainGlobals "sum" = some none) (z2 : PySem.W.nsIn K mainGlobals "len" = some none) (z3 : PySem.W.nsIn K mainGlobals "range" = some none) (z4 : PySem.W.nsIn K mainGlobals "abs" = some none) (z5 : PySem.W.nsIn K mainGlobals "max" = some none) (z6 : PySem.W.nsIn K mainGlobals "isinstance" = some none) (z7 : PySem.W.nsIn K mainGlobals "tuple" = some none) (z8 : PySem.W.nsIn K mainGlobals "int" = some none) (z9 : PySem.W.nsIn K mainGlobals "bool" = some none) :
    ∃ fd : FuncData, (∀ (s : Shared) (v : Value), BindsTo s fd ⟨[v], []⟩ [("_law_script", v)]) ∧ ∀ base : Heap, K.In base → base.Ns mainGlobals mg → FnG l.prog w K mg base CX0 4 fa fd ["_law_script"] (spLaw K) := by
  have e := hfa.symm.trans (PySem.W.mg_of X G a11)
  cases e
  have T : Bt mg := ⟨PySem.W.mg_none_of X G z0, PySem.W.mg_none_of X G z1, PySem.W.mg_none_of X G z2, PySem.W.mg_none_of X G z3, PySem.W.mg_none_of X G z4, PySem.W.mg_none_of X G z5, PySem.W.mg_none_of X G z6, PySem.W.mg_none_of X G z7, PySem.W.mg_none_of X G z8, PySem.W.mg_none_of X G z9⟩
  have F0 := fun_mk (st := s_law_deck) l0 c0 k0
  have b0 := F0.binds (ps := ["_law_script"]) fun _ _ _ _ _ _ us hl => match us, hl with | [_], _ => rfl
  have F1 := fun_mk (st := s_law_draw) l1 c1 k1
  have b1 := F1.binds (ps := ["_law_deck_here", "_law_most"]) fun _ _ _ _ _ _ us hl => match us, hl with | [_, _], _ => rfl
  have F2 := fun_mk (st := snearest) l2 c2 k2
  have b2 := F2.binds (ps := ["n", "d"]) fun _ _ _ _ _ _ us hl => match us, hl with | [_, _], _ => rfl
  have F3 := fun_mk (st := sgreatest_parting) l3 c3 k3
  have b3 := F3.binds (ps := ["n", "m"]) fun _ _ _ _ _ _ us hl => match us, hl with | [_, _], _ => rfl
  have F4 := fun_mk (st := s_law_whole) l4 c4 k4
  have b4 := F4.binds (ps := ["_law_thing"]) fun _ _ _ _ _ _ us hl => match us, hl with | [_], _ => rfl
  have F5 := fun_mk (st := s_law_lies) l5 c5 k5
  have b5 := F5.binds (ps := ["_law_grain", "_law_number", "_law_bottom", "_law_k"]) fun _ _ _ _ _ _ us hl => match us, hl with | [_, _, _, _], _ => rfl
  have F6 := fun_mk (st := scorner_of) l6 c6 k6
  have b6 := F6.binds (ps := ["grain", "point"]) fun _ _ _ _ _ _ us hl => match us, hl with | [_, _], _ => rfl
  have F7 := fun_mk (st := sspot_of) l7 c7 k7
  have b7 := F7.binds (ps := ["n", "m", "d"]) fun _ _ _ _ _ _ us hl => match us, hl with | [_, _, _], _ => rfl
  have F8 := fun_mk (st := scorner_at) l8 c8 k8
  have b8 := F8.binds (ps := ["grain", "spot"]) fun _ _ _ _ _ _ us hl => match us, hl with | [_, _], _ => rfl
  have F9 := fun_mk (st := s_law_are_whole) l9 c9 k9
  have b9 := F9.binds (ps := ["_law_thing", "_law_many"]) fun _ _ _ _ _ _ us hl => match us, hl with | [_, _], _ => rfl
  have F10 := fun_mk (st := s_law_spot) l10 c10 k10
  have b10 := F10.binds (ps := ["_law_deck_here", "_law_grain"]) fun _ _ _ _ _ _ us hl => match us, hl with | [_, _], _ => rfl
  have F11 := fun_mk (st := slaw) l11 c11 k11
  refine ⟨PySem.W.fnOf "law" "law" (defArgs slaw) (defBody slaw) (defScope slaw) .none kV11 dc11 pm11 an11 cd11 ct11, fun s v => .of_eq rfl, fun base _ _ => ?_⟩
  have D_law_deck : Def l.prog w K mg base 1 "_law_deck" ["_law_script"] (spDeck K) := .mk1 F0 (ok_law_deck F0 T ) (PySem.W.mg_of X G a0) b0
  have D_law_draw : Def l.prog w K mg base 1 "_law_draw" ["_law_deck_here", "_law_most"] spDraw := .mk1 F1 (ok_law_draw F1 T ) (PySem.W.mg_of X G a1) b1
  have Dnearest : Def l.prog w K mg base 1 "nearest" ["n", "d"] spNear := .mk1 F2 (oknearest F2 T ) (PySem.W.mg_of X G a2) b2
  have Dgreatest_parting : Def l.prog w K mg base 1 "greatest_parting" ["n", "m"] spGp := .mk1 F3 (okgreatest_parting F3 T ) (PySem.W.mg_of X G a3) b3
  have D_law_whole : Def l.prog w K mg base 1 "_law_whole" ["_law_thing"] (spWhole K) := .mk1 F4 (ok_law_whole F4 T ) (PySem.W.mg_of X G a4) b4
  have D_law_lies : Def l.prog w K mg base 1 "_law_lies" ["_law_grain", "_law_number", "_law_bottom", "_law_k"] spLies := .mk1 F5 (ok_law_lies F5 T ) (PySem.W.mg_of X G a5) b5
  have Dcorner_of : Def l.prog w K mg base 2 "corner_of" ["grain", "point"] (spCorner K) := .mk1 F6 (okcorner_of F6 T Dnearest) (PySem.W.mg_of X G a6) b6
  have Dspot_of : Def l.prog w K mg base 2 "spot_of" ["n", "m", "d"] spSpotOf := .mk1 F7 (okspot_of F7 T Dgreatest_parting) (PySem.W.mg_of X G a7) b7
  have Dcorner_at : Def l.prog w K mg base 2 "corner_at" ["grain", "spot"] (spCornerAt K) := .mk1 F8 (okcorner_at F8 T Dnearest) (PySem.W.mg_of X G a8) b8
  have D_law_are_whole : Def l.prog w K mg base 2 "_law_are_whole" ["_law_thing", "_law_many"] (spAre2 K) := .mk1 F9 (ok_law_are_whole F9 T D_law_whole) (PySem.W.mg_of X G a9) b9
  have D_law_spot : Def l.prog w K mg base 3 "_law_spot" ["_law_deck_here", "_law_grain"] spLSpot := .mk1 F10 (ok_law_spot F10 T D_law_draw Dspot_of) (PySem.W.mg_of X G a10) b10
  exact oklaw F11 T D_law_deck D_law_draw D_law_spot D_law_are_whole D_law_lies Dcorner_at Dcorner_of Dspot_of
end Cl
open PySem PySem.W PyProof.Rows
set_option maxHeartbeats 0 in
theorem PySem.Challenge.cw_cornerlines_k04_corners_of_spots_holds : PySem.Challenge.rw_cornerlines_k04_corners_of_spots.Holds := by
  w_on; o_law; k_head; (case hw => w_witness2)
  k_fill
  refine Cl.endG (l := PySem.Challenge.rw_cornerlines_k04_corners_of_spots) (n := 63) (k := 4) (x := "_law_script") (sp := fun w => Cl.spLaw _) rfl (by decide) rfl ⟨⟨rfl, by decide, by decide⟩, rfl⟩ (fun w h Y => PySem.W.kIn_of Y) ?F (fun _ _ a ns hl _ _ hS => ⟨a, ns, rfl, hS, hl, fun _ => rfl⟩)
  case F =>
    intro w mg fa h KX G hmg
    refine' Cl.all_mk KX G hmg ?a0 ?l0 ?c0 ?k0 ?a1 ?l1 ?c1 ?k1 ?a2 ?l2 ?c2 ?k2 ?a3 ?l3 ?c3 ?k3 ?a4 ?l4 ?c4 ?k4 ?a5 ?l5 ?c5 ?k5 ?a6 ?l6 ?c6 ?k6 ?a7 ?l7 ?c7 ?k7 ?a8 ?l8 ?c8 ?k8 ?a9 ?l9 ?c9 ?k9 ?a10 ?l10 ?c10 ?k10 ?a11 ?l11 ?c11 ?k11 ?z0 ?z1 ?z2 ?z3 ?z4 ?z5 ?z6 ?z7 ?z8 ?z9
    (case a0 => k_is); (case l0 => k_is); (case c0 => k_is); (case k0 => k_is); (case a1 => k_is); (case l1 => k_is); (case c1 => k_is); (case k1 => k_is); (case a2 => k_is); (case l2 => k_is); (case c2 => k_is); (case k2 => k_is); (case a3 => k_is); (case l3 => k_is); (case c3 => k_is); (case k3 => k_is); (case a4 => k_is); (case l4 => k_is); (case c4 => k_is); (case k4 => k_is); (case a5 => k_is); (case l5 => k_is); (case c5 => k_is); (case k5 => k_is); (case a6 => k_is); (case l6 => k_is); (case c6 => k_is); (case k6 => k_is); (case a7 => k_is); (case l7 => k_is); (case c7 => k_is); (case k7 => k_is); (case a8 => k_is); (case l8 => k_is); (case c8 => k_is); (case k8 => k_is); (case a9 => k_is); (case l9 => k_is); (case c9 => k_is); (case k9 => k_is); (case a10 => k_is); (case l10 => k_is); (case c10 => k_is); (case k10 => k_is); (case a11 => k_is); (case l11 => k_is); (case c11 => k_is); (case k11 => k_is); (case z0 => k_is); (case z1 => k_is); (case z2 => k_is); (case z3 => k_is); (case z4 => k_is); (case z5 => k_is); (case z6 => k_is); (case z7 => k_is); (case z8 => k_is); (case z9 => k_is)
