import PyProof.Rows.All
import Wide.All
import OpenK.AllK
import Wide.FinOn
import PySem.Challenge.RW_cornerlines_k01_what_are_points_and_line
import HandS.ForMost
import HandS.Wide
import HandS.EndBits
import HandS.AnyAll
import HandS.EndTab
import PyProof.ReprRoads
import KE.KRevSl
import HandS.IsInst
import HandS.TryOnly
import PyProof.GenCompD
import KE.KIsAll
import KE.DataMinMax
import HandS.TupSets
import KE.SortData
import HandS.Style
import KE.GoesNew
import KE.GoesMore
import HandS.Iter
import HandS.Zip
import HandS.Star
import HandS.Walk
import HandS.SortInts
import HandS.TupAny
import KE.GoesEnum
import PyProof.WalksPairs
import HandS.Lambda
import KE.KMinKey
import HandS.SortKw
import HandS.GenOver
import HandS.GenList
import HandS.DictTup
import PyProof.EqKinds
import PyProof.NeKinds
import PyProof.NeData
import PyProof.Rows.IntBool
import PyProof.Rows.ReprOcc
import PyProof.Rows.StrFit
set_option Elab.async false
set_option linter.all false
set_option maxRecDepth 100000
namespace Cl
open PySem PySem.Spec PyProof.Rows L2

/-! ### promises of defs that may be shown (repr) what stands on no guard's list -/
structure RG (k : Nat) (A : Around) : Prop where
  room : Room k A
  gd : A.guards = some []
theorem RG.mono {j k : Nat} {A : Around} (r : RG k A) (h : j ≤ k) : RG j A :=
  ⟨r.room.mono h, r.gd⟩
structure FnG (P : Program) (w : World) (K : PySem.W.Frag) (mg : Str → Option Value)
    (base : Heap) (CX : CXT) (k : Nat) (f : Addr) (fd : FuncData) (ps : List Str) (sp : Sp) : Prop where
  len : ∀ vs H Q E, sp vs H Q E → vs.length = ps.length
  run : ∀ A outer s H args us vs Q E, RG k A → Env0 P w K mg base A outer s H →
    BindsTo s fd args (ps.zip us) → Vals vs us → sp vs H Q E →
    codeAny (model P w) A (.call (.ref f) args) (CR CX outer P w H s Q E) s
section
variable {P : Program} {w : World} {K : PySem.W.Frag} {mg : Str → Option Value} {base : Heap} {CX : CXT}
theorem toG {k : Nat} {f : Addr} {fd : FuncData} {ps : List Str} {sp : Sp}
    (F : FnOk P w K mg base CX k f fd ps sp) : FnG P w K mg base CX k f fd ps sp :=
  ⟨F.len, fun A outer s H args us vs Q E r => F.run A outer s H args us vs Q E r.room⟩

/-- a def with what its body does, where no guard is set -/
theorem okG {x qual : Str} {st : Stmt} {f : Addr} {fd : FuncData} {N ps : List Str} {k : Nat} {sp : Sp}
    (F : Fun K x qual st f fd) (S : FnScope N ps (defScope st))
    (len : ∀ vs H Q E, sp vs H Q E → vs.length = ps.length)
    (body : ∀ (cdv : Value) (A : Around) (outer : List Env) (s : Shared) (H : Hp) (vs : List V) (Q : VK) (E : XK),
      RG k (A.deeper (envOfC qual (defScope st) s.heap.objs.size f cdv)) → sp vs H Q E →
      ∃ t, PSs (cxOf CX0 P w K mg base N qual (defScope st) f cdv A outer s H E).nox (defBody st) t ∧
        t { nx := fun _ H' => Q .non H', rt := Q } (start N vs) H) :
    FnG P w K mg base CX0 (k + 1) f fd ps sp := by
  obtain ⟨oc, od, kV, doc, pm, an, cdv, ct, osl, rfl, lk, hcd⟩ := F.ex
  constructor
  · exact len
  intro A outer s H args us vs Q E hr e0 hb r hsp
  have nvs := len _ _ _ _ hsp
  have keepB : ∀ b o, base.get? b = some o → s.heap.get? b = some o := fun b o z => (e0.bs b o z).1
  have inK : K.In s.heap := e0.mod.kin.keeps keepB
  have nolim : s.heap.NoLimit := e0.mod.nolimit.keeps keepB
  have kinds : ∀ y ∈ ps.zip us, (defScope st).names.lookup y.1 = some .local ∨
      ((defScope st).names.lookup y.1 = some .cell ∧
        ((cellsFrom (s.heap.objs.size + 1) (defScope st).names []).lookup y.1).isSome = true) := by
    rintro ⟨n, v⟩ hy
    rcases S.par n (List.of_mem_zip hy).1 with z | z
    · exact .inl z
    · exact .inr ⟨z, PySem.W.cellsFrom_some _ _ _ (.inl z)⟩
  refine codeAny_call_function hr.room.depth (inK _ _ lk) rfl S.co S.gen rfl
    (PySem.W.codeRec_of inK hcd) (hb _ _ _ _ ?_)
  refine wpAny_newFunctionEnv_cells S.kind kinds fun env he s1 x => ?_
  subst he
  refine ⟨nolim.keeps x.toInCall.keep, codeAny_func ?_⟩
  have hr2 : RG k (A.deeper (envOfC qual (defScope st) s.heap.objs.size f cdv)) := ⟨hr.room.deeper _, hr.gd⟩
  obtain ⟨t, ht, hq⟩ := body cdv A outer s H vs Q E hr2 hsp
  have I : Inv (cxOf CX0 P w K mg base N qual (defScope st) f cdv A outer s H E) [] (start N vs) H s1 :=
    inv_start S hr.room.hd e0 nvs r x
  refine wpAny_mono (ht.nox.run [] s1 (start N vs) H _ I hq) (fun fl s' hs => ?_) fun _ _ z => z
  match fl, hs with
  | .ret u, ⟨v, σ', H', J, rv, q⟩ => exact ⟨v, H', J.os, J.bare, J.base, J.hok, rv, q⟩
  | .next, ⟨σ', H', J, q⟩ => exact ⟨V.non, H', J.os, J.bare, J.base, J.hok, rfl, q⟩
  | .brk, ⟨_, _, _, q⟩ => exact q.elim
  | .cont, ⟨_, _, _, q⟩ => exact q.elim
end

section
variable {X : Cx} {CX : CXT} {k : Nat} {f : Addr} {fd : FuncData} {ps : List Str} {sp : Sp} {dvs : List V}
  {ds : List Value} {E : XK} {x : Str} {p pos : Pos} {e : Expr} {es : List Expr} {t : TA}
/-- f(e, ..) of such a def -/
theorem callG (F : FnG X.prog X.w X.K X.mg X.base CX k f fd ps sp) (hr : RG k X.A) (hg : Gl X x)
    (hm : X.mg x = some (.ref f)) (hk : PySem.W.keepIn X.K (.ref f) = true) (hb : Binds X.K fd ps ds)
    (hd : Vals dvs ds) (hx : Passes CX X E) (ha : PA X (e :: es) t)
    (hdb : (x == ("__debug__" : Str)) = false := by decide)
    (he : starEach (e :: es) X.env = (false, eval e X.env) :: starEach es X.env := by rfl)
    (hpl : (backTo pos (starEach es X.env)).any (·.1) = false := by rfl) :
    PE X (.Call (.Name x p) (e :: es) [] pos) (tCall sp dvs E t) := by
  constructor
  intro pins s σ H Q I h
  refine wpAny_Call_Name_kw (ld_glob I hg hm ?_ hdb)
  refine PySem.W.callWith_K (h₀ := X.base) I.ok.mod.kin hk ?_ he hpl
  refine thn (ha.run pos pins s σ H _ I h) fun us s1 ⟨vs, H1, I1, r, q⟩ => ⟨I1.kIn, ?_⟩
  have r2 : Vals (vs ++ dvs) (us ++ ds) := r.append hd
  have n2 : (us ++ ds).length = ps.length := r2.length.symm.trans (F.len _ _ _ _ q)
  have run := F.run X.A X.stack s1 H1 ⟨us, []⟩ (us ++ ds) (vs ++ dvs) Q E hr I1.env0 (hb s1 us I1.kIn n2) r2 q
  refine wpAny_call (codeAny_mono run fun res s' hq => ?_)
  match res, hq with
  | .error ee, hq => exact hx pins σ H1 s1 ee s' I1 hq
  | .ok (.ret u), hq => exact I1.after hq
  | .ok .next, hq => exact hq.elim
  | .ok .brk, hq => exact hq.elim
  | .ok .cont, hq => exact hq.elim
end

/-! ### repr of data -/
section
variable {X : Cx}
/-- what repr asks of a datum that stands at v -/
def rRepr (K : PySem.W.Frag) : List V → Hp → VK → Prop := fun xs H Q => ∃ v d, xs = [v] ∧ Dp K H v d ∧
  d.showable = true ∧ d.hasDict = false ∧ d.depth ≤ 60 ∧ d.shown.length ≤ sizeLine ∧ Q (.str d.shown) H
theorem call_reprD (hg : X.A.guards = some []) (hu : X.A.units + 64 < cLine) : CallR X (.builtin "repr") (rRepr X.K) := by
  intro pins s σ H xs us Q I r h
  obtain ⟨v, d, rfl, hd, hs, hn, hdp, hl, q⟩ := h
  obtain ⟨u, rfl, ru⟩ := vals1 r
  cases hd with
  | non => cases ru; exact PySem.P.repr_of_none ⟨.str _, H, I.tok _, ⟨_, rfl⟩, q⟩
  | bl b => cases ru; exact PySem.P.repr_of_bool ⟨.str _, H, I.tok _, ⟨_, rfl⟩, q⟩
  | int i => obtain ⟨t, rfl⟩ := ru; exact PySem.P.repr_of_int (by simpa [PyData.showable] using hs) ⟨.str _, H, I.tok _, ⟨_, rfl⟩, q⟩
  | str x => obtain ⟨t, rfl⟩ := ru; exact PySem.P.repr_of_str ⟨.str _, H, I.tok _, ⟨_, rfl⟩, q⟩ (by simpa [PyData.shown] using hl)
  | lst h1 h2 =>
    cases ru
    obtain ⟨as, rd⟩ := Dp.reads I _ _ _ (Dp.lst h1 h2) rfl
    exact repr_of_reads' rd hs (fun z => by rw [hn] at z; cases z) hg (by omega) (fun _ _ z => z) (fun h' u tk hk => ⟨.str _, H, I.kept hk, ⟨_, rfl⟩, q⟩) hl
  | tup h1 h2 =>
    cases ru
    obtain ⟨as, rd⟩ := Dp.reads I _ _ _ (Dp.tup h1 h2) rfl
    exact repr_of_reads' rd hs (fun z => by rw [hn] at z; cases z) hg (by omega) (fun _ _ z => z) (fun h' u tk hk => ⟨.str _, H, I.kept hk, ⟨_, rfl⟩, q⟩) hl
end
/-! ### the end: the law's call, from a promise of this kind -/
theorem endG {l : PySem.W.OpenLaw} {n k : Nat} {q : Program} {loose : List Str} {XP : (Str → Option Value) → Heap → Prop}
    {YP : World → Heap → Prop} {d : DefRec} {K : Params → PySem.W.Frag} {sp : World → Sp} {x : Str}
    (hn : l.most = some n) (hn2 : n ≤ sizeLine) (hdf : d.params.defaults = []) (hr : RG k callerA)
    (hY : ∀ (w : World) (h : Heap), YP w h → (K w.params).In h)
    (F : ∀ (w : World) (mg : Str → Option Value) (fa : Addr) (h : Heap), (K w.params).In h → h.Ns mainGlobals mg →
      mg d.name = some (.ref fa) → ∃ fd : FuncData, (∀ (s : Shared) (u : Value), BindsTo s fd ⟨[u], []⟩ [(x, u)]) ∧
        ∀ base : Heap, (K w.params).In base → base.Ns mainGlobals mg → FnG l.prog w (K w.params) mg base CX0 k fa fd [x] (sp w))
    (hsp : ∀ (w : World) (H : Hp) (a : Addr) (ns : List Int), ns.length ≤ n → (∀ z ∈ ns, Builtin.Int.intBits z ≤ 1048576) →
      Only H → SqL (K w.params) H a (ns.map V.int) → sp w [.ref a] H (fun v _ => v = .bl true) E0) :
    PySem.W.WalkO q loose XP YP l.row.toRowW d [] (fun f vs => PySem.call f vs) := by
  refine Att.attach_callB hn hdf fun w s₀ s1 mg mb fa o pm cd doc a us ns G Y ho hd hcd hmg obj hints nlen bits gens => ?_
  have inK : (K w.params).In s1.heap := hY w _ Y
  obtain ⟨fd, bind, hF⟩ := F w mg fa _ inK G.T.g hmg
  have rv := vals_ints hints
  have nv : us.length = ns.length := hints.length
  have go : ∀ H : Hp, Only H → SqL (K w.params) H a (ns.map V.int) → HOk l.prog w H s1.heap → (∀ b, H b ≠ none → b = a) →
      (H a ≠ none → (K w.params).lookup a = none) → codeAny (model l.prog w) callerA (.call (.ref fa) ⟨[.ref a], []⟩)
        (fun r s' => r = .ok (.ret (.bool true)) ∧ OldK s1.heap s'.heap ∧ s'.os = s1.os ∧ AllBare s'.gens) s1 := by
    intro H only hS hok atA offK
    have none_or : ∀ b, H b = none ∨ b = a := fun b => by
      cases z : H b with
      | none => exact .inl rfl
      | some u => exact .inr (atA b (by rw [z]; intro y; cases y))
    have left : ∀ {b : Addr} {o : Obj}, s1.heap.get? b = some o → H b = none → (hidT s1.heap H).get? b = some o :=
      fun e z => hidT_get e z
    have notA : ∀ {b : Addr} {o : Obj} {es : Array DictEntry} {ep : Nat},
        s1.heap.get? b = some o → o.data = .dict es ep → H b = none := fun {b o es ep} e z => by
      rcases none_or b with y | rfl
      · exact y
      · rw [obj] at e
        cases e
        cases (show Data.seq us.toArray _ = Data.dict es ep from z)
    have spaces : ∀ {b : Addr} {m : Str → Option Value}, s1.heap.Ns b m → (hidT s1.heap H).Ns b m :=
      fun {b m} ⟨o, es, ep, e, z, r⟩ => ⟨o, es, ep, left e (notA e z), z, r⟩
    have inB : (K w.params).In (hidT s1.heap H) := fun b o e => left (inK b o e) (by
      rcases none_or b with y | rfl
      · exact y
      · cases z : H b with
        | none => rfl
        | some u =>
          rw [offK (by rw [z]; intro y; cases y)] at e
          cases e)
    have md : Mod (K w.params) mg (hidT s1.heap H) := by
      obtain ⟨mc, c1, c2⟩ := G.T.nolimit
      exact ⟨inB, spaces G.T.g, ⟨mb, spaces G.T.b, G.T.builtins⟩, ⟨mc, spaces c1, c2⟩⟩
    have e0 : Env0 l.prog w (K w.params) mg (hidT s1.heap H) callerA [] s1 H :=
      ⟨rfl, md, fun b o e => of_hidT e, Nat.le_of_eq (hidT_size _ _), trivial, fun b z => (nomatch z), hok, .of_eq gens⟩
    have run := (hF _ inB (spaces G.T.g)).run callerA [] s1 H ⟨[.ref a], []⟩ [.ref a] [.ref a] _ _ hr e0
      (bind s1 (.ref a)) (.cons rfl .nil) (hsp w H a ns nlen bits only hS)
    refine codeAny_mono run fun res s' h => ?_
    match res, h with
    | .error e, h => exact h.elim
    | .ok .next, h => exact h.elim
    | .ok .brk, h => exact h.elim
    | .ok .cont, h => exact h.elim
    | .ok (.ret u), ⟨v, H', os, bare, un, hok', r', q⟩ =>
      have q' : v = .bl true := q
      subst q'
      have r2 : u = Value.bool true := r'
      subst r2
      refine ⟨rfl, OldK.of_keep fun b o e => ?_, os, bare⟩
      cases z : H b with
      | none => exact un.keep b o e z (fun y => (nomatch y)) (fun y => (nomatch y))
      | some u =>
        rcases only b with y | ⟨ob, xs, y⟩
        · rw [z] at y
          cases y
        · obtain ⟨e1, _⟩ := hok b _ y
          obtain ⟨e2, _⟩ := hok' b _ (un.frzs b ob _ y)
          rw [e] at e1
          cases e1
          exact e2
  have small : ns.length ≤ sizeLine := Nat.le_trans nlen hn2
  cases hk : (K w.params).lookup a with
  | some o =>
    have e := inK a o hk
    rw [obj] at e
    cases e
    refine go (fun _ => none) (fun _ => .inl rfl) (.inr ⟨_, us.toArray, _, hk, rfl, rfl, rfl, ?_, by simpa using rv⟩)
      (fun b u z => nomatch z) (fun b z => absurd rfl z) fun z => absurd rfl z
    rw [List.size_toArray, nv]
    exact small
  | none =>
    let ob : Obj := { cls := .type "list", data := .seq us.toArray }
    have at_ : ∀ b, (fun c => if c = a then some (HO.frz ob (.lst (ns.map V.int))) else none : Hp) b ≠ none → b = a := fun b z => by
      by_cases y : b = a
      · exact y
      · exact absurd (if_neg y) z
    refine go (fun c => if c = a then some (.frz ob (.lst (ns.map V.int))) else none) (fun b => ?_) (.inl (.inr ⟨ob, if_pos rfl⟩))
      (fun b u z => ?_) at_ fun _ => hk
    · by_cases y : b = a
      · exact .inr ⟨_, _, if_pos y⟩
      · exact .inl (if_neg y)
    · obtain rfl := at_ b (by rw [z]; intro y; cases y)
      have z' := (if_pos rfl).symm.trans z
      cases z'
      exact ⟨obj, by rw [List.length_map]; exact small, us, _, rv, obj⟩
end Cl

namespace Cl
open PySem PySem.Spec PyProof.Rows L2
/-- what stood there stands there; a code object's table may have grown -/
def Keep (x : Option HO) (o : HO) : Prop := match o with
  | .tbl ps => TriplesOk ps.toList → ∃ ps' : Array Value, x = some (.tbl ps') ∧ TriplesOk ps'.toList
  | o => x = some o
theorem Keep.of {x : Option HO} {o : HO} (h : x = some o) : Keep x o := by
  cases o <;> first | exact h | exact fun t => ⟨_, h, t⟩
def Same (H H' : Hp) : Prop := ∀ b o, H b = some o → Keep (H' b) o
theorem Same.refl (H : Hp) : Same H H := fun _ _ e => .of e
theorem Same.trans {H H1 H2 : Hp} (a : Same H H1) (b : Same H1 H2) : Same H H2 := fun c o h => by
  have k := a c o h
  cases o with
  | tbl ps => exact fun t => let ⟨ps1, e1, t1⟩ := k t; b c (.tbl ps1) e1 t1
  | _ => exact b c _ k
theorem Same.upN {H H' : Hp} {p : Addr} {o : HO} (s : Same H H') (h : H p = none) : Same H (upd H' p o) := fun b x e => by
  rw [upd_ne (ne_of_none e h)]
  exact s b x e
theorem same_new {H : Hp} {p : Addr} {o : HO} (h : H p = none) : Same H (upd H p o) := (Same.refl H).upN h
/-- what is handed on where a new object stands at its place -/
def New (H : Hp) (o : HO) (Q : VK) : Prop := ∀ p H', H p = none → Same H H' → H' p = some o → Q (.ref p) H'
theorem New.go {H : Hp} {o : HO} {Q : VK} (h : New H o Q) : ∀ p, H p = none → Q (.ref p) (upd H p o) :=
  fun p n => h p _ n (same_new n) upd_same
section
variable {X : Cx} {e : Expr} {te : TE}
theorem valsRev : ∀ {xs : List V} {us : List Value}, Vals xs us → Vals xs.reverse us.reverse
  | _, _, .nil => .nil
  | _, _, .cons r t => by
    rw [List.reverse_cons, List.reverse_cons]
    exact (valsRev t).append (.cons r .nil)
/-- xs[::-1] of a list -/
def tRevL (K : PySem.W.Frag) (te : TE) : TE := fun σ H Q => te σ H fun x H1 => ∃ a xs, x = .ref a ∧ SqL K H1 a xs ∧ New H1 (.lst xs.reverse) Q
theorem pe_revL {p0 p1 p2 pos : Pos} {j : Nat} (he : PE X e te) :
    PE X (.Subscript e (.Slice none none (some (.UnaryOp .USub (.Constant (.int 1) j p0) p1)) p2) pos) (tRevL X.K te) := by
  constructor
  intro pins s σ H Q I h
  refine Subscript_ (thn (he.run pins s σ H _ I h) fun v s1 ⟨x, H1, I1, r1, a, xs, hx, hl, q⟩ => ?_)
  subst hx
  cases r1
  refine wpAny_Slice ?_
  rw [evalPart_none]
  refine wpAny_pure ?_
  refine wpAny_pure ?_
  rw [evalPart_some]
  have hneg : PE X (.UnaryOp .USub (.Constant (.int 1) j p0) p1) _ := pe_un un_neg pe_int
  refine thn (hneg.run pins s1 σ H1 (fun y H2 => y = .int (-1) ∧ H2 = H1) I1 ⟨1, rfl, rfl, rfl⟩) fun u s2 ⟨y, H2, I2, ry, hy, hH⟩ => ?_
  subst hy hH
  obtain ⟨t, rfl⟩ := ry
  obtain ⟨its, r, ht, hz⟩ := I2.list hl
  have I4 : Inv X pins σ H2 { s2 with heap := s2.heap.push { cls := .type "slice", data := .fields #[.none, .none, .int (-1) t] } } :=
    I2.kept (t' := s2.toks) fun b ob q => Heap.get?_push_of_some _ q
  obtain ⟨its, r, ht, hz⟩ := I4.list hl
  have hlen := r.length
  refine tail_any ht.isList.typeIs slot_list_getitem.lookup ?_ (by with_unfolding_all rfl)
  refine wpAny_getItem_list_slice ht.isList (Heap.IsSliceOf.new ..) .none .none (.int (-1) t) (by decide) ?_ (by rw [List.size_toArray] <;> omega)
  rw [PySem.W.krv_pick]
  refine ⟨.ref _, _, I4.laid (t' := s2.toks) (o := .lst xs.reverse) (fun b ob q => Heap.get?_push_of_some _ q) (Nat.le_refl _) ?_, rfl, q.go _ (I4.hok.fresh (Nat.le_refl _))⟩
  exact ⟨by rw [List.length_reverse]; exact hz, _, 0, valsRev r, Heap.get?_push_size _ rfl⟩
end
end Cl

namespace Cl
open PySem PySem.Spec PyProof.Rows L2

/-! ### a def of the text, with its promise -/
structure Def (P : Program) (w : World) (K : PySem.W.Frag) (mg : Str → Option Value) (base : Heap)
    (k : Nat) (x : Str) (ps : List Str) (sp : Sp) : Prop where
  ex : ∃ f fd, FnG P w K mg base CX0 k f fd ps sp ∧ mg x = some (.ref f) ∧
    PySem.W.keepIn K (.ref f) = true ∧ Binds K fd ps []
section
variable {X : Cx} {k : Nat} {ps : List Str} {sp : Sp} {x : Str} {p pos : Pos} {e : Expr} {es : List Expr} {t : TA}
theorem callD (D : Def X.prog X.w X.K X.mg X.base k x ps sp) (hr : RG k X.A) (ha : PA X (e :: es) t)
    (hg : Gl X x := by rfl) (hdb : (x == ("__debug__" : Str)) = false := by decide)
    (he : starEach (e :: es) X.env = (false, eval e X.env) :: starEach es X.env := by rfl)
    (hpl : (backTo pos (starEach es X.env)).any (·.1) = false := by rfl) :
    PE X (.Call (.Name x p) (e :: es) [] pos) (tCall sp [] E0 t) := by
  obtain ⟨f, fd, F, hm, hk, hb⟩ := D.ex
  exact callG F hr hg hm hk hb .nil pass0 ha hdb he hpl
end
section
variable {P : Program} {w : World} {K : PySem.W.Frag} {mg : Str → Option Value} {base : Heap}
theorem Def.mk1 {k : Nat} {x qual : Str} {st : Stmt} {f : Addr} {fd : FuncData} {ps : List Str} {sp : Sp}
    (F : Fun K x qual st f fd) (G : FnG P w K mg base CX0 k f fd ps sp) (hm : mg x = some (.ref f))
    (b : Binds K fd ps []) : Def P w K mg base k x ps sp := ⟨f, fd, G, hm, F.kp, b⟩
end

/-! ### heaps -/
theorem Same.rfl' {H : Hp} : Same H H := .refl H
/-! ### rules that hand on a heap in which a new object stands -/
section
variable {X : Cx} {es : List Expr} {e : Expr} {t : TA} {te : TE} {pos : Pos}
def tTupN (t : TA) : TE := fun σ H Q => t σ H fun xs H1 => xs.length ≤ sizeLine ∧ New H1 (.tup xs) Q
def tLstN (t : TA) : TE := fun σ H Q => t σ H fun xs H1 => xs.length ≤ sizeLine ∧ New H1 (.lst xs) Q
theorem tupN {j} (h : PA X es t) : PE X (.Tuple es j pos) (tTupN t) := by
  constructor
  intro pins s σ H Q I hq
  refine wpAny_Tuple_spliced ?_
  refine thn (h.run pos pins s σ H _ I hq) fun us s1 ⟨xs, H1, I1, r, z, q⟩ => ⟨by rw [← r.length]; exact z, ?_⟩
  refine ⟨.ref s1.heap.objs.size, _, I1.laid (t' := s1.toks) (o := .tup xs) (fun b u e => Heap.get?_push_of_some _ e) (Nat.le_refl _) ?_, rfl,
    q.go _ (I1.hok.fresh (Nat.le_refl _))⟩
  exact ⟨z, us, r, ⟨_, Heap.get?_push_size _ rfl, rfl, _, rfl⟩⟩
theorem lstN (h : PA X es t) : PE X (.List es pos) (tLstN t) := by
  constructor
  intro pins s σ H Q I hq
  refine wpAny_List_spliced ?_
  refine thn (h.run pos pins s σ H _ I hq) fun us s1 ⟨xs, H1, I1, r, z, q⟩ => ⟨by rw [← r.length]; exact z, ?_⟩
  refine ⟨.ref s1.heap.objs.size, _, I1.laid (t' := s1.toks) (o := .lst xs) (fun b u e => Heap.get?_push_of_some _ e) (Nat.le_refl _) ?_, rfl,
    q.go _ (I1.hok.fresh (Nat.le_refl _))⟩
  exact ⟨z, us, 0, r, Heap.get?_push_size _ rfl⟩
def rSlLN (K : PySem.W.Frag) : V → Option Int → Option Int → Hp → VK → Prop := fun x lo hi H Q =>
  ∃ a xs, x = .ref a ∧ SqL K H a xs ∧ New H (.lst (cutV xs lo hi)) Q
theorem sl_listN : SlR X (rSlLN X.K) := fun pins s σ H x v vl vu lo hi sl Q I rx hs pl pu ⟨a, xs, h1, h2, q⟩ =>
  sl_list pins s σ H x v vl vu lo hi sl Q I rx hs pl pu ⟨a, xs, h1, h2, q.go⟩
def rSlTN (K : PySem.W.Frag) : V → Option Int → Option Int → Hp → VK → Prop := fun x lo hi H Q =>
  ∃ a xs, x = .ref a ∧ SqT K H a xs ∧ ¬ (HT.sIx xs.length 0 lo = 0 ∧ HT.sIx xs.length xs.length hi = xs.length) ∧ New H (.tup (cutV xs lo hi)) Q
theorem sl_tupN : SlR X (rSlTN X.K) := fun pins s σ H x v vl vu lo hi sl Q I rx hs pl pu ⟨a, xs, h1, h2, h3, q⟩ =>
  sl_tup pins s σ H x v vl vu lo hi sl Q I rx hs pl pu ⟨a, xs, h1, h2, h3, q.go⟩
theorem call_list_ofN : CallR X (.type "list") (fun xs H Q => ∃ p ys, xs = [.ref p] ∧ (SqL X.K H p ys ∨ SqT X.K H p ys) ∧ New H (.lst ys) Q) :=
  fun pins s σ H xs us Q I r ⟨p, ys, h1, h2, q⟩ => call_list_of pins s σ H xs us Q I r ⟨p, ys, h1, h2, q.go⟩
end
/-! ### cuts: what stands between two statements, or behind a part, by a word of one's own -/
section
variable {X : Cx} {st : Stmt} {rest : List Stmt} {t u : TS} {e : Expr} {te : TE} {tt : TT}
def tCut (t u : TS) : TS := fun D σ H => ∃ M : L2.St → Hp → Prop, t { D with nx := M } σ H ∧ ∀ σ' H', M σ' H' → u D σ' H'
theorem cutS (h1 : PS X st t) (h2 : PSs X rest u) : PSs X (st :: rest) (tCut t u) := by
  constructor
  rintro pins s σ H D I ⟨M, h, k⟩
  refine wpAny_execs_cons (thn (h1.run pins s σ H _ I h) fun f s1 q => ?_)
  match f, q with
  | .next, ⟨σ', H', I', q⟩ => exact h2.run pins s1 σ' H' D I' (k _ _ q)
  | .ret v, q => exact q
  | .brk, q => exact q
  | .cont, q => exact q
def tMid (te : TE) : TE := fun σ H Q => ∃ M : VK, te σ H M ∧ ∀ v H', M v H' → Q v H'
theorem cutE (h : PE X e te) : PE X e (tMid te) := ⟨fun pins s σ H Q I ⟨M, h1, k⟩ =>
  thn (h.run pins s σ H M I h1) fun v s1 ⟨x, H1, I1, r1, q1⟩ => ⟨x, H1, I1, r1, k _ _ q1⟩⟩
def tMidT (tt : TT) : TT := fun σ H Q => ∃ M : Bool → Hp → Prop, tt σ H M ∧ ∀ b H', M b H' → Q b H'
theorem cutT (h : PT X e tt) : PT X e (tMidT tt) := ⟨fun pins s σ H Q I ⟨M, h1, k⟩ =>
  thn (h.run pins s σ H M I h1) fun b s1 ⟨H1, I1, q1⟩ => ⟨H1, I1, k _ _ q1⟩⟩
end
def lcL {K : PySem.W.Frag} {a : Addr} {xs : List V} {g : TG} {tt : TT} {te : TE} {vs : List Nat} {σ : L2.St} {H1 : Hp} {D : Addr} {Qd : Hp → Prop}
    (Pv : Nat → Hp → Prop) (hD : H1 D = none) (h0 : ∀ H', Same H1 H' → H' D = some (.lst []) → Pv 0 H') (hl : ∀ i H, i ≤ xs.length → Pv i H → SqL K H a xs)
    (hs : ∀ i x H, xs[i]? = some x → Pv i H → g x (wipe σ vs) H fun σ2 H2 => wipe σ2 vs = wipe σ vs ∧ tt σ2 H2 fun b H3 =>
      if b = true then te σ2 H3 fun y H4 => ∃ acc, H4 D = some (.lst acc) ∧ acc.length < sizeLine ∧ Pv (i + 1) (upd H4 D (.lst (acc ++ [y]))) else Pv (i + 1) H3)
    (hd : ∀ H, Pv xs.length H → Qd H) :=
  lc_list (K := K) (a := a) (xs := xs) (g := g) (tt := tt) (te := te) (vs := vs) (σ := σ) (H1 := H1) (D := D) (Qd := Qd) Pv (h0 _ (same_new hD) upd_same) hl hs hd
def lcT {K : PySem.W.Frag} {a : Addr} {xs : List V} {g : TG} {tt : TT} {te : TE} {vs : List Nat} {σ : L2.St} {H1 : Hp} {D : Addr} {Qd : Hp → Prop}
    (Pv : Nat → Hp → Prop) (hD : H1 D = none) (h0 : ∀ H', Same H1 H' → H' D = some (.lst []) → Pv 0 H') (hl : ∀ i H, i ≤ xs.length → Pv i H → SqT K H a xs)
    (hs : ∀ i x H, xs[i]? = some x → Pv i H → g x (wipe σ vs) H fun σ2 H2 => wipe σ2 vs = wipe σ vs ∧ tt σ2 H2 fun b H3 =>
      if b = true then te σ2 H3 fun y H4 => ∃ acc, H4 D = some (.lst acc) ∧ acc.length < sizeLine ∧ Pv (i + 1) (upd H4 D (.lst (acc ++ [y]))) else Pv (i + 1) H3)
    (hd : ∀ H, Pv xs.length H → Qd H) :=
  lc_tup (K := K) (a := a) (xs := xs) (g := g) (tt := tt) (te := te) (vs := vs) (σ := σ) (H1 := H1) (D := D) (Qd := Qd) Pv (h0 _ (same_new hD) upd_same) hl hs hd
/-- the heap without the deck -/
def hide (d l : Addr) (H : Hp) : Hp := fun b => if b = d ∨ b = l then none else H b
theorem hide_at {d l b : Addr} {H : Hp} {o : HO} (h : hide d l H b = some o) : b ≠ d ∧ b ≠ l ∧ H b = some o := by
  unfold hide at h
  split at h
  · cases h
  · rename_i n
    exact ⟨fun e => n (.inl e), fun e => n (.inr e), h⟩
theorem hide_ne {d l b : Addr} {H : Hp} (h1 : b ≠ d) (h2 : b ≠ l) : hide d l H b = H b := by
  unfold hide
  rw [if_neg]
  rintro (e | e)
  · exact h1 e
  · exact h2 e
/-- the deck stands: a list of the script's rest, its number, its count -/
structure Deck (H : Hp) (d l : Addr) : Prop where
  ne : d ≠ l
  ex : ∃ (ns : List Int) (s c : Int), H d = some (.lst [.ref l, .int s, .int c]) ∧ H l = some (.lst (ns.map V.int)) ∧ ns.length ≤ 63
/-- the deck still stands, and all else that stood stands -/
structure Step (d l : Addr) (H H' : Hp) : Prop where
  deck : Deck H' d l
  same : Same (hide d l H) (hide d l H')
section
variable {d l p a : Addr} {H H' H2 : Hp} {o : HO} {K : PySem.W.Frag} {xs : List V}
theorem Deck.nd (D : Deck H d l) (h : H p = none) : p ≠ d ∧ p ≠ l := by
  obtain ⟨ns, s, c, h1, h2, _⟩ := D.ex
  exact ⟨(ne_of_none h1 h).symm, (ne_of_none h2 h).symm⟩
theorem Step.refl (D : Deck H d l) : Step d l H H := ⟨D, .refl _⟩
theorem Step.trans (A : Step d l H H') (B : Step d l H' H2) : Step d l H H2 := ⟨B.deck, A.same.trans B.same⟩
theorem Same.hide (S : Same H H') : Same (Cl.hide d l H) (Cl.hide d l H') := fun b x e => by
  obtain ⟨e1, e2, e3⟩ := hide_at e
  rw [hide_ne e1 e2]
  exact S b x e3
theorem Step.of (D : Deck H d l) (S : Same H H') : Step d l H H' := by
  obtain ⟨ns, s, c, h1, h2, h3⟩ := D.ex
  exact ⟨⟨D.ne, ns, s, c, S _ _ h1, S _ _ h2, h3⟩, S.hide⟩
theorem Step.new (D : Deck H d l) (h : H p = none) : Step d l H (upd H p o) := Step.of D (same_new h)
/-- a new object ahead of a step is there behind it -/
theorem Step.at (S : Step d l H H') (h1 : p ≠ d) (h2 : p ≠ l) (h : H p = some o) : Keep (H' p) o := by
  have e := S.same p o (by rw [hide_ne h1 h2]; exact h)
  rw [hide_ne h1 h2] at e
  exact e
theorem Step.tupH (S : Step d l H H') (D : Deck H d l) (h : H p = some (.tup xs)) : H' p = some (.tup xs) := by
  obtain ⟨ns, s, c, h1, h2, h3⟩ := D.ex
  exact S.at (ne_of h h1 (by intro z; cases z)) (ne_of h h2 (by intro z; cases z)) h
end
theorem dropLast_map (ns : List Int) : (ns.map V.int).dropLast = ns.dropLast.map V.int := by
  rw [List.map_dropLast]

/-! ### promises of the deck's defs -/
def spDeck (K : PySem.W.Frag) : Sp := fun vs H Q _ => ∃ (a : Addr) (ns : List Int), vs = [.ref a] ∧ SqL K H a (ns.map V.int) ∧ ns.length ≤ 63 ∧
  ∀ d l H', Same H H' → Deck H' d l → Q (.ref d) H'
def spDraw : Sp := fun vs H Q _ => ∃ (d l : Addr) (m : Int), vs = [.ref d, .int m] ∧ 0 < m ∧ m < 2 ^ 64 ∧ Deck H d l ∧
  ∀ v H', 0 ≤ v → v < m → Step d l H H' → Q (.int v) H'
theorem mulc {a b : Int} (h : -(2 ^ 64) < a ∧ a < 2 ^ 64) : CMul a b := .inl h
theorem mulr {a b : Int} (h : -(2 ^ 64) < b ∧ b < 2 ^ 64) : CMul a b := .inr h
theorem modlt {a m : Int} (h : 0 < m) (h2 : m ≤ 2 ^ 64) : -(2 ^ 64) < a % m ∧ a % m < 2 ^ 64 := by
  have := Int.emod_nonneg a (show m ≠ 0 by omega)
  have := Int.emod_lt_of_pos a h
  omega
theorem shapedInts (ns : List Int) : SeqAt.shaped (.list (ns.map PyData.int)) = true := by
  have h1 : ∀ ns : List Int, PyData.canLayAll0 (ns.map PyData.int) = true := by
    intro ns
    induction ns with
    | nil => rfl
    | cons n r ih => simp [PyData.canLayAll0, PyData.canLay0, ih]
  have h2 : ∀ ns : List Int, PyData.depthAll (ns.map PyData.int) = 0 := by
    intro ns
    induction ns with
    | nil => rfl
    | cons n r ih => simp [PyData.depthAll, PyData.depth, ih]
  simp [SeqAt.shaped, PyData.canLay0, PyData.depth, h1, h2]
theorem dpInts {K : PySem.W.Frag} {H : Hp} : ∀ ns : List Int, DpAll K H (ns.map V.int) (ns.map PyData.int)
  | [] => .nil
  | n :: r => .cons (.int n) (dpInts r)
theorem eqvNil (ns : List Int) : PyData.eqv (.list (ns.map PyData.int)) (.list []) = ns.isEmpty := by
  cases ns <;> simp [PyData.eqv, PyData.eqvAll]

/-! ### data whose repr is short -/
structure Fine (d : PyData) : Prop where
  lv : d.leavesShort 200 = true
  sh : d.showable = true
  nd : d.hasDict = false
  dp : d.depth ≤ 60
  bk : d.bulk ≤ 80000
def okI (i : Int) : Prop := i.natAbs < 2 ^ 190
theorem okI.log {i : Int} (h : okI i) : i.natAbs.log2 < 190 := PySem.Flt.log2_lt_of (by decide) h
theorem okI.len {i : Int} (h : okI i) : (PyData.shown (.int i)).length ≤ 200 := by
  have e := int_text_length_le (k := 190) (by decide) h.log
  show (Str.ofString (toString i)).length ≤ 200
  rw [PySem.ofString_length]
  omega
theorem okI.of {i : Int} (h1 : -(2 ^ 189) < i) (h2 : i < 2 ^ 189) : okI i := by
  unfold okI
  omega
def rReprF (K : PySem.W.Frag) : List V → Hp → VK → Prop := fun xs H Q => ∃ v d, xs = [v] ∧ Dp K H v d ∧ Fine d ∧ Q (.str d.shown) H
theorem call_repr {X : Cx} (hg : X.A.guards = some []) (hu : X.A.units + 64 < cLine) : CallR X (.builtin "repr") (rReprF X.K) :=
  fun pins s σ H xs us Q I r ⟨v, d, h1, h2, f, q⟩ => call_reprD hg hu pins s σ H xs us Q I r ⟨v, d, h1, h2, f.sh, f.nd, f.dp, by
    have e := PyData.shown_le_bulk 200 (by decide) d f.lv
    have e2 := f.bk
    have e3 : sizeLine = 16777216 := by decide
    omega, q⟩
theorem fineInts2 {i j : Int} (h1 : okI i) (h2 : okI j) : Fine (.tuple [.int i, .int j]) := by
  have a1 := h1.len
  have a2 := h2.len
  have b1 : i.natAbs.log2 < 1920 := by have := h1.log; omega
  have b2 : j.natAbs.log2 < 1920 := by have := h2.log; omega
  constructor
  · simp [PyData.leavesShort, PyData.leavesShortAll, a1, a2]
  · simp [PyData.showable, PyData.showableAll, b1, b2]
  · rfl
  · simp [PyData.depth, PyData.depthAll]
  · simp [PyData.bulk, PyData.bulkAll]
theorem fineBool (b : Bool) : Fine (.bool b) := by constructor <;> first | rfl | (cases b <;> decide)
end Cl

namespace Cl
open PySem PySem.Spec PyProof.Rows L2
/-! ### the nearest whole number -/
def nr (n d : Int) : Int := (2 * n + d) / (2 * d)
theorem nr_law {n g : Int} (h : 0 < g) : nr n g = if 2 * n < (2 * (n / g) + 1) * g then n / g else n / g + 1 := by
  have e1 := Int.mul_ediv_add_emod n g
  have e2 := Int.emod_nonneg n (show g ≠ 0 by omega)
  have e3 := Int.emod_lt_of_pos n h
  generalize n / g = k at *
  generalize n % g = r at *
  subst e1
  unfold nr
  have c1 : (2 * k + 1) * g = 2 * (g * k) + g := by rw [Int.add_mul, Int.mul_assoc, Int.mul_comm k g]; omega
  have c2 : 2 * (g * k + r) + g = (2 * r + g) + (2 * g) * k := by rw [Int.mul_assoc 2 g k]; omega
  rw [c1, c2, Int.add_mul_ediv_left _ _ (show 2 * g ≠ 0 by omega)]
  split
  · rw [Int.ediv_eq_zero_of_lt (by omega) (by omega)]; omega
  · have c3 : 2 * r + g = (2 * r - g) + (2 * g) * 1 := by omega
    rw [c3, Int.add_mul_ediv_left _ _ (show 2 * g ≠ 0 by omega), Int.ediv_eq_zero_of_lt (by omega) (by omega)]; omega
theorem nr_move {n d g : Int} (h : 0 < g) : nr (n + d * g) g = nr n g + d := by
  unfold nr
  have c : 2 * (n + d * g) + g = (2 * n + g) + (2 * g) * d := by
    rw [Int.mul_add, Int.mul_assoc 2 g d, Int.mul_comm d g]; omega
  rw [c, Int.add_mul_ediv_left _ _ (show 2 * g ≠ 0 by omega)]
theorem nr_times {n g t : Int} (ht : 0 < t) : nr (n * t) (g * t) = nr n g := by
  unfold nr
  have c1 : 2 * (n * t) + g * t = (2 * n + g) * t := by rw [Int.add_mul, Int.mul_assoc]
  have c2 : 2 * (g * t) = (2 * g) * t := by rw [Int.mul_assoc]
  rw [c1, c2, Int.mul_ediv_mul_of_pos_left _ _ ht]
theorem nr_ok {n g B : Int} (h : 0 < g) (h1 : -B < n) (h2 : n < B) (hB : 0 < B) : -(B + 1) ≤ nr n g ∧ nr n g ≤ B + 1 := by
  unfold nr
  have hg : 0 < 2 * g := by omega
  constructor
  · refine Int.le_ediv_of_mul_le hg ?_
    have : B * 1 ≤ B * g := Int.mul_le_mul_of_nonneg_left (by omega) (by omega)
    have e : -(B + 1) * (2 * g) = -(2 * (B * g)) - 2 * g := by rw [Int.neg_mul, Int.add_mul, Int.mul_left_comm B 2 g]; omega
    rw [e]; omega
  · refine Int.ediv_le_of_le_mul hg ?_
    have : B * 1 ≤ B * g := Int.mul_le_mul_of_nonneg_left (by omega) (by omega)
    have e : (B + 1) * (2 * g) = 2 * (B * g) + 2 * g := by rw [Int.add_mul, Int.mul_left_comm B 2 g]; omega
    rw [e]; omega
def spNear : Sp := fun vs H Q _ => ∃ n d : Int, vs = [.int n, .int d] ∧ 0 < d ∧ d < 2 ^ 60 ∧ Q (.int (nr n d)) H
def spCorner (K : PySem.W.Frag) : Sp := fun vs H Q _ => ∃ (g : Int) (a : Addr) (x y : Int), vs = [.int g, .ref a] ∧ SqT K H a [.int x, .int y] ∧ 0 < g ∧ g < 2 ^ 60 ∧
  New H (.tup [.int (nr x g), .int (nr y g)]) Q

def spLaw (K : PySem.W.Frag) : Sp := fun vs H Q _ => ∃ (a : Addr) (ns : List Int), vs = [.ref a] ∧ SqL K H a (ns.map V.int) ∧ ns.length ≤ 63 ∧ ∀ H', Q (.bl true) H'
section
variable {X : Cx}
def CDivX (_ j : Int) : Prop := j ≠ 0 ∧ j.natAbs.log2 < 9000
theorem op_fdivX : OpR X (binaryOp .FloorDiv) (rI CDivX fun i j => .int (i.fdiv j)) :=
  opI fun i j _ _ _ _ _ hc q => floordiv_int hc.1 q (.inl (PyProof.noPylong_of_log2 hc.2))
end
/-! ### the greatest number that parts -/
def spGp : Sp := fun vs H Q _ => ∃ n m : Int, vs = [.int n, .int m] ∧ Q (.int (Int.gcd n m : Nat)) H
def gpar (n m d : Int) : Int := (Int.gcd (Int.gcd n m : Nat) d : Nat)
def spP (n m d : Int) : Int := if d < 0 then -gpar n m d else gpar n m d
def spSpotOf : Sp := fun vs H Q _ => ∃ n m d : Int, vs = [.int n, .int m, .int d] ∧ d ≠ 0 ∧ d.natAbs < 2 ^ 200 ∧
  New H (.tup [.int (n / spP n m d), .int (m / spP n m d), .int (d / spP n m d)]) Q
theorem gpar_dvd (n m d : Int) : gpar n m d ∣ n ∧ gpar n m d ∣ m ∧ gpar n m d ∣ d := by
  unfold gpar
  have h1 : (Int.gcd (Int.gcd n m : Nat) d : Int) ∣ (Int.gcd n m : Nat) := Int.gcd_dvd_left ..
  refine ⟨Int.dvd_trans h1 (Int.gcd_dvd_left ..), Int.dvd_trans h1 (Int.gcd_dvd_right ..), Int.gcd_dvd_right ..⟩
theorem gpar_pos {n m d : Int} (h : d ≠ 0) : 0 < gpar n m d := by
  unfold gpar
  have : 0 < Int.gcd (Int.gcd n m : Nat) d := Int.gcd_pos_of_ne_zero_right _ h
  omega
theorem gpar_le {n m d : Int} (h : d ≠ 0) : gpar n m d ≤ d.natAbs := by
  have := (gpar_dvd n m d).2.2
  have h2 : gpar n m d ∣ (d.natAbs : Int) := Int.dvd_natAbs.mpr this
  exact Int.le_of_dvd (by omega) h2
theorem spP_dvd (n m d : Int) : spP n m d ∣ n ∧ spP n m d ∣ m ∧ spP n m d ∣ d := by
  obtain ⟨h1, h2, h3⟩ := gpar_dvd n m d
  unfold spP
  split
  · exact ⟨Int.neg_dvd.mpr h1, Int.neg_dvd.mpr h2, Int.neg_dvd.mpr h3⟩
  · exact ⟨h1, h2, h3⟩
theorem spP_ne {n m d : Int} (h : d ≠ 0) : spP n m d ≠ 0 := by
  have := gpar_pos (n := n) (m := m) h
  unfold spP
  split <;> omega
/-- the spot of d above nought: some part that all three have, taken out -/
theorem spot_pos {n m d : Int} (h : 0 < d) : ∃ p : Int, 0 < p ∧ n = n / spP n m d * p ∧ m = m / spP n m d * p ∧ d = d / spP n m d * p ∧ 0 < d / spP n m d ∧ d / spP n m d ≤ d := by
  obtain ⟨h1, h2, h3⟩ := gpar_dvd n m d
  have h0 := gpar_pos (n := n) (m := m) (d := d) (by omega)
  have e : spP n m d = gpar n m d := if_neg (by omega)
  rw [e]
  have e3 := Int.ediv_mul_cancel h3
  refine ⟨gpar n m d, h0, (Int.ediv_mul_cancel h1).symm, (Int.ediv_mul_cancel h2).symm, e3.symm, ?_, Int.ediv_le_self _ (by omega)⟩
  exact Int.ediv_pos_of_pos_of_dvd h (by omega) h3
theorem nr_spot {n m d g : Int} (h : 0 < d) : nr (n / spP n m d) (d / spP n m d * g) = nr n (d * g) ∧ nr (m / spP n m d) (d / spP n m d * g) = nr m (d * g) := by
  obtain ⟨p, hp, e1, e2, e3, _⟩ := spot_pos (n := n) (m := m) h
  have c : d * g = d / spP n m d * g * p := by
    conv => lhs; rw [e3]
    rw [Int.mul_assoc, Int.mul_assoc, Int.mul_comm p g]
  have k1 := nr_times (n := n / spP n m d) (g := d / spP n m d * g) hp
  have k2 := nr_times (n := m / spP n m d) (g := d / spP n m d * g) hp
  rw [← e1, ← c] at k1
  rw [← e2, ← c] at k2
  exact ⟨k1.symm, k2.symm⟩
theorem nr_lies {n g : Int} (h : 0 < g) : (2 * nr n g - 1) * g ≤ 2 * n ∧ 2 * n < (2 * nr n g + 1) * g := by
  unfold nr
  have e1 := Int.mul_ediv_add_emod (2 * n + g) (2 * g)
  have e2 := Int.emod_nonneg (2 * n + g) (show 2 * g ≠ 0 by omega)
  have e3 := Int.emod_lt_of_pos (2 * n + g) (show 0 < 2 * g by omega)
  generalize (2 * n + g) / (2 * g) = k at *
  generalize (2 * n + g) % (2 * g) = r at *
  have c1 : (2 * k - 1) * g = 2 * g * k - g := by rw [Int.sub_mul, Int.mul_right_comm]; omega
  have c2 : (2 * k + 1) * g = 2 * g * k + g := by rw [Int.add_mul, Int.mul_right_comm]; omega
  omega
end Cl

namespace Cl
open PySem PySem.Spec PyProof.Rows L2
/-! ### kinds of things -/
def isI : V → Bool
  | .int _ => true
  | _ => false
def isB : V → Bool
  | .bl _ => true
  | _ => false
/-- a thing with the name of its class -/
inductive Kd (K : PySem.W.Frag) (H : Hp) : V → String → Prop where
  | non : Kd K H .non "NoneType"
  | bl (b : Bool) : Kd K H (.bl b) "bool"
  | int (i : Int) : Kd K H (.int i) "int"
  | str (x : Str) : Kd K H (.str x) "str"
  | lst {a : Addr} {xs : List V} (h : SqL K H a xs) : Kd K H (.ref a) "list"
  | tup {a : Addr} {xs : List V} (h : SqT K H a xs) : Kd K H (.ref a) "tuple"
  | dct {a : Addr} {kvs : List (Key × V)} (h : H a = some (.dK kvs)) : Kd K H (.ref a) "dict"
section
variable {K : PySem.W.Frag} {H : Hp} {v : V} {T : String}
theorem Kd.ty (h : Kd K H v T) : TyX K H v (.type T) := by
  cases h with
  | non => exact .base .non
  | bl b => exact .base (.bl b)
  | int i => exact .base (.int i)
  | str x => exact .base (.str x)
  | lst h =>
    rcases h with (h | ⟨o, h⟩) | ⟨o, its, n, h1, h2, _⟩
    · exact .base (.lst h)
    · exact .base (.frz h)
    · exact .kList h1 h2
  | tup h =>
    rcases h with (h | ⟨o, h⟩) | ⟨o, its, n, h1, h2, _⟩
    · exact .base (.tup h)
    · exact .fTuple h
    · exact .kTuple h1 h2
  | dct h => exact .base (.dK h)
theorem Kd.int? (h : Kd K H v T) : kitB T "int" = some (isI v || isB v) := by
  cases h <;> first | (show kitB _ _ = some true; decide +kernel) | (show kitB _ _ = some false; decide +kernel)
theorem Kd.bool? (h : Kd K H v T) : kitB T "bool" = some (isB v) := by
  cases h <;> first | (show kitB _ _ = some true; decide +kernel) | (show kitB _ _ = some false; decide +kernel)
theorem Kd.tuple? (h : Kd K H v T) : kitB T "tuple" = some (decide (T = "tuple")) := by
  cases h <;> first | (show kitB _ _ = some true; decide +kernel) | (show kitB _ _ = some false; decide +kernel)
theorem Kd.str? (h : Kd K H v T) : kitB T "str" = some (decide (T = "str")) := by
  cases h <;> first | (show kitB _ _ = some true; decide +kernel) | (show kitB _ _ = some false; decide +kernel)
end
theorem seT {K : PySem.W.Frag} {H H' : Hp} {a : Addr} {xs : List V} (e : Same H H') (h : SqT K H a xs) : SqT K H' a xs := by
  rcases h with (h | ⟨o, h⟩) | h
  · exact .inl (.inl (e _ _ h))
  · exact .inl (.inr ⟨o, e _ _ h⟩)
  · exact .inr h
/-- isinstance(thing, a built-in class) -/
theorem isi {K : PySem.W.Frag} {H : Hp} {v : V} {T c : String} {b : Bool} {Q : VK} (h : Kd K H v T) (e : kitB T c = some b) (q : Q (.bl b) H) :
    rIsi K [v, .ty c] H Q := ⟨v, .ty c, .type T, .type c, b, rfl, .ty c, h.ty, kit_ty e, q⟩
def spWhole (K : PySem.W.Frag) : Sp := fun vs H Q _ => ∃ v T, vs = [v] ∧ Kd K H v T ∧ Q (.bl (isI v)) H

/-! ### lists of draws -/
def Acc (d l pD : Addr) (H0 : Hp) (i : Nat) (P : Int → Prop) (H' : Hp) : Prop :=
  ∃ xs : List Int, Step d l H0 H' ∧ H' pD = some (.lst (xs.map V.int)) ∧ xs.length = i ∧ ∀ x ∈ xs, P x
section
variable {d l pD : Addr} {H0 H H4 : Hp} {i : Nat} {P : Int → Prop} {y : Int}
theorem Step.updN (S : Step d l H0 H4) (h1 : pD ≠ d) (h2 : pD ≠ l) (n : H0 pD = none) {o : HO} : Step d l H0 (upd H4 pD o) := by
  obtain ⟨ns, s, c, e1, e2, e3⟩ := S.deck.ex
  refine ⟨⟨S.deck.ne, ns, s, c, by rw [upd_ne h1.symm]; exact e1, by rw [upd_ne h2.symm]; exact e2, e3⟩, ?_⟩
  refine fun b x e => ?_
  obtain ⟨n1, n2, n3⟩ := hide_at e
  have e5 := S.same b x e
  rw [hide_ne n1 n2] at e5 ⊢
  rw [upd_ne (ne_of_none n3 n)]
  exact e5
theorem Acc.start (D : Deck H0 d l) (S : Same H0 H) (e : H pD = some (.lst [])) : Acc d l pD H0 0 P H :=
  ⟨[], Step.of D S, e, rfl, fun x h => nomatch h⟩
theorem Acc.turn (A : Acc d l pD H0 i P H) (S : Step d l H H4) (D : Deck H0 d l) (n : H0 pD = none) (hi : i < 1000) (h : P y) :
    ∃ acc, H4 pD = some (.lst acc) ∧ acc.length < sizeLine ∧ Acc d l pD H0 (i + 1) P (upd H4 pD (.lst (acc ++ [.int y]))) := by
  obtain ⟨xs, S0, e, l1, a⟩ := A
  obtain ⟨h1, h2⟩ := D.nd n
  refine ⟨_, S.at h1 h2 e, by rw [List.length_map, l1]; exact small1000 (by omega), xs ++ [y], (S0.trans S).updN h1 h2 n, ?_, by rw [List.length_append, l1]; rfl, fun x hx => ?_⟩
  · rw [upd_same, List.map_append]; rfl
  · rcases List.mem_append.mp hx with z | z
    · exact a x z
    · rw [List.mem_singleton.mp z]; exact h
end
def lcR {lo : Int} {n : Nat} {g : TG} {tt : TT} {te : TE} {vs : List Nat} {σ : L2.St} {H1 : Hp} {D : Addr} {Qd : Hp → Prop}
    (Pv : Nat → Hp → Prop) (hD : H1 D = none) (h0 : ∀ H', Same H1 H' → H' D = some (.lst []) → Pv 0 H')
    (hs : ∀ i H, i < n → Pv i H → g (.int (lo + i)) (wipe σ vs) H fun σ2 H2 => wipe σ2 vs = wipe σ vs ∧ tt σ2 H2 fun b H3 =>
      if b = true then te σ2 H3 fun y H4 => ∃ acc, H4 D = some (.lst acc) ∧ acc.length < sizeLine ∧ Pv (i + 1) (upd H4 D (.lst (acc ++ [y]))) else Pv (i + 1) H3)
    (hd : ∀ H, Pv n H → Qd H) :=
  lc_range (lo := lo) (n := n) (g := g) (tt := tt) (te := te) (vs := vs) (σ := σ) (H1 := H1) (D := D) (Qd := Qd) Pv (h0 _ (same_new hD) upd_same) hs hd
theorem two {xs : List Int} (h : xs.length = 2) : ∃ x y, xs = [x, y] := by
  match xs, h with
  | [x, y], _ => exact ⟨x, y, rfl⟩
end Cl

namespace Cl
open PySem PySem.Spec PyProof.Rows L2
/-! ### a test of a thing's kind by a small def, asked quietly -/
/-- the thing u stands in the heap with its class's name -/
def KQ (K : PySem.W.Frag) (h : Heap) (u : Value) (T : String) : Prop := ∃ P : Heap → Prop, PySem.W.KitX K u (.type T) P ∧ P h ∧ (∀ h' : Heap, (∀ a o, u = .ref a → h.get? a = some o → h'.get? a = some o) → P h') ∧
  u ≠ .builtin "__main__.__loader__#opaque" ∧ ∀ a, u = .ref a → ∃ o, h.get? a = some o ∧ o.cls = .type T
theorem kq_at {K : PySem.W.Frag} {h : Heap} {a : Addr} {T : String} (Z : PySem.W.KitX K (.ref a) (.type T) (PySem.W.KitAt a T)) (p : ∃ o, h.get? a = some o ∧ o.cls = .type T) : KQ K h (.ref a) T :=
  ⟨_, Z, p, fun h' k => let ⟨o, e, c⟩ := p; ⟨o, k a o rfl e, c⟩, (fun z => nomatch z), fun b e => by cases e; exact p⟩
theorem Kd.kq {X : Cx} {pins : List (Addr × Obj)} {σ : L2.St} {H : Hp} {s : Shared} {v : V} {T : String} {u : Value} (I : Inv X pins σ H s) (h : Kd X.K H v T) (r : RelV v u) : KQ X.K s.heap u T := by
  cases h with
  | non => cases (show u = Value.none from r); exact ⟨_, PySem.W.kitx_none, trivial, fun _ _ => trivial, (fun z => nomatch z), fun a z => nomatch z⟩
  | bl b => cases (show u = Value.bool b from r); exact ⟨_, PySem.W.kitx_bool, trivial, fun _ _ => trivial, (fun z => nomatch z), fun a z => nomatch z⟩
  | int i => obtain ⟨t, q⟩ := (show ∃ t, u = Value.int i t from r); cases q; exact ⟨_, PySem.W.kitx_int, trivial, fun _ _ => trivial, (fun z => nomatch z), fun a z => nomatch z⟩
  | str x => obtain ⟨t, q⟩ := (show ∃ t, u = Value.str x t from r); cases q; exact ⟨_, PySem.W.kitx_str, trivial, fun _ _ => trivial, (fun z => nomatch z), fun a z => nomatch z⟩
  | @lst a xs h =>
    cases (show u = Value.ref a from r)
    obtain ⟨its, rv, ht, hz⟩ := I.list h
    exact kq_at PySem.W.kitx_list ht.isList.typeIs
  | @tup a xs h =>
    cases (show u = Value.ref a from r)
    obtain ⟨its, rv, ht, hz⟩ := I.tuple h
    exact kq_at PySem.W.kitx_tuple ht.typeIs
  | @dct a kvs ea =>
    cases (show u = Value.ref a from r)
    obtain ⟨_, _, vs, _, o, es, ep, h1, h2, _⟩ := (show ObjOk X.prog X.w H s.heap a (.dK kvs) from I.hok a _ ea)
    exact kq_at PySem.W.kitx_dict ⟨o, h1, h2.1⟩
theorem KQ.keeps {K : PySem.W.Frag} {h h' : Heap} {u : Value} {T : String} (q : KQ K h u T) (k : ∀ a o, u = .ref a → h.get? a = some o → h'.get? a = some o) : KQ K h' u T := by
  obtain ⟨P, Z, p, m, n, c⟩ := q
  refine ⟨P, Z, m h' k, fun h'' k2 => m h'' fun a o e g => k2 a o e (k a o e g), n, fun a e => ?_⟩
  obtain ⟨o, g, w⟩ := c a e
  exact ⟨o, k a o e g, w⟩
section
variable {P : Program} {w : World} {K : PySem.W.Frag} {mg : Str → Option Value}
/-- the modules' names stand in this heap -/
def Stands (K : PySem.W.Frag) (mg : Str → Option Value) (h : Heap) : Prop := K.In h ∧ h.Ns mainGlobals mg ∧ (∃ mb, h.Ns builtinsNs mb ∧ ∀ x : Str, x ≠ "__name__" → mb x = bootBuiltins x) ∧ h.NoLimit
theorem Stands.keeps {h h' : Heap} (s : Stands K mg h) (k : ∀ b o, h.get? b = some o → h'.get? b = some o) : Stands K mg h' := by
  obtain ⟨a, b, ⟨mb, c, d⟩, e⟩ := s
  exact ⟨fun x o z => k _ _ (a x o z), b.keeps k, ⟨mb, c.keeps k, d⟩, e.keeps k⟩
/-- f(u): a test of u's class, nothing changed -/
structure QW (P : Program) (w : World) (K : PySem.W.Frag) (mg : Str → Option Value) (f : Addr) : Prop where
  run : ∀ (A : Around) (s : Shared) (u : Value) (T : String) (b1 b2 : Bool), A.depth < recursionLimit → Stands K mg s.heap → KQ K s.heap u T → kitB T "int" = some b1 → kitB T "bool" = some b2 →
    codeAny (model P w) A (.call (.ref f) ⟨[u], []⟩) (fun r s' => r = .ok (.ret (.bool (b1 && !b2))) ∧ Keeps s s') s
theorem keeps_trans {s s1 s2 : Shared} (a : Keeps s s1) (b : Keeps s1 s2) : Keeps s s2 := by
  obtain ⟨h, tk, rfl, k⟩ := a
  obtain ⟨h2, tk2, rfl, k2⟩ := b
  exact ⟨h2, tk2, rfl, fun b o e => k2 b o (k b o e)⟩
/-- isinstance(name, T) in an env of a function -/
theorem quiet_isi {A : Around} {E : Value → Shared → Prop} {env : Env} {s : Shared} {x c : Str} {m : Str → Option Value} {u : Value} {T tc : String} {b : Bool} {Q : Value → Shared → Prop} {p1 p2 p3 p4 : Pos}
    (hk : env.scope.kind = .function) (hx : env.kindOf x = some .local) (hi : env.kindOf "isinstance" = some .globalImplicit) (hc : env.kindOf c = some .globalImplicit) (hg : env.globals = mainGlobals) (hb : env.builtins = builtinsNs)
    (St : Stands K mg s.heap) (mi : mg "isinstance" = none) (mc : mg c = none) (bc : bootBuiltins c = some (.type tc)) (hn : s.heap.Ns env.locals m) (hm : m x = some u) (q : KQ K s.heap u T) (e : kitB T tc = some b)
    (h : ∀ tk, Q (.bool b) { s with toks := tk })
    (hd : (x == ("__debug__" : Str)) = false := by decide) (hdc : (c == ("__debug__" : Str)) = false := by decide) (hcn : c ≠ "__name__" := by decide)
    (he : starEach [.Name x p2, .Name c p3] env = (false, eval (.Name x p2) env) :: starEach [.Name c p3] env := by rfl) (he2 : starEach [.Name c p3] env = [(false, eval (.Name c p3) env)] := by rfl) :
    wpAny (model P w) A (eval (.Call (.Name "isinstance" p1) [.Name x p2, .Name c p3] [] p4) env) Q E s := by
  obtain ⟨inK, ns, ⟨mb, nb, hmb⟩, lim⟩ := St
  have glb : ∀ {y : Str} {v : Value} {p : Pos} {R : Value → Shared → Prop}, env.kindOf y = some .globalImplicit → mg y = none → bootBuiltins y = some v → y ≠ "__name__" → (y == ("__debug__" : Str)) = false → R v s → wpAny (model P w) A (eval (.Name y p) env) R E s :=
    fun {y v p R} k1 k2 k3 k4 k5 r => Calls.Name_function_global hk k1 (Calls.loadGlobal_builtin (by rw [hg]; exact ns) k2 (by rw [hb]; exact nb) ((hmb y k4).trans k3) r) k5
  refine wpAny_Call_Name_kw (glb hi mi PyProof.Rows.boot_isinstance (by decide) (by decide) ?_)
  refine PyProof.Rows.callWith_builtin1 ?_ he (by rw [he2]; rfl)
  rw [he, he2]
  refine Calls.spliced_cons (wpAny_Name (wpAny_loadName_local hk hx hn hm ?_) hd)
  refine Calls.spliced_cons (glb hc mc bc hcn hdc ?_)
  refine Calls.spliced_nil ?_
  obtain ⟨Pz, Z, pz, _, nl, _⟩ := q
  exact PySem.W.kia_one Z inK pz (kit_ty e) nl h
end
end Cl
namespace Cl
open PySem PySem.Spec PyProof.Rows L2
/-! ### def is_whole(thing): return isinstance(thing, int) and not isinstance(thing, bool) -/
section
variable {P : Program} {w : World} {K : PySem.W.Frag} {mg : Str → Option Value}
theorem qw_of {x qual : Str} {st : Stmt} {f : Addr} {fd : FuncData} {p1 p2 p3 p4 p5 p6 p7 p8 p9 p10 p11 : Pos} {y : Str} {k : Nat}
    (F : Fun K x qual st f fd) (S : FnScope [y] [y] (defScope st)) (hloc : (defScope st).names.lookup y = some .local)
    (hi : (defScope st).names.lookup ("isinstance" : Str) = some .globalImplicit) (hc : (defScope st).names.lookup ("int" : Str) = some .globalImplicit) (hb : (defScope st).names.lookup ("bool" : Str) = some .globalImplicit)
    (mi : mg "isinstance" = none) (mc : mg "int" = none) (mb : mg "bool" = none)
    (hbody : defBody st = [.Return (some (.BoolOp .And [.Call (.Name "isinstance" p1) [.Name y p2, .Name "int" p3] [] p4, .UnaryOp .Not (.Call (.Name "isinstance" p5) [.Name y p6, .Name "bool" p7] [] p8) p9] p10)) p11])
    (hbind : Binds K fd [y] []) (hyd : (y == ("__debug__" : Str)) = false := by decide) : QW P w K mg f := by
  refine ⟨fun A s u T b1 b2 hdep St q e1 e2 => ?_⟩
  have hb0 := hbind s [u] St.1 rfl
  obtain ⟨oc, od, kV, doc, pm, an, cdv, ct, osl, rfl, lk, hcd⟩ := F.ex
  obtain ⟨inK, ns, nb, lim⟩ := id St
  refine codeAny_call_function hdep (inK _ _ lk) rfl S.co S.gen rfl (PySem.W.codeRec_of inK hcd) (hb0 _ _ _ _ ?_)
  have kinds : ∀ z ∈ [y].zip ([u] ++ []), (defScope st).names.lookup z.1 = some .local ∨
      ((defScope st).names.lookup z.1 = some .cell ∧ ((cellsFrom (s.heap.objs.size + 1) (defScope st).names []).lookup z.1).isSome = true) := by
    intro z hz
    simp only [List.append_nil, List.zip_cons_cons, List.zip_nil_right, List.mem_singleton] at hz
    subst hz
    exact .inl hloc
  refine wpAny_newFunctionEnv_cells S.kind kinds fun env he s1 z => ?_
  subst he
  have k1 := z.toInCall.keep
  have St1 : Stands K mg s1.heap := St.keeps k1
  have q1' : KQ K s1.heap u T := q.keeps fun a o _ e => k1 a o e
  have ks1 : Keeps s s1 := z.done
  refine ⟨St1.2.2.2, codeAny_func ?_⟩
  show wpAny _ _ (execs (defBody st) _) _ _ s1
  rw [hbody]
  have hm : (bindL (newEnv (defScope st) s.heap.objs.size mainGlobals (cellsFrom (s.heap.objs.size + 1) (defScope st).names []) (qual ++ ".<locals>.") (some f) cdv none builtinsNs).kindOf ([y].zip ([u] ++ [])) fun _ => none) y = some u := by
    show (bindL (fun n => (defScope st).names.lookup n) [(y, u)] fun _ => none) y = some u
    simp [bindL, hloc]
  have isi : ∀ {E' : Value → Shared → Prop} {A' : Around} {c : Str} {tc : String} {b : Bool} {q1 q2 q3 q4 : Pos} {s2 : Shared} {Q2 : Value → Shared → Prop}, Keeps s1 s2 → (defScope st).names.lookup c = some .globalImplicit → mg c = none → bootBuiltins c = some (.type tc) → kitB T tc = some b → (c == ("__debug__" : Str)) = false → c ≠ "__name__" →
      (∀ tk, Q2 (.bool b) { s2 with toks := tk }) → wpAny (model P w) A' (eval (.Call (.Name "isinstance" q1) [.Name y q2, .Name c q3] [] q4) (newEnv (defScope st) s.heap.objs.size mainGlobals (cellsFrom (s.heap.objs.size + 1) (defScope st).names []) (qual ++ ".<locals>.") (some f) cdv none builtinsNs)) Q2 E' s2 := by
    intro E' A' c tc b q1 q2 q3 q4 s2 Q2 ks hcc hmc hbc he hd hn2 h
    obtain ⟨h2, tk2, rfl, k2⟩ := ks
    exact quiet_isi (K := K) (mg := mg) (T := T) S.kind hloc hi hcc rfl rfl (St1.keeps k2) mi hmc hbc (z.toInCall.ns.keeps k2) hm (q1'.keeps fun a o _ e => k2 a o e) he h hyd hd hn2 rfl rfl
  refine wpAny_execs_cons (wpAny_Return_some ?_)
  refine BoolOp_and (isi (GxR.keeps_refl _) hc mc PyProof.Rows.boot_int e1 (by decide) (by decide) fun tk => wpAny_truthy_bool ?_)
  cases b1 with
  | false => exact ⟨rfl, keeps_trans ks1 (GxR.keeps_tok _ _)⟩
  | true =>
    refine BoolOp_one (UnaryOp_ (isi (GxR.keeps_tok _ _) hb mb PyProof.Rows.boot_bool e2 (by decide) (by decide) fun tk2 => not_of (wpAny_truthy_bool ?_)))
    exact ⟨rfl, keeps_trans ks1 (GxR.keeps_tok _ _)⟩
end
end Cl

namespace Cl
open PySem PySem.Spec PyProof.Rows L2
open GxR (TabB TabG Tabbed GenS inv_tab sh_eta)
/-! ### all(test for x in t), t a tuple, the test asked quietly -/
def EltT (P : Program) (w : World) (K : PySem.W.Frag) (mg : Str → Option Value) (scope : Scope) (x : Str) (elt : Expr) (D : Nat) (Cp : List (Str × Addr) → Heap → Prop) (ok : Heap → Value → Bool → Prop) : Prop :=
  ∀ (cenv : Env) (A' : Around) (E' : Value → Shared → Prop) (u : Value) (b : Bool) (s₂ : Shared) (m₂ : Str → Option Value), A'.handled = none → A'.depth ≤ D → cenv.scope = scope → cenv.globals = mainGlobals → cenv.builtins = builtinsNs →
    Stands K mg s₂.heap → Cp cenv.cells s₂.heap → s₂.heap.Ns cenv.locals m₂ → m₂ x = some u → ok s₂.heap u b →
    wpAny (model P w) A' (eval elt cenv) (fun y s₃ => y = .bool b ∧ Keeps s₂ s₃) E' s₂
theorem Same.tabbed {H H' : Hp} {P : Addr} (h : TabG H P) (t : Tabbed P H H') : Same H H' := fun b o e => by
  by_cases hb : b = P
  · subst hb
    obtain ⟨ps, e1, _⟩ := h
    rw [e1] at e
    cases e
    obtain ⟨ps', e2, t2⟩ := t.1
    exact fun _ => ⟨ps', e2, t2⟩
  · rw [t.2 b hb]
    exact .of e
theorem Same.tab {H H' : Hp} {P : Addr} (s : Same H H') (h : TabG H P) : TabG H' P := by
  obtain ⟨ps, e, t⟩ := h
  obtain ⟨ps', e', t'⟩ := s P _ e t
  exact ⟨ps', e', t'⟩
def tAllT (K : PySem.W.Frag) (P : Addr) (cap : L2.St → Hp → Prop) (okV : Hp → V → Bool → Prop) (te : TE) : TE := fun σ H Q => te σ H fun v H1 => ∃ (a : Addr) (xs : List V) (bs : List Bool), v = .ref a ∧ SqT K H1 a xs ∧ bs.length = xs.length ∧
  (∀ (i : Nat) x b, xs[i]? = some x → bs[i]? = some b → okV H1 x b) ∧ cap σ H1 ∧ TabG H1 P ∧ ∀ H2, Same H1 H2 → TabG H2 P → Q (.bl (bs.all id)) H2
theorem all_range (bs : List Bool) : (List.range bs.length).all (fun j => bs.getD j false) = bs.all id := by
  rw [Bool.eq_iff_iff, List.all_eq_true, List.all_eq_true]
  constructor
  · intro h b hb
    obtain ⟨j, hj, e⟩ := List.getElem_of_mem hb
    have q := h j (List.mem_range.mpr hj)
    rw [List.getD_eq_getElem?_getD, List.getElem?_eq_getElem hj, e] at q
    exact q
  · intro h j hj
    have hj' := List.mem_range.mp hj
    rw [List.getD_eq_getElem?_getD, List.getElem?_eq_getElem hj']
    exact h _ (List.getElem_mem hj')
section
variable {X : Cx}
theorem pe_allT {c P : Addr} {elt iter : Expr} {x : Str} {px p pos gpos : Pos} {scope : Scope} {te : TE} {k : Nat} {Cp : List (Str × Addr) → Heap → Prop} {ok : Heap → Value → Bool → Prop} {cap : L2.St → Hp → Prop} {okV : Hp → V → Bool → Prop}
    (hr : Room k X.A) (hg : Gl X "all") (hm : X.mg "all" = none) (TB : TabB X.base X.mg c P) (hcode : X.env.code = .ref c) (S : GenS X.env scope x) (hi : PE X iter te)
    (hel : EltT X.prog X.w X.K X.mg scope x elt (X.A.depth + 1) Cp ok)
    (okk : ∀ h h' u b, ok h u b → (∀ a o, u = .ref a → h.get? a = some o → h'.get? a = some o) → ok h' u b) (okr : ∀ h u b a, ok h u b → u = .ref a → ∃ o, h.get? a = some o ∧ o.cls ≠ .none)
    (okI : ∀ {pins : List (Addr × Obj)} {σ : L2.St} {H : Hp} {s : Shared} {v : V} {u : Value} {b : Bool}, Inv X pins σ H s → RelV v u → okV H v b → ok s.heap u b)
    (cpI : ∀ {pins : List (Addr × Obj)} {σ : L2.St} {H : Hp} {s : Shared}, Inv X pins σ H s → cap σ H → Cp (cloFrom X.env.cells scope.names []) s.heap)
    (cpk : ∀ h h', (∀ b o, o.cls ≠ .none → h.get? b = some o → h'.get? b = some o) → Cp (cloFrom X.env.cells scope.names []) h → Cp (cloFrom X.env.cells scope.names []) h')
    (teσ : ∀ {pins : List (Addr × Obj)} {σ : L2.St} {H : Hp} {s : Shared}, True)
    (hs : ∀ v, genFold iter X.env v = pure v)
    (he : starEach [.GeneratorExp elt [⟨.Name x px, iter, [], 0⟩] scope gpos] X.env = (false, eval (.GeneratorExp elt [⟨.Name x px, iter, [], 0⟩] scope gpos) X.env) :: starEach [] X.env := by rfl) :
    PE X (.Call (.Name "all" p) [.GeneratorExp elt [⟨.Name x px, iter, [], 0⟩] scope gpos] [] pos) (tAllT X.K P cap okV te) := by
  refine ⟨fun pins s σ H Q I h => ?_⟩
  refine wpAny_Call_Name_kw (ld_blt I hg hm PyProof.Rows.boot_all ?_)
  refine PyProof.Rows.callWith_builtin1 ?_ he (by rfl)
  rw [he]
  show wpAny _ _ (spliced ((false, eval (.GeneratorExp elt [⟨.Name x px, iter, [], 0⟩] scope gpos) X.env) :: backTo pos (starEach [] X.env))) _ _ s
  refine Calls.spliced_cons ?_
  refine wpAny_GeneratorExp_walksQD hr.hd S.co (closure_ok S.free) S.cell S.dot S.loc S.kind (by have := hr.dp; omega) ?_ hs
  refine thn (hi.run pins s σ H _ I h) fun xv s1 ⟨v, H1, I1, r1, q1⟩ => ?_
  obtain ⟨a, xs, bs, rfl, hS, lbs, hok, hcap, hT, q⟩ := q1
  cases r1
  obtain ⟨ps, hP, ht⟩ := id hT
  obtain ⟨its, rv, tup, hz⟩ := I1.tuple hS
  have lx := rv.length
  refine wpAny_pyIter_tuple tup ?_
  have hPs : s1.heap.get? P = some { cls := .none, data := .fields ps } := I1.hok P _ hP
  have hPlt : P < s1.heap.objs.size := Heap.lt_size hPs
  have halt : a < s1.heap.objs.size := by obtain ⟨o, e, _⟩ := id tup; exact Heap.lt_size e
  have haP : a ≠ P := fun e => by
    obtain ⟨o, e1, e2, _⟩ := id tup
    rw [e, hPs] at e1
    cases e1
    cases e2
  generalize hito : ({ cls := .type "tuple_iterator", data := .fields #[.ref a, .int 0 0] } : Obj) = ito
  have hP2 : (s1.heap.push ito).get? P = some { cls := .none, data := .fields ps } := Heap.get?_push_of_some _ hPs
  have cd : PySem.W.CodeHd (s1.heap.push ito) c P := TB.code.keeps fun b u e => Heap.get?_push_of_some _ (I1.bk b u e)
  have lim2 : (s1.heap.push ito).NoLimit := I1.nolimit.push ito
  have sz2 : (s1.heap.push ito).objs.size = s1.heap.objs.size + 1 := Heap.size_push ..
  have cont : ∀ (code : Value) (h3 : Heap) (tk : Nat) (ps' : Array Value), Heap.ExtBut P (s1.heap.push ito) h3 → (s1.heap.push ito).objs.size ≤ h3.objs.size → h3.get? P = some { cls := .none, data := .fields ps' } → (∃ more, ps' = ps ++ more) → TriplesOk ps'.toList →
      wpAny (model X.prog X.w) X.A (builtinsFor X.env.globals X.env.builtins) (fun bi s₄ =>
        ∃ Ia fp wr n₀ Pf St₀ pz F, Value.ref s1.heap.objs.size = .ref Ia ∧ (∀ A' : Around, A'.handled = none → Walks X.prog X.w A' Ia fp wr n₀ Pf St₀) ∧ St₀ 0 s₄.heap ∧ (∀ b ∈ fp, b < s₄.heap.objs.size) ∧ s₄.heap.NoLimit ∧ cStatics ∉ wr ∧
          (∀ href : Heap, (∀ b o, s₄.heap.get? b = some o → href.get? b = some o) →
            QuietGenD X.prog X.w (genEnv scope (cloFrom X.env.cells scope.names []) s₄.heap.objs.size code bi X.env) x [] elt (List.range s₄.heap.objs.size) wr Pf pz F href (X.A.depth + 1) (X.A.units + 8)) ∧
          (∀ a h₅ tk gs, gs.bare = true → s₄.heap.objs.size < a → h₅.objs.size = a + 1 → (∀ b o, s₄.heap.get? b = some o → h₅.get? b = some o) →
            WalksS X.prog X.w X.A.in4 a (a :: s₄.heap.objs.size :: List.range s₄.heap.objs.size) (s₄.heap.objs.size :: wr) (GenOnlyQ s₄.gens.size) (passing pz n₀ 0).length
              (fun j y => ∃ i, (passing pz n₀ 0)[j]? = some i ∧ F i y) (GenAt X.prog X.w X.A.in4 a s₄.gens.size s₄.heap.objs.size (List.range s₄.heap.objs.size) wr pz n₀ F) →
            GenAt X.prog X.w X.A.in4 a s₄.gens.size s₄.heap.objs.size (List.range s₄.heap.objs.size) wr pz n₀ F 0 { s₄ with gens := s₄.gens.push gs, toks := tk, heap := h₅ } →
            wpAny (model X.prog X.w) X.A (spliced (backTo pos (starEach [] X.env))) (fun vs s2 => wpAny (model X.prog X.w) X.A (call (.builtin "all") (.ref a :: vs)) (EP X pins σ Q) X.xe s2) X.xe { s₄ with gens := s₄.gens.push gs, toks := tk, heap := h₅ })) X.xe { s1 with heap := h3, toks := tk } := by
    intro code h3 tk ps' hx hsz hP3 hmore ht3
    obtain ⟨bm, ob, e1, e2, e3, e4, e5, e6, e7, e8⟩ := TB.bm
    have keep3 : ∀ b u, b ≠ P → s1.heap.get? b = some u → h3.get? b = some u := fun b u hb e => hx b u hb (Heap.get?_push_of_some _ e)
    have hcP : cStatics ≠ P := fun e => by
      obtain ⟨_, hns, _⟩ := I1.nolimit
      obtain ⟨o', es, ep, ho, hd, _⟩ := hns
      rw [e, hPs] at ho
      cases ho
      cases hd
    have hcl : cStatics < s1.heap.objs.size := let ⟨_, hns, _⟩ := I1.nolimit; hns.lt
    have bP : ∀ b o, X.base.get? b = some o → b ≠ P := fun b o e z => by
      have := (I1.bs b o e).2
      rw [z, hP] at this
      cases this
    have stB : Stands X.K X.mg X.base := ⟨I1.mod.kin, I1.mod.glob, I1.mod.blt, I1.mod.nolimit⟩
    refine wpAny_builtinsFor (m := X.mg) (by rw [I1.ok.glob]; exact ((I1.mod.glob.keeps I1.bk).push ito).extBut hx TB.gP) e1 e2 (keep3 _ _ e4 (I1.bk _ _ e5)) e6 e7 e8 ?_
    refine ⟨s1.heap.objs.size, [s1.heap.objs.size, a], [s1.heap.objs.size], its.toArray.size, fun i v => its.toArray[i]? = some v, (fun i h => h.IsTupleIter s1.heap.objs.size a i ∧ h.IsTuple a its.toArray), (fun _ => true), (fun i y => i < its.toArray.size ∧ y = .bool (bs.getD i false)), rfl,
      fun A' hA => Walks.tuple hA _ _ (Nat.ne_of_lt halt) _, ⟨?_, ?_⟩, ?_, lim2.extBut hx hcP, ?_, ?_, ?_⟩
    · refine ⟨ito, hx _ _ (fun z => Nat.ne_of_lt hPlt z.symm) (Heap.get?_push_size _ (by rw [← hito]; rfl)), by rw [← hito], by rw [← hito]; rfl⟩
    · obtain ⟨o, g1, g2, g3⟩ := id tup
      exact ⟨o, keep3 a o haP g1, g2, g3⟩
    · intro b hb
      show b < h3.objs.size
      simp only [List.mem_cons, List.not_mem_nil, or_false] at hb
      rcases hb with z | z
      · rw [z]; exact Nat.lt_of_lt_of_le (by rw [sz2]; exact Nat.lt_succ_self _) hsz
      · rw [z]; exact Nat.lt_of_lt_of_le halt (Nat.le_trans (by rw [sz2]; exact Nat.le_succ _) hsz)
    · intro z
      rw [List.mem_singleton.mp z] at hcl
      exact Nat.lt_irrefl _ hcl
    · intro href hhref
      refine ⟨fun A' E' i v s₂ m₂ hA hD hU hPv hn hm hk => ?_, fun A' E' i v s₂ m₂ hA hD hU hPv hp hn hm hk => ?_⟩
      · simp only [List.forIn_nil]
        exact wpAny_pure ⟨rfl, GxR.keeps_refl _⟩
      · have key : ∀ b o, b ≠ P → s1.heap.get? b = some o → s₂.heap.get? b = some o := fun b o hb e =>
          hk b (List.mem_range.mpr (Heap.lt_size (keep3 b o hb e))) (fun z => by
            have l := Heap.lt_size e
            rw [List.mem_singleton.mp z] at l
            exact Nat.lt_irrefl _ l) o (hhref b o (keep3 b o hb e))
        have hi' : i < its.length := by
          have := (Array.getElem?_eq_some_iff.mp hPv).1
          simpa using this
        obtain ⟨v', ev, rel⟩ := rv.get (List.getElem?_eq_getElem (show i < xs.length by omega))
        have evv : v' = v := by
          have h1 : its[i]? = some v := by simpa using hPv
          rw [h1] at ev
          exact (Option.some.inj ev).symm
        subst evv
        have hb1 : bs[i]? = some (bs.getD i false) := by
          rw [List.getD_eq_getElem?_getD, List.getElem?_eq_getElem (show i < bs.length by omega)]
          rfl
        have o1 := okI I1 rel (hok i _ _ (List.getElem?_eq_getElem (show i < xs.length by omega)) hb1)
        have o2 := okk _ s₂.heap _ _ o1 fun a' o e g => key a' o (fun z => by
          obtain ⟨o', g1, g2⟩ := okr _ _ _ a' o1 e
          rw [z, hPs] at g1
          cases g1
          exact g2 rfl) g
        refine wpAny_mono (hel _ A' E' v' _ s₂ m₂ hA hD rfl I1.ok.glob rfl (stB.keeps fun b o e => key b o (bP b o e) (I1.bk b o e)) ?_ hn hm o2) (fun y s3 r => ⟨⟨by simpa using hi', r.1⟩, r.2⟩) fun _ _ e => e
        exact cpk s1.heap s₂.heap (fun b o hc e => key b o (fun z => by
          rw [z, hPs] at e
          cases e
          exact hc rfl) e) (cpI I1 hcap)
    · intro g h5 tk5 gs hgb hag hsz5 hk5 W5 hat
      simp only [GxR.passing_true, List.length_range] at W5
      refine Calls.spliced_nil ?_
      have W := W5.in4_1
      refine call_all_walkS (W.self 0 _ _ _ hat ⟨g, _, _, _, _, _, _, fun j => bs.getD j false, rfl, W, hat, ?_, fun s' hm => ?_⟩)
      · intro j y sj Qj Ej hy hQj
        obtain ⟨i, hij, hi2, rfl⟩ := hy
        try rw [GxR.passing_true] at hij
        obtain ⟨hj, ej⟩ := List.getElem?_eq_some_iff.mp hij
        rw [List.getElem_range] at ej
        subst ej
        exact wpAny_truthy_bool hQj
      · obtain ⟨more, em⟩ := hmore
        have nwr : ∀ b u, s1.heap.get? b = some u → b ∉ h3.objs.size :: [s1.heap.objs.size] := fun b u e hb => by
          have hl := Heap.lt_size e
          simp only [List.mem_cons, List.not_mem_nil, or_false] at hb
          rcases hb with z | z
          · rw [z] at hl
            have h9 : (h3.objs.size : Nat) < s1.heap.objs.size := hl
            omega
          · rw [z] at hl
            exact Nat.lt_irrefl _ hl
        have J := inv_tab (more := more) (h' := s'.heap) (g' := s'.gens) (d' := s'.drawn) (t' := s'.toks) I1 hP (fun b u hb e => hm.heap b u (nwr b u e) (hk5 b u (keep3 b u hb e)))
          (by rw [← em]; exact hm.heap P _ (nwr P _ hPs) (hk5 P _ hP3)) (AllBare.movedS (I1.bare.push hgb) hm)
        rw [sh_eta s1 s' hm.os] at J
        have tb : Tabbed P H1 (upd H1 P (.tbl (ps ++ more))) := ⟨⟨ps ++ more, upd_same, by rw [← em]; exact ht3⟩, fun b hb => upd_ne hb⟩
        refine ⟨.bl _, _, J, ?_, q _ (Same.tabbed hT tb) tb.1⟩
        show Value.bool _ = Value.bool _
        rw [← all_range bs, show its.toArray.size = bs.length by simp; omega]
  refine ⟨lim2, ?_⟩
  cases hf : codeAmong gpos ps.toList with
  | none =>
    refine wpAny_genexprCodeX hcode (cd.code hP2 ht) (cd.tab hP2) hf fun c' h' tk hx hge hlt hco' _ htab' _ => ?_
    obtain ⟨o1, vs, f1, tf, fl, tg, inF, tx, tt, op, _, _, _, _, _, _, _, _, _, htr, _⟩ := hco'
    exact cont _ h' tk _ hx (Nat.le_trans hge (Nat.le_of_lt hlt)) htab'.2 ⟨_, rfl⟩ htr
  | some cv =>
    refine wpAny_genexprCode_hit hcode (cd.code hP2 ht) hf ?_
    exact cont cv (s1.heap.push ito) s1.toks ps (Heap.ExtBut.refl _ _) (Nat.le_refl _) hP2 ⟨#[], by simp⟩ ht
end
end Cl

namespace Cl
open PySem PySem.Spec PyProof.Rows L2
open GxR (TabB TabG)
/-! ### a def whose code object's table grows -/
section
variable {P : Program} {w : World} {K : PySem.W.Frag} {mg : Str → Option Value} {base : Heap}
theorem okGT {x qual : Str} {st : Stmt} {f : Addr} {fd : FuncData} {N ps : List Str} {k : Nat} {sp : Sp} {c : Addr}
    (F : Fun K x qual st f fd) (hc : fd.code = .ref c) (S : FnScope N ps (defScope st))
    (len : ∀ vs H Q E, sp vs H Q E → vs.length = ps.length)
    (body : ∀ (A : Around) (outer : List Env) (s : Shared) (H : Hp) (vs : List V) (Q : VK) (E : XK),
      RG k (A.deeper (envOfC qual (defScope st) s.heap.objs.size f (.ref c))) → sp vs H Q E →
      ∃ t, PSs (cxOf CX0 P w K mg base N qual (defScope st) f (.ref c) A outer s H E).nox (defBody st) t ∧
        t { nx := fun _ H' => Q .non H', rt := Q } (start N vs) H) :
    FnG P w K mg base CX0 (k + 1) f fd ps sp := by
  obtain ⟨oc, od, kV, doc, pm, an, cdv, ct, osl, rfl, lk, hcd⟩ := F.ex
  have hc : cdv = .ref c := hc
  subst hc
  constructor
  · exact len
  intro A outer s H args us vs Q E hr e0 hb r hsp
  have nvs := len _ _ _ _ hsp
  have keepB : ∀ b o, base.get? b = some o → s.heap.get? b = some o := fun b o z => (e0.bs b o z).1
  have inK : K.In s.heap := e0.mod.kin.keeps keepB
  have nolim : s.heap.NoLimit := e0.mod.nolimit.keeps keepB
  have kinds : ∀ y ∈ ps.zip us, (defScope st).names.lookup y.1 = some .local ∨
      ((defScope st).names.lookup y.1 = some .cell ∧
        ((cellsFrom (s.heap.objs.size + 1) (defScope st).names []).lookup y.1).isSome = true) := by
    rintro ⟨n, v⟩ hy
    rcases S.par n (List.of_mem_zip hy).1 with z | z
    · exact .inl z
    · exact .inr ⟨z, PySem.W.cellsFrom_some _ _ _ (.inl z)⟩
  refine codeAny_call_function hr.room.depth (inK _ _ lk) rfl S.co S.gen rfl
    (PySem.W.codeRec_of inK hcd) (hb _ _ _ _ ?_)
  refine wpAny_newFunctionEnv_cells S.kind kinds fun env he s1 x => ?_
  subst he
  refine ⟨nolim.keeps x.toInCall.keep, codeAny_func ?_⟩
  have hr2 : RG k (A.deeper (envOfC qual (defScope st) s.heap.objs.size f (.ref c))) := ⟨hr.room.deeper _, hr.gd⟩
  obtain ⟨t, ht, hq⟩ := body A outer s H vs Q E hr2 hsp
  have I : Inv (cxOf CX0 P w K mg base N qual (defScope st) f (.ref c) A outer s H E) [] (start N vs) H s1 :=
    inv_start S hr.room.hd e0 nvs r x
  refine wpAny_mono (ht.nox.run [] s1 (start N vs) H _ I hq) (fun fl s' hs => ?_) fun _ _ z => z
  match fl, hs with
  | .ret u, ⟨v, σ', H', J, rv, q⟩ => exact ⟨v, H', J.os, J.bare, J.base, J.hok, rv, q⟩
  | .next, ⟨σ', H', J, q⟩ => exact ⟨V.non, H', J.os, J.bare, J.base, J.hok, rfl, q⟩
  | .brk, ⟨_, _, _, q⟩ => exact q.elim
  | .cont, ⟨_, _, _, q⟩ => exact q.elim
end
/-! ### the end: the law's call, some defs' tables growing -/
def TabN (mg : Str → Option Value) (h : Heap) (n : Str) : Prop := ∃ (f : Addr) (o : Obj) (fd : FuncData) (c P : Addr), mg n = some (.ref f) ∧ h.get? f = some o ∧ o.data = .func fd ∧ fd.code = .ref c ∧ PySem.W.CodeHd h c P ∧ h.TableAt c P #[]
theorem endGT {l : PySem.W.OpenLaw} {n k : Nat} {q : Program} {loose : List Str} {XP : (Str → Option Value) → Heap → Prop}
    {YP : World → Heap → Prop} {d : DefRec} {K : Params → PySem.W.Frag} {sp : PySem.W.Frag → List (Addr × Addr) → Sp} {x : Str} {ts : List Str}
    (hn : l.most = some n) (hn2 : n ≤ sizeLine) (hdf : d.params.defaults = []) (hr : RG k callerA) (hrec : (ts.all fun n => (recsOf q).any fun e => e.name == n) = true)
    (hY : ∀ (w : World) (h : Heap), YP w h → (K w.params).In h)
    (F : ∀ (w : World) (mg : Str → Option Value) (fa : Addr) (h : Heap), (K w.params).In h → h.Ns mainGlobals mg →
      mg d.name = some (.ref fa) → (∀ n ∈ ts, TabN mg h n) → ∃ (fd : FuncData) (cs : List (Addr × Addr)), (∀ p ∈ cs, PySem.W.CodeHd h p.1 p.2 ∧ h.TableAt p.1 p.2 #[] ∧ (K w.params).lookup p.2 = none) ∧ (∀ (s : Shared) (u : Value), BindsTo s fd ⟨[u], []⟩ [(x, u)]) ∧
        ∀ base : Heap, (K w.params).In base → base.Ns mainGlobals mg → (∀ p ∈ cs, TabB base mg p.1 p.2) → FnG l.prog w (K w.params) mg base CX0 k fa fd [x] (sp (K w.params) cs))
    (hsp : ∀ (w : World) (cs : List (Addr × Addr)) (H : Hp) (a : Addr) (ns : List Int), ns.length ≤ n → (∀ z ∈ ns, Builtin.Int.intBits z ≤ 1048576) →
      (∀ p ∈ cs, H p.2 = some (.tbl #[])) → SqL (K w.params) H a (ns.map V.int) → sp (K w.params) cs [.ref a] H (fun v _ => v = .bl true) E0) :
    PySem.W.WalkO q loose XP YP l.row.toRowW d [] (fun f vs => PySem.call f vs) := by
  refine Att.attach_callB hn hdf fun w s₀ s1 mg mb fa o pm cd doc a us ns G Y ho hd hcd hmg obj hints nlen bits gens => ?_
  have inK : (K w.params).In s1.heap := hY w _ Y
  have tn : ∀ n ∈ ts, TabN mg s1.heap n := fun n hn => by
    obtain ⟨dL, h1, h2⟩ := List.any_eq_true.mp (List.all_eq_true.mp hrec n hn)
    have h2 : dL.name = n := beq_iff_eq.mp h2
    obtain ⟨f, o, fd, c, P, t1, t2, t3, t4, t5, t6⟩ := G.T.tab dL h1
    exact ⟨f, o, fd, c, P, by rw [← h2]; exact t1, t2, t3, t4, .of t5 t6, t6⟩
  obtain ⟨fd, cs, hcs, bind, hF⟩ := F w mg fa _ inK G.T.g hmg tn
  have rv := vals_ints hints
  have nv : us.length = ns.length := hints.length
  obtain ⟨T, hT⟩ : ∃ T, T = cs.map (·.2) := ⟨_, rfl⟩
  have isT : ∀ b ∈ T, s1.heap.get? b = some { cls := .none, data := .fields #[] } := fun b hb => by
    rw [hT] at hb
    obtain ⟨p, hp, e⟩ := List.mem_map.mp hb
    rw [← e]
    exact (hcs p hp).2.1.2
  have memT : ∀ p ∈ cs, p.2 ∈ T := fun p hp => by rw [hT]; exact List.mem_map.mpr ⟨p, hp, rfl⟩
  have aT : a ∉ T := fun z => by
    have q := isT a z
    rw [obj] at q
    have z' : Data.seq us.toArray _ = Data.fields #[] := congrArg Obj.data (Option.some.inj q)
    cases z'
  have small : ns.length ≤ sizeLine := Nat.le_trans nlen hn2
  have go : ∀ H : Hp, (∀ b ∈ T, H b = some (.tbl #[])) → (∀ b, b ∉ T → H b = none ∨ ∃ ob xs, H b = some (.frz ob (.lst xs))) → SqL (K w.params) H a (ns.map V.int) → HOk l.prog w H s1.heap → (∀ b, H b ≠ none → b = a ∨ b ∈ T) →
      (H a ≠ none → (K w.params).lookup a = none) → codeAny (model l.prog w) callerA (.call (.ref fa) ⟨[.ref a], []⟩)
        (fun r s' => r = .ok (.ret (.bool true)) ∧ OldK s1.heap s'.heap ∧ s'.os = s1.os ∧ AllBare s'.gens) s1 := by
    intro H hTb only hS hok atA offK
    have left : ∀ {b : Addr} {o : Obj}, s1.heap.get? b = some o → H b = none → (hidT s1.heap H).get? b = some o :=
      fun e z => hidT_get e z
    -- what is no list and no empty table is not tracked
    have nothing : ∀ {b : Addr} {o : Obj}, s1.heap.get? b = some o → (∀ vs n, o.data ≠ .seq vs n) → o.data ≠ .fields #[] → H b = none := fun {b o} e h1 h2 => by
      cases z : H b with
      | none => rfl
      | some u =>
        rcases atA b (by rw [z]; intro y; cases y) with y | y
        · rw [y, obj] at e
          cases e
          exact absurd rfl (h1 _ _)
        · rw [isT b y] at e
          cases e
          exact absurd rfl h2
    have spaces : ∀ {b : Addr} {m : Str → Option Value}, s1.heap.Ns b m → (hidT s1.heap H).Ns b m :=
      fun {b m} ⟨o, es, ep, e, z, r⟩ => ⟨o, es, ep, left e (nothing e (fun vs n y => by rw [z] at y; cases y) (fun y => by rw [z] at y; cases y)), z, r⟩
    have inB : (K w.params).In (hidT s1.heap H) := fun b o e => left (inK b o e) (by
      cases z : H b with
      | none => rfl
      | some u =>
        rcases atA b (by rw [z]; intro y; cases y) with y | y
        · subst y
          rw [offK (by rw [z]; intro y; cases y)] at e
          cases e
        · rw [hT] at y
          obtain ⟨p, hp, ep⟩ := List.mem_map.mp y
          rw [← ep, (hcs p hp).2.2] at e
          cases e)
    have md : Mod (K w.params) mg (hidT s1.heap H) := by
      obtain ⟨mc, c1, c2⟩ := G.T.nolimit
      exact ⟨inB, spaces G.T.g, ⟨mb, spaces G.T.b, G.T.builtins⟩, ⟨mc, spaces c1, c2⟩⟩
    have TB : ∀ p ∈ cs, TabB (hidT s1.heap H) mg p.1 p.2 := fun p hp => by
      have hTp := isT _ (memT p hp)
      refine ⟨?_, ?_, fun z => ?_⟩
      · obtain ⟨o, us', file, tf, flags, tg, inF, text, tt, e1, r1, r2, r3, r⟩ := (hcs p hp).1
        refine ⟨o, us', file, tf, flags, tg, inF, text, tt, left e1 (nothing e1 (fun vs n z => ?_) fun z => ?_), r1, r2, r3, r⟩
        · rw [r2] at z
          cases z
        · rw [r2] at z
          cases z
          simp at r3
      · obtain ⟨bm, ob, b1, b2, b3, b4, b5, b6⟩ := G.T.bmain
        have nG : bm ≠ mainGlobals := fun y => by
          obtain ⟨o, es, ep, e, z, _⟩ := G.T.g
          rw [y, e] at b3
          cases b3
          rw [z] at b6
          cases b6
        have nP : bm ≠ p.2 := fun y => by
          rw [y, hTp] at b3
          cases b3
          cases b6
        refine ⟨bm, ob, b1, b2, nG, nP, left b3 (nothing b3 (fun vs n z => ?_) fun z => ?_), b4, b5, b6⟩
        · rw [b6] at z
          cases z
        · rw [b6] at z
          cases z
      · obtain ⟨o, es, ep, e, y, _⟩ := G.T.g
        rw [z, hTp] at e
        cases e
        cases y
    have e0 : Env0 l.prog w (K w.params) mg (hidT s1.heap H) callerA [] s1 H :=
      ⟨rfl, md, fun b o e => of_hidT e, Nat.le_of_eq (hidT_size _ _), trivial, fun b z => (nomatch z), hok, .of_eq gens⟩
    have run := (hF _ inB (spaces G.T.g) TB).run callerA [] s1 H ⟨[.ref a], []⟩ [.ref a] [.ref a] _ _ hr e0
      (bind s1 (.ref a)) (.cons rfl .nil) (hsp w cs H a ns nlen bits (fun p hp => hTb _ (memT p hp)) hS)
    refine codeAny_mono run fun res s' h => ?_
    match res, h with
    | .error e, h => exact h.elim
    | .ok .next, h => exact h.elim
    | .ok .brk, h => exact h.elim
    | .ok .cont, h => exact h.elim
    | .ok (.ret u), ⟨v, H', os, bare, un, hok', r', q⟩ =>
      have q' : v = .bl true := q
      subst q'
      have r2 : u = Value.bool true := r'
      subst r2
      have stays : ∀ b o, b ∉ T → s1.heap.get? b = some o → s'.heap.get? b = some o := fun b o hb e => by
        cases z : H b with
        | none => exact un.keep b o e z (fun y => (nomatch y)) (fun y => (nomatch y))
        | some u =>
          rcases only b hb with y | ⟨ob, xs, y⟩
          · rw [z] at y
            cases y
          · obtain ⟨e1, _⟩ := hok b _ y
            obtain ⟨e2, _⟩ := hok' b _ (un.frzs b ob _ y)
            rw [e] at e1
            cases e1
            exact e2
      have grows : ∀ b ∈ T, ∃ more : Array Value, s'.heap.get? b = some { cls := .none, data := .fields (#[] ++ more) } := fun b hb => by
        obtain ⟨more, z⟩ := un.tbls b #[] (hTb b hb)
        exact ⟨more, hok' b _ z⟩
      refine ⟨rfl, ⟨fun b o e => ?_, fun b o e => ?_⟩, os, bare⟩
      · by_cases hb : b ∈ T
        · obtain ⟨more, hm⟩ := grows b hb
          have hb2 := hb
          rw [hT] at hb2
          obtain ⟨p, hp, ep⟩ := List.mem_map.mp hb2
          rw [isT b hb] at e
          cases e
          exact .inr (.inl ⟨by rw [← ep]; exact (hcs p hp).2.1.isCodeTable, rfl, #[], more, rfl, hm⟩)
        · exact .inl (stays b o hb e)
      · by_cases hb : b ∈ T
        · obtain ⟨more, hm⟩ := grows b hb
          exact ⟨_, hm⟩
        · exact ⟨o, stays b o hb e⟩
  let Hf : Option HO → Hp := fun u b => if b ∈ T then some (.tbl #[]) else if b = a then u else none
  have hf : ∀ u b, b ∈ T → Hf u b = some (.tbl #[]) := fun u b hb => if_pos hb
  have hf2 : ∀ u b, b ∉ T → b ≠ a → Hf u b = none := fun u b hb hn => (if_neg hb).trans (if_neg hn)
  have hf3 : ∀ u, Hf u a = u := fun u => (if_neg aT).trans (if_pos rfl)
  cases hk : (K w.params).lookup a with
  | some o =>
    have e := inK a o hk
    rw [obj] at e
    cases e
    refine go (Hf none) (hf none) (fun b hb => ?_) (.inr ⟨_, us.toArray, _, hk, rfl, rfl, rfl, ?_, by simpa using rv⟩)
      (fun b u z => ?_) (fun b z => ?_) fun z => absurd (hf3 none) z
    · by_cases hn : b = a
      · rw [hn]; exact .inl (hf3 none)
      · exact .inl (hf2 none b hb hn)
    · rw [List.size_toArray, nv]
      exact small
    · by_cases hb : b ∈ T
      · rw [hf none b hb] at z
        cases z
        exact isT b hb
      · by_cases hn : b = a
        · rw [hn, hf3] at z; cases z
        · rw [hf2 none b hb hn] at z; cases z
    · by_cases hb : b ∈ T
      · exact .inr hb
      · by_cases hn : b = a
        · exact .inl hn
        · exact absurd (hf2 none b hb hn) z
  | none =>
    let ob : Obj := { cls := .type "list", data := .seq us.toArray }
    refine go (Hf (some (.frz ob (.lst (ns.map V.int))))) (hf _) (fun b hb => ?_) (.inl (.inr ⟨ob, hf3 _⟩)) (fun b u z => ?_) (fun b z => ?_) fun _ => hk
    · by_cases hn : b = a
      · rw [hn]; exact .inr ⟨_, _, hf3 _⟩
      · exact .inl (hf2 _ b hb hn)
    · by_cases hb : b ∈ T
      · rw [hf _ b hb] at z
        cases z
        exact isT b hb
      · by_cases hn : b = a
        · rw [hn, hf3] at z
          cases z
          rw [hn]
          exact ⟨obj, by rw [List.length_map]; exact small, us, _, rv, obj⟩
        · rw [hf2 _ b hb hn] at z; cases z
    · by_cases hb : b ∈ T
      · exact .inr hb
      · by_cases hn : b = a
        · exact .inl hn
        · exact absurd (hf2 _ b hb hn) z
end Cl

namespace Cl
open PySem PySem.Spec PyProof.Rows L2
open GxR (TabB TabG Tabbed GenS)
/-! ### all(is_whole(part) for part in thing) -/
/-- a tuple of these parts, or another thing -/
def Th (K : PySem.W.Frag) (H : Hp) (v : V) : Option (List V) → Prop
  | none => ∃ T, Kd K H v T ∧ T ≠ "tuple"
  | some xs => ∃ a, v = .ref a ∧ SqT K H a xs ∧ ∀ x ∈ xs, ∃ T, Kd K H x T
theorem Kd.same {K : PySem.W.Frag} {H H' : Hp} {v : V} {T : String} (h : Kd K H v T) (s : Same H H') : Kd K H' v T := by
  cases h with
  | non => exact .non
  | bl b => exact .bl b
  | int i => exact .int i
  | str x => exact .str x
  | lst h => exact .lst (by
      rcases h with (h | ⟨o, h⟩) | h
      · exact .inl (.inl (s _ _ h))
      · exact .inl (.inr ⟨o, s _ _ h⟩)
      · exact .inr h)
  | tup h => exact .tup (seT s h)
  | dct h => exact .dct (s _ _ h)
theorem Th.same {K : PySem.W.Frag} {H H' : Hp} {v : V} {o : Option (List V)} (h : Th K H v o) (s : Same H H') : Th K H' v o := by
  cases o with
  | none => obtain ⟨T, h, n⟩ := h; exact ⟨T, h.same s, n⟩
  | some xs => obtain ⟨a, e, h, p⟩ := h; exact ⟨a, e, seT s h, fun x hx => let ⟨T, q⟩ := p x hx; ⟨T, q.same s⟩⟩
def wholes : Option (List V) → Int → Bool
  | none, _ => false
  | some xs, m => decide ((xs.length : Int) = m) && xs.all isI
def spAre (K : PySem.W.Frag) (P : Addr) : Sp := fun vs H Q _ => ∃ v m o, vs = [v, .int m] ∧ TabG H P ∧ Th K H v o ∧ ∀ H', Same H H' → Q (.bl (wholes o m)) H'
/-- is_whole(u), told quietly -/
def okQ (K : PySem.W.Frag) (h : Heap) (u : Value) (b : Bool) : Prop := ∃ T b1 b2, KQ K h u T ∧ kitB T "int" = some b1 ∧ kitB T "bool" = some b2 ∧ b = (b1 && !b2)
section
variable {P : Program} {w : World} {K : PySem.W.Frag} {mg : Str → Option Value}
theorem elt_qw {fn x : Str} {f : Addr} {p1 p2 p3 : Pos} {scope : Scope} {D : Nat} {Cp : List (Str × Addr) → Heap → Prop} (W : QW P w K mg f) (hD : D < recursionLimit) (hf : mg fn = some (.ref f)) (hkf : PySem.W.keepIn K (.ref f) = true)
    (hk : scope.kind = .function) (hl : scope.names.lookup x = some .local) (hg : scope.names.lookup fn = some .globalImplicit) (hd : (x == ("__debug__" : Str)) = false := by decide) (hdf : (fn == ("__debug__" : Str)) = false := by decide) :
    EltT P w K mg scope x (.Call (.Name fn p1) [.Name x p2] [] p3) D Cp (okQ K) := by
  intro cenv A' E' u b s m hA hdep hs hglo hblt St hcp hn hm ok
  obtain ⟨T, b1, b2, q, e1, e2, rfl⟩ := ok
  refine wpAny_Call_Name_kw (Calls.Name_function_global (by rw [hs]; exact hk) (show cenv.scope.names.lookup fn = some .globalImplicit by rw [hs]; exact hg) (Calls.loadGlobal_global (by rw [hglo]; exact St.2.1) hf ?_) hdf)
  refine PySem.W.callWith_K (h₀ := s.heap) (first := []) St.1 hkf ?_
  show wpAny _ _ (spliced [(false, eval (.Name x p2) cenv)]) _ _ s
  refine Calls.spliced_cons (wpAny_Name (wpAny_loadName_local (by rw [hs]; exact hk) (show cenv.scope.names.lookup x = some .local by rw [hs]; exact hl) hn hm ?_) hd)
  refine Calls.spliced_nil ⟨St.1, wpAny_call (codeAny_mono (W.run A' s u T b1 b2 (by omega) St q e1 e2) fun res s' hq => ?_)⟩
  obtain ⟨rfl, k⟩ := hq
  exact ⟨rfl, k⟩
theorem okQ.keeps {h h' : Heap} {u : Value} {b : Bool} (q : okQ K h u b) (k : ∀ a o, u = .ref a → h.get? a = some o → h'.get? a = some o) : okQ K h' u b := by
  obtain ⟨T, b1, b2, q, e⟩ := q
  exact ⟨T, b1, b2, q.keeps k, e⟩
theorem okQ.cls {h : Heap} {u : Value} {b : Bool} {a : Addr} (q : okQ K h u b) (e : u = .ref a) : ∃ o, h.get? a = some o ∧ o.cls ≠ .none := by
  obtain ⟨T, b1, b2, q, _⟩ := q
  obtain ⟨_, _, _, _, _, c⟩ := q
  obtain ⟨o, g, w⟩ := c a e
  exact ⟨o, g, by rw [w]; exact fun z => nomatch z⟩
theorem okQ.of {X : Cx} {pins : List (Addr × Obj)} {σ : L2.St} {H : Hp} {s : Shared} {v : V} {T : String} {u : Value} (I : Inv X pins σ H s) (h : Kd X.K H v T) (r : RelV v u) : okQ X.K s.heap u (isI v) := by
  refine ⟨T, _, _, h.kq I r, h.int?, h.bool?, ?_⟩
  cases v <;> first | rfl | (rename_i b; cases b <;> rfl)
end
end Cl
namespace Cl
open PySem PySem.Spec PyProof.Rows L2
open GxR (TabB TabG Tabbed GenS)
section
variable {X : Cx}
theorem pe_allW {c P f : Addr} {iter : Expr} {fn x : Str} {px p pos gpos p1 p2 p3 : Pos} {scope : Scope} {te : TE} {k : Nat}
    (hr : Room k X.A) (hD : X.A.depth + 1 < recursionLimit) (hg : Gl X "all") (hm : X.mg "all" = none) (TB : TabB X.base X.mg c P) (hcode : X.env.code = .ref c) (W : QW X.prog X.w X.K X.mg f) (hf : X.mg fn = some (.ref f)) (hkf : PySem.W.keepIn X.K (.ref f) = true)
    (hi : PE X iter te) (S : GenS X.env scope x) (hgf : scope.names.lookup fn = some .globalImplicit) (hs : ∀ v, genFold iter X.env v = pure v := by intro _; rfl)
    (hd : (x == ("__debug__" : Str)) = false := by decide) (hdf : (fn == ("__debug__" : Str)) = false := by decide)
    (he : starEach [.GeneratorExp (.Call (.Name fn p1) [.Name x p2] [] p3) [⟨.Name x px, iter, [], 0⟩] scope gpos] X.env = (false, eval (.GeneratorExp (.Call (.Name fn p1) [.Name x p2] [] p3) [⟨.Name x px, iter, [], 0⟩] scope gpos) X.env) :: starEach [] X.env := by rfl) :
    PE X (.Call (.Name "all" p) [.GeneratorExp (.Call (.Name fn p1) [.Name x p2] [] p3) [⟨.Name x px, iter, [], 0⟩] scope gpos] [] pos) (tAllT X.K P (fun _ _ => True) (fun H v b => ∃ T, Kd X.K H v T ∧ b = isI v) te) :=
  pe_allT (Cp := fun _ _ => True) (ok := okQ X.K) hr hg hm TB hcode S hi (elt_qw W hD hf hkf S.kind S.loc hgf hd hdf) (fun _ _ _ _ q k => q.keeps k) (fun _ _ _ _ q e => q.cls e)
    (fun I r ⟨T, h, e⟩ => by rw [e]; exact .of I h r) (fun _ _ => trivial) (fun _ _ _ q => q) trivial hs he
end
end Cl
namespace Cl
open PySem PySem.Spec PyProof.Rows L2
open GxR (TabB TabG Tabbed GenS)
theorem roomD {k : Nat} {A : Around} (r : Room k A) : A.depth + 1 < recursionLimit := by have := r.dp; omega
theorem genS {env : Env} {scope : Scope} {x : Str} (h1 : scope.kind = .function) (h2 : scope.isCoroutine = false) (h3 : ∀ y ∈ scope.names, y.2 ≠ .cell ∧ y.2 ≠ .free) (h4 : scope.names.lookup (".0" : Str) = some NameKind.local) (h5 : scope.names.lookup x = some .local) : GenS env scope x :=
  ⟨h1, h2, fun y h => (h3 y h).1, h4, h5, fun y h e => absurd e (h3 y h).2⟩
end Cl

namespace Cl
open PySem PySem.Spec PyProof.Rows L2
/-! ### pairs of whole numbers -/
def pd (p : Int × Int) : PyData := .tuple [.int p.1, .int p.2]
def At2 (K : PySem.W.Frag) (H : Hp) (v : V) (p : Int × Int) : Prop := ∃ a, v = .ref a ∧ SqT K H a [.int p.1, .int p.2]
def llt (p q : Int × Int) : Bool := decide (p.1 < q.1 ∨ (p.1 = q.1 ∧ p.2 < q.2))
def mn (p q : Int × Int) : Int × Int := if llt q p then q else p
def mx (p q : Int × Int) : Int × Int := if llt p q then q else p
theorem At2.dp {K : PySem.W.Frag} {H : Hp} {v : V} {p : Int × Int} (h : At2 K H v p) : Dp K H v (pd p) := by
  obtain ⟨a, rfl, h⟩ := h
  exact .tup h (.cons (.int _) (.cons (.int _) .nil))
theorem At2.same {K : PySem.W.Frag} {H H' : Hp} {v : V} {p : Int × Int} (h : At2 K H v p) (s : Same H H') : At2 K H' v p := by
  obtain ⟨a, rfl, h⟩ := h
  exact ⟨a, rfl, seT s h⟩
theorem lt_pd (p q : Int × Int) : PySem.W.dataLt (pd p) (pd q) = llt p q := by
  obtain ⟨a, b⟩ := p
  obtain ⟨c, d⟩ := q
  have e1 : PySem.W.keyToks (pd (a, b)) = [.inl 1, .inl a, .inl 1, .inl b, .inl 0] := by simp [pd, PySem.W.keyToks, PySem.W.keyToksAll]
  have e2 : PySem.W.keyToks (pd (c, d)) = [.inl 1, .inl c, .inl 1, .inl d, .inl 0] := by simp [pd, PySem.W.keyToks, PySem.W.keyToksAll]
  unfold PySem.W.dataLt llt
  rw [e1, e2, lex_self (O := itemOrd)]
  by_cases h : a = c
  · subst h
    rw [lex_self (O := itemOrd), lex_self (O := itemOrd)]
    by_cases h2 : b = d
    · subst h2
      rw [lex_self (O := itemOrd), lex_self (O := itemOrd)]
      simp
      rfl
    · rw [lex_diff (O := itemOrd) (by simpa using h2)]
      show decide (b < d) = _
      simp
  · rw [lex_diff (O := itemOrd) (by simpa using h)]
    show decide (a < c) = _
    simp [h]
theorem alike_pd (p q : Int × Int) : PySem.W.alike (pd p) (pd q) = true := rfl
theorem pd_inj {p q : Int × Int} (h : pd p = pd q) : p = q := by
  unfold pd at h
  injection h with h
  injection h with h1 h2
  injection h1 with h1
  injection h2 with h2 _
  injection h2 with h2
  exact Prod.ext h1 h2
section
variable {X : Cx}
def rCmp2 (K : PySem.W.Frag) (f : Int × Int → Int × Int → Bool) : R2 := fun x y H Q => ∃ p q, At2 K H x p ∧ At2 K H y q ∧ Q (.bl (f p q)) H
theorem op_le2 (hu : X.A.units + 64 < cLine) : OpR X (compareOp .LtE) (rCmp2 X.K fun p q => !llt q p) := by
  intro pins s σ H x y v u Q I rx ry ⟨p, q, hp, hq, h⟩
  obtain ⟨as, r1⟩ := Dp.reads I _ x v hp.dp rx
  obtain ⟨bs, r2⟩ := Dp.reads I _ y u hq.dp ry
  exact PySem.W.le_data r1 r2 (alike_pd p q) (fun z => nomatch z) (by show X.A.units + min 1 1 < cLine; omega) ⟨.bl _, H, I, rfl, by rw [lt_pd]; exact h⟩
theorem op_gt2 (hu : X.A.units + 64 < cLine) : OpR X (compareOp .Gt) (rCmp2 X.K fun p q => llt q p) := by
  intro pins s σ H x y v u Q I rx ry ⟨p, q, hp, hq, h⟩
  obtain ⟨as, r1⟩ := Dp.reads I _ x v hp.dp rx
  obtain ⟨bs, r2⟩ := Dp.reads I _ y u hq.dp ry
  exact PySem.W.gt_data r1 r2 (alike_pd p q) (fun z => nomatch z) (by show X.A.units + min 1 1 < cLine; omega) ⟨.bl _, H, I, rfl, by rw [lt_pd]; exact h⟩

/-- min, max of a tuple of two pairs: the pair itself -/
def rBest1 (K : PySem.W.Frag) (f : Int × Int → Int × Int → Int × Int) : List V → Hp → VK → Prop := fun xs H Q =>
  ∃ a u v p q, xs = [.ref a] ∧ SqT K H a [u, v] ∧ At2 K H u p ∧ At2 K H v q ∧ ∀ w, (w = u ∨ w = v) → At2 K H w (f p q) → Q w H
def rBest2 (K : PySem.W.Frag) (f : Int × Int → Int × Int → Int × Int) : List V → Hp → VK → Prop := fun xs H Q =>
  ∃ u v p q, xs = [u, v] ∧ At2 K H u p ∧ At2 K H v q ∧ ∀ w, (w = u ∨ w = v) → At2 K H w (f p q) → Q w H
theorem pick2 {pins : List (Addr × Obj)} {σ : L2.St} {H : Hp} {s : Shared} {h' : Heap} {tk : Nat} {u v : V} {u0 v0 w0 : Value} {p q r : Int × Int} {bs : List Addr} {Q : VK} {i : Nat}
    (I : Inv X pins σ H s) (hk : ∀ b o, s.heap.get? b = some o → h'.get? b = some o) (ru : RelV u u0) (rv : RelV v v0) (hu : At2 X.K H u p) (hv : At2 X.K H v q)
    (e : #[u0, v0][i]? = some w0) (rd : Reads h' w0 (pd r) bs) (h : ∀ w, (w = u ∨ w = v) → At2 X.K H w r → Q w H) :
    EP X pins σ Q w0 { s with heap := h', toks := tk } := by
  have J : Inv X pins σ H { s with heap := h', toks := tk } := I.kept hk
  match i, e with
  | 0, e =>
    cases e
    obtain ⟨as, r1⟩ := Dp.reads J _ u u0 hu.dp ru
    have e2 := pd_inj (rd.unique _ _ r1).1
    subst e2
    exact ⟨u, H, J, ru, h u (.inl rfl) hu⟩
  | 1, e =>
    cases e
    obtain ⟨as, r1⟩ := Dp.reads J _ v v0 hv.dp rv
    have e2 := pd_inj (rd.unique _ _ r1).1
    subst e2
    exact ⟨v, H, J, rv, h v (.inr rfl) hv⟩
  | i + 2, e => exact absurd e (by simp)
theorem all_alike (p q : Int × Int) : PySem.W.AlikeAll [pd p, pd q] := by
  constructor
  · intro x hx y hy
    simp only [List.mem_cons, List.not_mem_nil, or_false] at hx hy
    rcases hx with rfl | rfl <;> rcases hy with rfl | rfl <;> rfl
  · intro x hx
    simp only [List.mem_cons, List.not_mem_nil, or_false] at hx
    rcases hx with rfl | rfl <;> exact fun z => nomatch z
theorem best_mn (p q : Int × Int) : PySem.W.minD (pd p) [pd q] = pd (mn p q) := by
  unfold PySem.W.minD mn
  simp only [List.foldl, lt_pd]
  split <;> rfl
theorem best_mx (p q : Int × Int) : PySem.W.maxD (pd p) [pd q] = pd (mx p q) := by
  unfold PySem.W.maxD mx
  simp only [List.foldl, lt_pd]
  split <;> rfl
theorem cr_min1 (hc : X.calm = true) (hu : X.A.units + 64 < cLine) : CallR X (.builtin "min") (rBest1 X.K mn) := by
  intro pins s σ H xs us Q I r ⟨a, u, v, p, q, e, hS, hp, hq, h⟩
  subst e
  rw [Vals.ref1 r]
  obtain ⟨its, rv, ht, hz⟩ := I.tuple hS
  obtain ⟨u0, v0, rfl, r1, r2⟩ := vals2 rv
  obtain ⟨as, rd1⟩ := Dp.reads I _ u u0 hp.dp r1
  obtain ⟨bs, rd2⟩ := Dp.reads I _ v v0 hq.dp r2
  refine PySem.W.min_tuple_data (x := pd p) (xs := [pd q]) (I.ok.hd hc) ht (.cons rd1 (.cons rd2 .nil)) (all_alike p q) (by show X.A.units + 1 + max 1 (max 1 0) < cLine; omega) fun i w h' tk cs hi rd hk => ?_
  rw [best_mn] at rd
  exact pick2 I hk r1 r2 hp hq hi rd h
theorem cr_max1 (hc : X.calm = true) (hu : X.A.units + 64 < cLine) : CallR X (.builtin "max") (rBest1 X.K mx) := by
  intro pins s σ H xs us Q I r ⟨a, u, v, p, q, e, hS, hp, hq, h⟩
  subst e
  rw [Vals.ref1 r]
  obtain ⟨its, rv, ht, hz⟩ := I.tuple hS
  obtain ⟨u0, v0, rfl, r1, r2⟩ := vals2 rv
  obtain ⟨as, rd1⟩ := Dp.reads I _ u u0 hp.dp r1
  obtain ⟨bs, rd2⟩ := Dp.reads I _ v v0 hq.dp r2
  refine PySem.W.max_tuple_data (x := pd p) (xs := [pd q]) (I.ok.hd hc) ht (.cons rd1 (.cons rd2 .nil)) (all_alike p q) (by show X.A.units + 1 + max 1 (max 1 0) < cLine; omega) fun i w h' tk cs hi rd hk => ?_
  rw [best_mx] at rd
  exact pick2 I hk r1 r2 hp hq hi rd h
/-- max(u, v), min(u, v) of two pairs -/
theorem cr_max2 (hc : X.calm = true) (hu : X.A.units + 64 < cLine) : CallR X (.builtin "max") (rBest2 X.K mx) := by
  intro pins s σ H xs us Q I r ⟨u, v, p, q, e, hp, hq, h⟩
  subst e
  obtain ⟨u0, v0, rfl, r1, r2⟩ := vals2 r
  have nm : (toString "max" ++ toString ".loop" : String) = "max.loop" := by decide
  have bp : Builtin.Builtins.bindParams "max" ["key", "default"] 0 ⟨[], []⟩ = pure [none, none] := rfl
  refine call_function_tree F.kind_max F.plain_max F.entry_max (F.args_max2 _ _) ?_
  show wpAny _ X.A.in1 (Builtin.Builtins.bindParams "max" ["key", "default"] 0 ⟨[], []⟩ >>= _) _ _ s
  refine wpAny_bind (wpAny_of_eq bp ?_)
  show wpAny _ X.A.in1 (newTuple [u0, v0] >>= _) _ _ s
  refine wpAny_bind (wpAny_newObj_type ?_)
  have I1 : Inv X pins σ H { s with heap := s.heap.push { cls := .type "tuple", data := .seq #[u0, v0] } } :=
    I.kept (t' := s.toks) fun b ob z => Heap.get?_push_of_some _ z
  obtain ⟨as, rd1⟩ := Dp.reads I1 _ u u0 hp.dp r1
  obtain ⟨bs, rd2⟩ := Dp.reads I1 _ v v0 hq.dp r2
  have rds : ReadsAll (s.heap.push { cls := .type "tuple", data := .seq #[u0, v0] }) [u0, v0] [pd p, pd q] _ := .cons rd1 (.cons rd2 .nil)
  have cm := PySem.W.cmpIn_gt (prog := X.prog) (w := X.w) (A := X.A.in1) (s := { s with heap := s.heap.push { cls := .type "tuple", data := .seq #[u0, v0] } }) (vs := #[u0, v0]) rds (all_alike p q)
    (by show X.A.units + 1 + max 1 (max 1 0) < cLine; omega)
  refine wpAny_bind (wpAny_mono (PySem.W.iter_tupleW (A := X.A.in1) (vs := #[u0, v0]) (I.ok.hd hc) ⟨_, Heap.get?_push_size _ rfl, rfl, _, rfl⟩ (Q := fun it s2 => ∃ I' fp wr, ∃ G : Array GenState → Array GenState → Prop, ∃ St : Nat → Shared → Prop, it = .ref I' ∧
    WalksS X.prog X.w X.A.in1 I' fp wr G 2 (fun i v => #[u0, v0][i]? = some v) St ∧ St 0 s2 ∧ (∀ b ∈ fp, b < s2.heap.objs.size) ∧ (∀ b o, (s.heap.push { cls := .type "tuple", data := .seq #[u0, v0] }).get? b = some o → b ∉ wr) ∧
    (∀ b o, (s.heap.push { cls := .type "tuple", data := .seq #[u0, v0] }).get? b = some o → s2.heap.get? b = some o) ∧ s2.os = s.os ∧ s2.gens = s.gens ∧ G = (fun a b => b = a) ∧ s2.drawn = s.drawn) fun s2 e2 W st hfp hw hk => ?_) (fun it s2 hh => ?_) fun _ _ z => z)
  · exact ⟨_, _, _, _, _, rfl, W, st, hfp, hw, hk, by rw [e2], by rw [e2], rfl, by rw [e2]⟩
  · obtain ⟨I', fp, wr, G, St, rfl, W, hst, hfp, hw, hkeep, eo, eg, hG, ed⟩ := hh
    refine wpAny_bind (wpAny_newObj_type ?_)
    have hSf : s2.heap.objs.size ∉ fp := fun hm => Nat.lt_irrefl _ (hfp _ hm)
    rw [nm]
    refine wpAny_pure ⟨plainId_quiet F.plain_max_loop _, codeAny_max_loop_firstH W _ hw _ cm s2.heap.objs.size hSf (fresh_in hkeep) _ (by decide)
      (fun b o e => Heap.get?_push_of_some _ (hkeep b o e)) (W.frame 0 s2 _ s2.toks hst (Nat.le_refl _) fun b _ o e => Heap.get?_push_of_some _ e) (Heap.get?_push_size _ rfl) fun v' s' hP hm => ?_⟩
    have m := Moved.drop_new (tk := s2.toks) hm (Nat.le_refl _)
    have eb : argBest (fun i j => PySem.W.dataLt ([pd p, pd q].getD j PyData.none) ([pd p, pd q].getD i PyData.none)) (2 - 1) = if llt p q = true then 1 else 0 := by
      show (if PySem.W.dataLt (pd p) (pd q) = true then 1 else 0) = _
      rw [lt_pd]
    rw [eb] at hP
    have hs' : s' = { s with heap := s'.heap, toks := s'.toks } := by
      obtain ⟨hp', g', d', tk', os'⟩ := s'
      have h1 := m.gens
      rw [hG] at h1
      have h1 : g' = s.gens := h1.trans eg
      have h2 : d' = s.drawn := m.drawn.trans ed
      have h3 : os' = s.os := m.os.trans eo
      subst h1 h2 h3
      rfl
    have J : Inv X pins σ H { s with heap := s'.heap, toks := s'.toks } := I.kept fun b o z => by
      have z1 := Heap.get?_push_of_some { cls := .type "tuple", data := .seq #[u0, v0] } z
      exact m.heap b o (hw _ _ z1) (hkeep _ _ z1)
    rw [hs']
    cases hl : llt p q with
    | true =>
      rw [hl] at hP
      cases hP
      have e3 : mx p q = q := if_pos hl
      exact ⟨v, H, J, r2, h v (.inr rfl) (by rw [e3]; exact hq)⟩
    | false =>
      rw [hl] at hP
      cases hP
      have e3 : mx p q = p := if_neg (by rw [hl]; decide)
      exact ⟨u, H, J, r1, h u (.inl rfl) (by rw [e3]; exact hp)⟩
/-- min(u, v) of two pairs -/
theorem cr_min2 (hc : X.calm = true) (hu : X.A.units + 64 < cLine) : CallR X (.builtin "min") (rBest2 X.K mn) := by
  intro pins s σ H xs us Q I r ⟨u, v, p, q, e, hp, hq, h⟩
  subst e
  obtain ⟨u0, v0, rfl, r1, r2⟩ := vals2 r
  have nm : (toString "min" ++ toString ".loop" : String) = "min.loop" := by decide
  have bp : Builtin.Builtins.bindParams "min" ["key", "default"] 0 ⟨[], []⟩ = pure [none, none] := rfl
  refine call_function_tree F.kind_min F.plain_min F.entry_min (F.args_min2 _ _) ?_
  show wpAny _ X.A.in1 (Builtin.Builtins.bindParams "min" ["key", "default"] 0 ⟨[], []⟩ >>= _) _ _ s
  refine wpAny_bind (wpAny_of_eq bp ?_)
  show wpAny _ X.A.in1 (newTuple [u0, v0] >>= _) _ _ s
  refine wpAny_bind (wpAny_newObj_type ?_)
  have I1 : Inv X pins σ H { s with heap := s.heap.push { cls := .type "tuple", data := .seq #[u0, v0] } } :=
    I.kept (t' := s.toks) fun b ob z => Heap.get?_push_of_some _ z
  obtain ⟨as, rd1⟩ := Dp.reads I1 _ u u0 hp.dp r1
  obtain ⟨bs, rd2⟩ := Dp.reads I1 _ v v0 hq.dp r2
  have rds : ReadsAll (s.heap.push { cls := .type "tuple", data := .seq #[u0, v0] }) [u0, v0] [pd p, pd q] _ := .cons rd1 (.cons rd2 .nil)
  have cm := PySem.W.cmpIn_lt (prog := X.prog) (w := X.w) (A := X.A.in1) (s := { s with heap := s.heap.push { cls := .type "tuple", data := .seq #[u0, v0] } }) (vs := #[u0, v0]) rds (all_alike p q)
    (by show X.A.units + 1 + max 1 (max 1 0) < cLine; omega)
  refine wpAny_bind (wpAny_mono (PySem.W.iter_tupleW (A := X.A.in1) (vs := #[u0, v0]) (I.ok.hd hc) ⟨_, Heap.get?_push_size _ rfl, rfl, _, rfl⟩ (Q := fun it s2 => ∃ I' fp wr, ∃ G : Array GenState → Array GenState → Prop, ∃ St : Nat → Shared → Prop, it = .ref I' ∧
    WalksS X.prog X.w X.A.in1 I' fp wr G 2 (fun i v => #[u0, v0][i]? = some v) St ∧ St 0 s2 ∧ (∀ b ∈ fp, b < s2.heap.objs.size) ∧ (∀ b o, (s.heap.push { cls := .type "tuple", data := .seq #[u0, v0] }).get? b = some o → b ∉ wr) ∧
    (∀ b o, (s.heap.push { cls := .type "tuple", data := .seq #[u0, v0] }).get? b = some o → s2.heap.get? b = some o) ∧ s2.os = s.os ∧ s2.gens = s.gens ∧ G = (fun a b => b = a) ∧ s2.drawn = s.drawn) fun s2 e2 W st hfp hw hk => ?_) (fun it s2 hh => ?_) fun _ _ z => z)
  · exact ⟨_, _, _, _, _, rfl, W, st, hfp, hw, hk, by rw [e2], by rw [e2], rfl, by rw [e2]⟩
  · obtain ⟨I', fp, wr, G, St, rfl, W, hst, hfp, hw, hkeep, eo, eg, hG, ed⟩ := hh
    refine wpAny_bind (wpAny_newObj_type ?_)
    have hSf : s2.heap.objs.size ∉ fp := fun hm => Nat.lt_irrefl _ (hfp _ hm)
    rw [nm]
    refine wpAny_pure ⟨plainId_quiet F.plain_min_loop _, codeAny_min_loop_firstH W _ hw _ cm s2.heap.objs.size hSf (fresh_in hkeep) _ (by decide)
      (fun b o e => Heap.get?_push_of_some _ (hkeep b o e)) (W.frame 0 s2 _ s2.toks hst (Nat.le_refl _) fun b _ o e => Heap.get?_push_of_some _ e) (Heap.get?_push_size _ rfl) fun v' s' hP hm => ?_⟩
    have m := Moved.drop_new (tk := s2.toks) hm (Nat.le_refl _)
    have eb : argBest (fun i j => PySem.W.dataLt ([pd p, pd q].getD i PyData.none) ([pd p, pd q].getD j PyData.none)) (2 - 1) = if llt q p = true then 1 else 0 := by
      show (if PySem.W.dataLt (pd q) (pd p) = true then 1 else 0) = _
      rw [lt_pd]
    rw [eb] at hP
    have hs' : s' = { s with heap := s'.heap, toks := s'.toks } := by
      obtain ⟨hp', g', d', tk', os'⟩ := s'
      have h1 := m.gens
      rw [hG] at h1
      have h1 : g' = s.gens := h1.trans eg
      have h2 : d' = s.drawn := m.drawn.trans ed
      have h3 : os' = s.os := m.os.trans eo
      subst h1 h2 h3
      rfl
    have J : Inv X pins σ H { s with heap := s'.heap, toks := s'.toks } := I.kept fun b o z => by
      have z1 := Heap.get?_push_of_some { cls := .type "tuple", data := .seq #[u0, v0] } z
      exact m.heap b o (hw _ _ z1) (hkeep _ _ z1)
    rw [hs']
    cases hl : llt q p with
    | true =>
      rw [hl] at hP
      cases hP
      have e3 : mn p q = q := if_pos hl
      exact ⟨v, H, J, r2, h v (.inr rfl) (by rw [e3]; exact hq)⟩
    | false =>
      rw [hl] at hP
      cases hP
      have e3 : mn p q = p := if_neg (by rw [hl]; decide)
      exact ⟨u, H, J, r1, h u (.inl rfl) (by rw [e3]; exact hp)⟩
end
end Cl

namespace Cl
open PySem PySem.Spec PyProof.Rows L2
def pr (q : Addr × List Int) : Int × Int := (q.2.getD 0 0, q.2.getD 1 0)
def le2 (q r : Addr × List Int) : Prop := llt (pr r) (pr q) = false
theorem pr_of {q : Addr × List Int} (h : q.2.length = 2) : q.2 = [(pr q).1, (pr q).2] := by
  obtain ⟨a, xs⟩ := q
  match xs, h with
  | [x, y], _ => rfl
section
variable {P : Program} {w : World} {A : Around} {E : Value → Shared → Prop} {s : Shared} {a : Addr} {L : List (Addr × List Int)}
  {es : Array (Int × Value)} {ep : Nat} {t : SetTable} {Q : Value → Shared → Prop}
/-- sorted(set) of pairs of any whole numbers -/
theorem sorted_set2 (R : SetTR P w s.heap a L es ep t) (hh : A.handled = none) (h2 : ∀ p ∈ L, p.2.length = 2) (hu : A.units + 64 < cLine)
    (hQ : ∀ s' p (out : Array Value) (c : Nat) (L' : List (Addr × List Int)), (∀ b o, s.heap.get? b = some o → s'.heap.get? b = some o) →
      s'.gens = s.gens → s'.os = s.os → s.heap.objs.size ≤ p → s'.heap.get? p = some (seqObj "list" out c) →
      out.toList = L'.map (fun q => Value.ref q.1) → L'.Perm L → L'.Pairwise le2 → Q (.ref p) s') :
    wpAny (model P w) A (call (.builtin "sorted") [.ref a]) Q E s := by
  obtain ⟨o, ho, hex, hd⟩ := R.ob
  have nfew := R.few
  refine Calls.call_function_entry kind_sorted plain_sorted entry_sorted (args_sorted1 _) ?_
  unfold Builtin.«sorted»
  refine wpAny_bind (m := checkCount "sorted" 1 1 _) (wpAny_pure ?_)
  refine wpAny_bind (collect_set (A := A.in1) hh ⟨o, ho, hex.1, hd⟩ R.fits (by unfold scanBound; have := R.size; omega) R.tab.ris R.led fun s1 vs k1 hz g1 o1 pm => ?_)
  have rows : es.toList.map (·.2) = L.map fun q => Value.ref q.1 := by
    rw [R.rows]
    unfold rowsOf
    rw [List.map_map]
    rfl
  rw [rows] at pm
  -- what was collected is the set's rows, put in some order
  obtain ⟨L1, e1, p1⟩ : ∃ L1 : List (Addr × List Int), vs = L1.map (fun q => Value.ref q.1) ∧ L1.Perm L := by
    clear hQ k1 g1 o1 hz
    have gen : ∀ (L : List (Addr × List Int)) (us vs : List Value), us = L.map (fun q => Value.ref q.1) → vs.Perm us → ∃ L1 : List (Addr × List Int), vs = L1.map (fun q => Value.ref q.1) ∧ L1.Perm L := by
      intro L us vs eu hp
      induction hp generalizing L with
      | nil =>
        cases L with
        | nil => exact ⟨[], rfl, .nil⟩
        | cons q L => cases eu
      | @cons x l1 l2 hp ih =>
        cases L with
        | nil => cases eu
        | cons q L =>
          rw [List.map_cons] at eu
          injection eu with e2 e3
          obtain ⟨L1, e4, p4⟩ := ih L e3
          exact ⟨q :: L1, by rw [List.map_cons, e2, e4], p4.cons q⟩
      | swap x y l =>
        match L, eu with
        | q :: r :: L, eu =>
          rw [List.map_cons, List.map_cons] at eu
          injection eu with e2 e3
          injection e3 with e3 e4
          exact ⟨r :: q :: L, by rw [List.map_cons, List.map_cons, e2, e3, e4], .swap ..⟩
        | [_], eu => cases eu
        | [], eu => cases eu
      | trans h1 h2 ih1 ih2 =>
        obtain ⟨L2, e2, p2⟩ := ih2 L eu
        obtain ⟨L1, e1, p1⟩ := ih1 L2 e2
        exact ⟨L1, e1, p1.trans p2⟩
    exact gen L _ vs rfl pm
  have n1 : vs.length = L.length := by rw [e1, List.length_map, p1.length_eq]
  have small : vs.length ≤ sizeLine := by rw [sizeLine_eq]; omega
  refine wpAny_bind (wpAny_newList ?_ small)
  have oL : (s1.heap.push (seqObj "list" vs.toArray 0)).get? s1.heap.objs.size = some (seqObj "list" vs.toArray 0) := Heap.get?_push_size _ rfl
  let enc : Addr × List Int → PyData := fun q => .tuple [.int (pr q).1, .int (pr q).2]
  have reads : ∀ q ∈ L, ∃ as, Reads (s1.heap.push (seqObj "list" vs.toArray 0)) (.ref q.1) (enc q) as ∧ s1.heap.objs.size ∉ as := fun q hq => by
    obtain ⟨ob, its, n, x1, x2, x3, x4⟩ := R.tup q hq
    have x5 := ints_of_items x4
    rw [pr_of (h2 q hq)] at x5
    have lt := Heap.lt_size x1
    have y1 := Heap.get?_push_of_some (seqObj "list" vs.toArray 0) (k1 _ _ x1)
    obtain ⟨l, el⟩ : ∃ l, its.toList = l := ⟨_, rfl⟩
    rw [el] at x5
    have ei : its = l.toArray := by rw [← el]
    subst ei
    match l, x5 with
    | [.int _ t1, .int _ t2], .cons _ _ (.cons _ _ .nil) =>
      refine ⟨_, Reads.tuple y1 x2 x3 (.cons (.int _ _) (.cons (.int _ _) .nil)), fun z => ?_⟩
      have z2 : s1.heap.objs.size = q.1 := by simpa using z
      exact absurd (Nat.lt_of_lt_of_le lt hz) (by rw [z2]; exact Nat.lt_irrefl _)
  have each : ∀ l : List (Addr × List Int), (∀ q ∈ l, q ∈ L) → PySem.W.EachIs (fun (v : Value) (q : Addr × List Int) => v = .ref q.1) (l.map fun q => Value.ref q.1) l ∧
      PySem.W.EachIs (fun v q => ∃ as, Reads (s1.heap.push (seqObj "list" vs.toArray 0)) v (enc q) as ∧ s1.heap.objs.size ∉ as) (l.map fun q => Value.ref q.1) l := by
    intro l
    induction l with
    | nil => intro _; exact ⟨.nil, .nil⟩
    | cons q l ih =>
      intro h
      obtain ⟨i1, i2⟩ := ih fun r hr => h r (List.mem_cons_of_mem _ hr)
      exact ⟨.cons rfl i1, .cons (reads q (h q List.mem_cons_self)) i2⟩
  obtain ⟨c1, c2⟩ := each L1 fun q hq => p1.mem_iff.mp hq
  rw [← e1] at c1 c2
  refine wpAny_bind (wpAny_holding (PySem.W.list_sort_data (s := { s1 with heap := s1.heap.push (seqObj "list" vs.toArray 0) }) (enc := enc) oL c1 c2 (.of fun _ _ => rfl) (.tuples fun b => ⟨_, _, rfl⟩) (by rw [p1.length_eq, sizeLine_eq]; omega)
    (fun b _ => by show A.in1.units + 1 + 1 < cLine; show A.units + 1 + 1 + 1 < cLine; omega) fun out a1 a2 => ?_))
  obtain ⟨c, hc⟩ := sortedHeap_at (vs := vs) (out := out.toArray) oL
  have eo : out = (L1.mergeSort (PySem.W.dataLe false enc)).map fun q => Value.ref q.1 := by
    revert a2
    generalize L1.mergeSort (PySem.W.dataLe false enc) = M
    intro a2
    clear hc a1
    induction a2 with
    | nil => rfl
    | cons h t ih => rw [List.map_cons, ← ih, h]
  have pM : (L1.mergeSort (PySem.W.dataLe false enc)).Perm L := (List.mergeSort_perm _ _).trans p1
  have pw : (L1.mergeSort (PySem.W.dataLe false enc)).Pairwise le2 := by
    have hle : PySem.W.dataLe false enc = fun p q => decide ((pr p).1 < (pr q).1 ∨ ((pr p).1 = (pr q).1 ∧ (pr p).2 ≤ (pr q).2)) :=
      PySem.W.dataLe_ii (fun q => (pr q).1) (fun q => (pr q).2)
    rw [hle]
    refine List.Pairwise.imp (fun {q r} h => ?_) (List.pairwise_mergeSort (fun p q r h1 h2 => ?_) (fun p q => ?_) L1)
    · have h := of_decide_eq_true h
      unfold le2 llt
      exact decide_eq_false (by omega)
    · have h1 := of_decide_eq_true h1
      have h2 := of_decide_eq_true h2
      exact decide_eq_true (by omega)
    · rw [Bool.or_eq_true, decide_eq_true_eq, decide_eq_true_eq]
      omega
  refine wpAny_pure ⟨_, rfl, hQ _ s1.heap.objs.size out.toArray c (L1.mergeSort (PySem.W.dataLe false enc)) (fun b u e => ?_) g1 o1 hz hc eo pM pw⟩
  have e5 := k1 b u e
  have lt5 := Heap.lt_size e5
  show (sortedHeap (s1.heap.push (seqObj "list" vs.toArray 0)) s1.heap.objs.size vs out.toArray).get? b = some u
  rw [sortedHeap_old (Nat.ne_of_lt lt5) (by rw [size_push']; exact Nat.lt_succ_of_lt lt5)]
  exact Heap.get?_push_of_some _ e5
end
section
variable {X : Cx}
def rSortedS2 (K : PySem.W.Frag) (P : Program) (w : World) : List V → Hp → VK → Prop := fun vs H Q => ∃ (a : Addr) (L : List (Addr × List Int)),
  vs = [V.ref a] ∧ H a = some (SetTO P w a L) ∧ (∀ p ∈ L, SqT K H p.1 (p.2.map V.int)) ∧ (∀ p ∈ L, p.2.length = 2) ∧
  ∀ L' : List (Addr × List Int), L'.Perm L → (L'.map (·.2)).Nodup → L'.Pairwise le2 → New H (.lst (L'.map fun q => V.ref q.1)) Q
theorem cr_sortedS2 (hc : X.calm = true) (hu : X.A.units + 64 < cLine) : CallR X (.builtin "sorted") (rSortedS2 X.K X.prog X.w) := by
  intro pins s σ H vs us Q I r ⟨a, L, e, ha, hk, h2, q⟩
  subst e
  obtain ⟨es, ep, t, R⟩ := SetT0.full (I.hok a _ ha).1 fun p hp => I.isT (hk p hp)
  rw [Vals.ref1 r]
  refine sorted_set2 R (I.ok.hd hc) h2 hu fun s' p out c L' k g o hp hg hout pm pw => ?_
  have few : L'.length < 64 := by rw [pm.length_eq]; exact R.few
  have len : (L'.map fun q => V.ref q.1).length ≤ sizeLine := by rw [List.length_map, sizeLine_eq]; omega
  have hn : H p = none := I.hok.fresh hp
  have hv : Vals (L'.map fun q => V.ref q.1) out.toList := by rw [hout]; exact vals_of_refs L'
  have J : Inv X pins σ (upd H p (.lst (L'.map fun q => V.ref q.1))) { s with heap := s'.heap, gens := s'.gens, drawn := s'.drawn, toks := s'.toks } :=
    I.call (ch := []) (Un.laid k hp hn) (I.hok.laid k hp ⟨len, out.toList, c, hv, hg⟩) (by rw [g]; exact I.bare) (fun _ z => nomatch z)
  have e : s' = { s with heap := s'.heap, gens := s'.gens, drawn := s'.drawn, toks := s'.toks } := by
    cases s'
    cases s
    cases o
    rfl
  rw [e]
  exact ⟨.ref p, _, J, rfl, (q L' pm ((pm.map (·.2)).nodup_iff.mpr R.nd) pw).go p hn⟩
def rSetN (K : PySem.W.Frag) (P : Program) (w : World) : List V → Hp → VK → Prop := fun xs H Q => ∃ (l : Addr) (ks : List (Addr × List Int)), xs = [V.ref l] ∧ SqL K H l (ks.map fun p => V.ref p.1) ∧
  (∀ p ∈ ks, SqT K H p.1 (p.2.map V.int)) ∧ ks.length < 64 ∧ ∀ a H' L, Same H H' → H a = none → H' a = some (SetTO P w a L) → (∀ p ∈ L, p ∈ ks) → (∀ p ∈ ks, p.2 ∈ L.map (·.2)) → Q (.ref a) H'
theorem cr_setN (hc : X.calm = true) (hu : X.A.units + 64 < cLine) : CallR X (.type "set") (rSetN X.K X.prog X.w) := by
  intro pins s σ H xs us Q I r ⟨l, ks, e, h1, h2, h3, q⟩
  exact cr_setOfT hc hu pins s σ H xs us Q I r ⟨l, ks, e, h1, h2, h3, fun a L n s1 s2 => q a _ L (same_new n) n upd_same s1 s2⟩
end
end Cl

namespace Cl
open PySem PySem.Spec PyProof.Rows L2 HT
/-! ### t[::-1] of a tuple -/
theorem rev_adjust (n : Nat) : Builtin.Slice.sliceAdjust none none (-1) (n : Int) = ((n : Int) - 1, -1) := rfl
theorem rev_places (n : Nat) : Builtin.Slice.slicePlaces ((n : Int) - 1) (-1) (-1) = n := by
  unfold Builtin.Slice.slicePlaces
  rw [if_neg (by decide)]
  split
  · rw [show ((n : Int) - 1 - -1 - 1) / (- -1) = (n : Int) - 1 by rw [show (- -1 : Int) = 1 by decide, Int.ediv_one]; omega]
    omega
  · omega
theorem fm_congr {α β : Type} {f g : α → Option β} : ∀ (l : List α), (∀ k ∈ l, f k = g k) → l.filterMap f = l.filterMap g
  | [], _ => rfl
  | x :: l, h => by
    rw [List.filterMap_cons, List.filterMap_cons, h x List.mem_cons_self, fm_congr l fun k hk => h k (List.mem_cons_of_mem _ hk)]
theorem rev_pick (xs : Array Value) : ((List.range xs.size).filterMap fun (k : Nat) => xs[((xs.size : Int) - 1 + (k : Int) * -1).toNat]?).toArray = xs.toList.reverse.toArray := by
  congr 1
  have e : (List.range xs.size).filterMap (fun (k : Nat) => xs[((xs.size : Int) - 1 + (k : Int) * -1).toNat]?) =
      ((List.range xs.size).map fun k => xs.size - 1 - k).filterMap (xs[·]?) := by
    rw [List.filterMap_map]
    refine fm_congr _ fun k hk => ?_
    have hk := List.mem_range.mp hk
    show xs[((xs.size : Int) - 1 + (k : Int) * -1).toNat]? = xs[xs.size - 1 - k]?
    congr 1
    omega
  rw [e, PySem.W.krv_range, List.filterMap_reverse, PySem.W.krv_all]
section
variable {prog : Program} {w : World} {A : Around} {E : Value → Shared → Prop} {s : Shared}
theorem getItem_tuple_rev {t sl : Addr} {items : Array Value} {tk : Tok} {Q : Value → Shared → Prop} (ht : IsTup s.heap t items)
    (hs : s.heap.IsSliceOf sl .none .none (.int (-1) tk)) (hsz : items.size ≤ sizeLine)
    (h : Q (.ref s.heap.objs.size) { s with heap := s.heap.push { cls := .type "tuple", data := .seq items.toList.reverse.toArray } }) :
    wpAny (model prog w) A (getItem (.ref t) (.ref sl)) Q E s := by
  obtain ⟨os, hos, hcs, hds⟩ := id hs
  have isS : s.TypeIs (.ref sl) "slice" := ⟨os, hos, hcs⟩
  have fits : sizeOk (.seq items.toList.reverse.toArray) := by
    show items.toList.reverse.toArray.size ≤ sizeLine
    rw [List.size_toArray, List.length_reverse, Array.length_toList]
    exact hsz
  unfold getItem
  try with_reducible refine wpAny_holding ?_
  first | refine wpAny_bind (wpAny_pure ?_) | skip
  refine wpAny_bind (wpAny_sequenceKey ht.typeIs (by decide) ?_)
  refine wpAny_bind (wpAny_callSpecial?_slot (name := Str.ofString "__getitem__") ht.typeIs PyProof.Rows.slot_tuple_getitem
    (wpAny_call_entry PyProof.Rows.slot_tuple_getitem ht.typeIs entry_tuple_getitem ?_ (args_tuple_getitem _ _)))
  show wpAny _ _ (Builtin.Tuple.tupleItemsOf (.ref t) >>= _) _ _ s
  refine wpAny_bind (tupleItemsOf_ ht ?_)
  refine wpAny_bind (wpAny_typeOf isS ?_)
  rw [if_pos (by decide)]
  have applied : ∀ (A' : Around) (E' : Value → Shared → Prop) (Q' : Int × Int × Nat → Shared → Prop), Q' ((items.size : Int) - 1, -1, items.size) s →
      wpAny (model prog w) A' (Builtin.Slice.sliceApplied (.ref sl) (pure (items.size : Int))) Q' E' s := fun A' E' Q' q => by
    unfold Builtin.Slice.sliceApplied Builtin.Slice.sliceFields
    refine wpAny_bind (wpAny_bind (wpAny_field hos hds (x := .none) rfl (wpAny_bind (wpAny_field hos hds (x := .none) rfl (wpAny_bind (wpAny_field hos hds (x := .int (-1) tk) rfl (wpAny_pure ?_)))))))
    refine wpAny_bind (slicePart_ (.int (-1) tk) ?_)
    show wpAny _ _ (if ((-1 : Int) == 0) = true then _ else _) _ _ s
    rw [if_neg (by decide)]
    refine wpAny_bind (slicePart_ .none (wpAny_bind (slicePart_ .none (wpAny_bind (wpAny_pure ?_)))))
    show wpAny _ _ (match Builtin.Slice.sliceAdjust none none (-1) (items.size : Int) with | (lo, hi) => pure (lo, (-1 : Int), Builtin.Slice.slicePlaces lo hi (-1))) _ _ s
    rw [rev_adjust]
    show wpAny _ _ (pure ((items.size : Int) - 1, (-1 : Int), Builtin.Slice.slicePlaces ((items.size : Int) - 1) (-1) (-1))) _ _ s
    rw [rev_places]
    exact wpAny_pure q
  refine wpAny_bind (applied _ _ _ ?_)
  have notw : ¬ ((((items.size : Int) - 1) == 0 && (-1 : Int) == 1 && items.size == items.size) = true) := by
    rw [show ((-1 : Int) == 1) = false by decide, Bool.and_false, Bool.false_and]
    decide
  show wpAny _ _ (if (((items.size : Int) - 1) == 0 && (-1 : Int) == 1 && items.size == items.size) = true then _ else _) _ _ s
  rw [if_neg notw, rev_pick]
  first
    | exact wpAny_bind (m := Builtin.Tuple.tupleExact _) (wpAny_newObj_type (wpAny_pure ⟨_, rfl, wpAny_pure h⟩) fits)
    | exact wpAny_bind (m := Builtin.Tuple.tupleExact _) (wpAny_newObj_type (wpAny_bind (wpAny_pure (wpAny_pure ⟨_, rfl, wpAny_pure h⟩))) fits)
    | exact wpAny_bind (wpAny_bind (m := Builtin.Tuple.tupleExact _) (wpAny_newObj_type (wpAny_pure (wpAny_pure ⟨_, rfl, wpAny_pure h⟩)) fits))
    | exact wpAny_bind (wpAny_bind (m := Builtin.Tuple.tupleExact _) (wpAny_newObj_type (wpAny_pure ⟨_, rfl, wpAny_pure h⟩) fits))
end
section
variable {X : Cx} {e : Expr} {te : TE}
def tRevT (K : PySem.W.Frag) (te : TE) : TE := fun σ H Q => te σ H fun x H1 => ∃ a xs, x = .ref a ∧ SqT K H1 a xs ∧ New H1 (.tup xs.reverse) Q
theorem pe_revT {p0 p1 p2 pos : Pos} {j : Nat} (he : PE X e te) :
    PE X (.Subscript e (.Slice none none (some (.UnaryOp .USub (.Constant (.int 1) j p0) p1)) p2) pos) (tRevT X.K te) := by
  constructor
  intro pins s σ H Q I h
  refine Subscript_ (thn (he.run pins s σ H _ I h) fun v s1 ⟨x, H1, I1, r1, a, xs, hx, hl, q⟩ => ?_)
  subst hx
  cases r1
  refine wpAny_Slice ?_
  rw [evalPart_none]
  refine wpAny_pure ?_
  refine wpAny_pure ?_
  rw [evalPart_some]
  have neg : PE X (.UnaryOp .USub (.Constant (.int 1) j p0) p1) _ := pe_un un_neg pe_int
  refine thn (neg.run pins s1 σ H1 (fun y H2 => y = .int (-1) ∧ H2 = H1) I1 ⟨1, rfl, rfl, rfl⟩) fun u s2 ⟨y, H2, I2, ry, hy, hH⟩ => ?_
  subst hy hH
  obtain ⟨t, rfl⟩ := ry
  have I4 : Inv X pins σ H2 { s2 with heap := s2.heap.push { cls := .type "slice", data := .fields #[.none, .none, .int (-1) t] } } :=
    I2.kept (t' := s2.toks) fun b ob z => Heap.get?_push_of_some _ z
  obtain ⟨its, r, ht, hz⟩ := I4.tuple hl
  have nl := r.length
  refine tail_any ht.typeIs PyProof.Rows.slot_tuple_getitem.lookup ?_ (by with_unfolding_all rfl)
  refine getItem_tuple_rev ht (Heap.IsSliceOf.new ..) (by rw [List.size_toArray] <;> omega) ?_
  refine ⟨.ref _, _, I4.laid (t' := s2.toks) (o := .tup xs.reverse) (fun b ob z => Heap.get?_push_of_some _ z) (Nat.le_refl _) ?_, rfl, q.go _ (I4.hok.fresh (Nat.le_refl _))⟩
  exact ⟨by rw [List.length_reverse]; exact hz, _, valsRev r, IsTup.new _ _⟩
end

/-! ### more rules that hand on a new object -/
section
variable {X : Cx}
def rCatTN (K : PySem.W.Frag) : R2 := fun x y H Q => ∃ a b xs ys, x = .ref a ∧ y = .ref b ∧ SqT K H a xs ∧ SqT K H b ys ∧ xs ≠ [] ∧ ys ≠ [] ∧
  xs.length + ys.length ≤ sizeLine ∧ New H (.tup (xs ++ ys)) Q
theorem op_catTN : OpR X (binaryOp .Add) (rCatTN X.K) := fun pins s σ H x y v u Q I rx ry ⟨a, b, xs, ys, h1, h2, h3, h4, h5, h6, h7, q⟩ =>
  op_catT pins s σ H x y v u Q I rx ry ⟨a, b, xs, ys, h1, h2, h3, h4, h5, h7, fun z => absurd z h6, fun _ => q.go⟩
def rCatLN : R2 := fun x y H Q => ∃ l b xs zs, x = .ref l ∧ y = .ref b ∧ H l = some (.lst xs) ∧ H b = some (.lst zs) ∧ xs.length + zs.length ≤ sizeLine ∧ New H (.lst (xs ++ zs)) Q
theorem op_catLN : OpR X (binaryOp .Add) rCatLN := fun pins s σ H x y v u Q I rx ry ⟨l, b, xs, zs, h1, h2, h3, h4, h5, q⟩ =>
  op_cat pins s σ H x y v u Q I rx ry ⟨l, b, xs, zs, h1, h2, h3, h4, h5, q.go⟩
theorem call_tuple_ofN : CallR X (.type "tuple") (fun xs H Q => ∃ p ys, xs = [.ref p] ∧ SqL X.K H p ys ∧ New H (.tup ys) Q) :=
  fun pins s σ H xs us Q I r ⟨p, ys, h1, h2, q⟩ => call_tuple_of pins s σ H xs us Q I r ⟨p, ys, h1, .inl ⟨h2, q.go⟩⟩
end
end Cl

namespace Cl
open PySem PySem.Spec PyProof.Rows L2
/-! ### what two lines have in common: the mathematics -/
abbrev Pt := Int × Int
abbrev Ln := Pt × Pt
abbrev S3 := Int × Int × Int
def trn (p q : Pt) : Int := p.1 * q.2 - p.2 * q.1
def less (p q : Pt) : Pt := (p.1 - q.1, p.2 - q.2)
def sp3 (n m d : Int) : S3 := (n / spP n m d, m / spP n m d, d / spP n m d)
theorem sp3_scale {n m d t : Int} (ht : 0 < t) (hd : 0 < d) : sp3 (n * t) (m * t) (d * t) = sp3 n m d := by
  have hdt : 0 < d * t := Int.mul_pos hd ht
  have e : spP (n * t) (m * t) (d * t) = spP n m d * t := by
    unfold spP gpar
    rw [if_neg (by omega), if_neg (by omega), Int.gcd_mul_right]
    have c : (((Int.gcd n m * t.natAbs : Nat)) : Int) = (Int.gcd n m : Nat) * t := by
      rw [Int.natCast_mul, Int.natAbs_of_nonneg (by omega)]
    rw [c, Int.gcd_mul_right, Int.natCast_mul, Int.natAbs_of_nonneg (by omega)]
  unfold sp3
  rw [e, Int.mul_ediv_mul_of_pos_left _ _ ht, Int.mul_ediv_mul_of_pos_left _ _ ht, Int.mul_ediv_mul_of_pos_left _ _ ht]
/-- the shares and their bottom, the bottom above nought -/
def kfs (l r : Ln) : Int := if trn (less l.2 l.1) (less r.2 r.1) < 0 then -1 else 1
def klm (l r : Ln) : Int × Int × Int :=
  (trn (less r.1 l.1) (less r.2 r.1) * kfs l r, trn (less r.1 l.1) (less l.2 l.1) * kfs l r, trn (less l.2 l.1) (less r.2 r.1) * kfs l r)
def acr (l r : Ln) : List S3 :=
  let t := klm l r
  if (0 ≤ t.1 ∧ t.1 ≤ t.2.2) ∧ (0 ≤ t.2.1 ∧ t.2.1 ≤ t.2.2) then
    [sp3 (t.2.2 * l.1.1 + t.1 * (l.2.1 - l.1.1)) (t.2.2 * l.1.2 + t.1 * (l.2.2 - l.1.2)) t.2.2] else []
def lo (l r : Ln) : Pt := mx (mn l.1 l.2) (mn r.1 r.2)
def hi (l r : Ln) : Pt := mn (mx l.1 l.2) (mx r.1 r.2)
def alo (l r : Ln) : List S3 :=
  if llt (hi l r) (lo l r) then [] else if lo l r = hi l r then [((lo l r).1, (lo l r).2, 1)] else [((lo l r).1, (lo l r).2, 1), ((hi l r).1, (hi l r).2, 1)]
def cmn (l r : Ln) : List S3 :=
  if trn (less l.2 l.1) (less r.2 r.1) ≠ 0 then acr l r else if trn (less l.2 l.1) (less r.1 l.1) ≠ 0 then [] else alo l r
def rev (l : Ln) : Ln := (l.2, l.1)

theorem trn_neg (p q : Pt) : trn p q = -trn q p := by
  unfold trn; grind
theorem mn_comm (p q : Pt) : mn p q = mn q p := by
  obtain ⟨a, b⟩ := p
  obtain ⟨c, d⟩ := q
  unfold mn llt
  by_cases h1 : c < a ∨ (c = a ∧ d < b) <;> by_cases h2 : a < c ∨ (a = c ∧ b < d) <;> simp [h1, h2] <;> omega
theorem mx_comm (p q : Pt) : mx p q = mx q p := by
  obtain ⟨a, b⟩ := p
  obtain ⟨c, d⟩ := q
  unfold mx llt
  by_cases h1 : c < a ∨ (c = a ∧ d < b) <;> by_cases h2 : a < c ∨ (a = c ∧ b < d) <;> simp [h1, h2] <;> omega
theorem lo_swap (l r : Ln) : lo r l = lo l r := mx_comm ..
theorem hi_swap (l r : Ln) : hi r l = hi l r := mn_comm ..
theorem alo_swap (l r : Ln) : alo r l = alo l r := by unfold alo; rw [lo_swap, hi_swap]
theorem alo_rev (l r : Ln) : alo (rev l) r = alo l r := by
  unfold alo lo hi rev
  rw [mn_comm l.2, mx_comm l.2]

theorem klm_swap (l r : Ln) (h : trn (less l.2 l.1) (less r.2 r.1) ≠ 0) : klm r l = ((klm l r).2.1, (klm l r).1, (klm l r).2.2) := by
  have e := trn_neg (less r.2 r.1) (less l.2 l.1)
  have ek : kfs r l = -kfs l r := by
    unfold kfs
    rw [e]
    split <;> split <;> omega
  unfold klm
  rw [ek]
  unfold trn less
  refine Prod.ext ?_ (Prod.ext ?_ ?_) <;> simp only <;> grind
theorem klm_pos (l r : Ln) (h : trn (less l.2 l.1) (less r.2 r.1) ≠ 0) : 0 < (klm l r).2.2 := by
  show 0 < trn (less l.2 l.1) (less r.2 r.1) * kfs l r
  unfold kfs
  split <;> omega
theorem acr_swap (l r : Ln) (h : trn (less l.2 l.1) (less r.2 r.1) ≠ 0) : acr r l = acr l r := by
  unfold acr
  rw [klm_swap l r h]
  simp only
  have e1 : (klm l r).2.2 * r.1.1 + (klm l r).2.1 * (r.2.1 - r.1.1) = (klm l r).2.2 * l.1.1 + (klm l r).1 * (l.2.1 - l.1.1) := by
    unfold klm trn less
    simp only
    grind
  have e2 : (klm l r).2.2 * r.1.2 + (klm l r).2.1 * (r.2.2 - r.1.2) = (klm l r).2.2 * l.1.2 + (klm l r).1 * (l.2.2 - l.1.2) := by
    unfold klm trn less
    simp only
    grind
  rw [e1, e2]
  split <;> split <;> first | rfl | (exfalso; omega)
theorem klm_rev (l r : Ln) (h : trn (less l.2 l.1) (less r.2 r.1) ≠ 0) : klm (rev l) r = ((klm l r).2.2 - (klm l r).1, (klm l r).2.1, (klm l r).2.2) := by
  have e : trn (less l.1 l.2) (less r.2 r.1) = -trn (less l.2 l.1) (less r.2 r.1) := by unfold trn less; grind
  have ek : kfs (rev l) r = -kfs l r := by
    unfold kfs rev
    simp only
    rw [e]
    split <;> split <;> omega
  unfold klm
  rw [ek]
  unfold trn less rev
  refine Prod.ext ?_ (Prod.ext ?_ ?_) <;> simp only <;> grind
theorem acr_rev (l r : Ln) (h : trn (less l.2 l.1) (less r.2 r.1) ≠ 0) : acr (rev l) r = acr l r := by
  unfold acr
  rw [klm_rev l r h]
  simp only
  have e1 : (klm l r).2.2 * (rev l).1.1 + ((klm l r).2.2 - (klm l r).1) * ((rev l).2.1 - (rev l).1.1) = (klm l r).2.2 * l.1.1 + (klm l r).1 * (l.2.1 - l.1.1) := by
    unfold rev
    grind
  have e2 : (klm l r).2.2 * (rev l).1.2 + ((klm l r).2.2 - (klm l r).1) * ((rev l).2.2 - (rev l).1.2) = (klm l r).2.2 * l.1.2 + (klm l r).1 * (l.2.2 - l.1.2) := by
    unfold rev
    grind
  rw [e1, e2]
  split <;> split <;> first | rfl | (exfalso; omega)
theorem cmn_rev (l r : Ln) : cmn (rev l) r = cmn l r := by
  have e : trn (less l.1 l.2) (less r.2 r.1) = -trn (less l.2 l.1) (less r.2 r.1) := by unfold trn less; grind
  have e2 : trn (less l.1 l.2) (less r.1 l.2) = -trn (less l.2 l.1) (less r.1 l.1) := by unfold trn less; grind
  unfold cmn
  show (if trn (less l.1 l.2) (less r.2 r.1) ≠ 0 then acr (rev l) r else if trn (less l.1 l.2) (less r.1 l.2) ≠ 0 then [] else alo (rev l) r) = _
  rw [e, e2, alo_rev]
  by_cases h : trn (less l.2 l.1) (less r.2 r.1) = 0
  · rw [h]; by_cases h2 : trn (less l.2 l.1) (less r.1 l.1) = 0 <;> simp [h2]
  · rw [if_pos (by omega), if_pos h, acr_rev l r h]
theorem par (w u f : Pt) (hw : w ≠ (0, 0)) (h1 : trn w u = 0) (h2 : trn w f = 0) : trn u f = 0 := by
  obtain ⟨w1, w2⟩ := w
  obtain ⟨u1, u2⟩ := u
  obtain ⟨f1, f2⟩ := f
  unfold trn at *
  simp only at *
  by_cases h : w1 = 0
  · have h0 : w2 ≠ 0 := fun z => hw (by rw [h, z])
    have : w2 * (u1 * f2 - u2 * f1) = 0 := by grind
    rcases Int.mul_eq_zero.mp this with z | z
    · exact absurd z h0
    · exact z
  · have : w1 * (u1 * f2 - u2 * f1) = 0 := by grind
    rcases Int.mul_eq_zero.mp this with z | z
    · exact absurd z h
    · exact z
theorem less_ne {p q : Pt} (h : q ≠ p) : less p q ≠ (0, 0) := fun z => h (by
  obtain ⟨a, b⟩ := p
  obtain ⟨c, d⟩ := q
  unfold less at z
  injection z with z1 z2
  simp only at z1 z2
  exact Prod.ext (by simp only; omega) (by simp only; omega))
theorem cmn_swap (l r : Ln) (hl : l.1 ≠ l.2) (hr : r.1 ≠ r.2) : cmn r l = cmn l r := by
  unfold cmn
  have e := trn_neg (less r.2 r.1) (less l.2 l.1)
  by_cases h : trn (less l.2 l.1) (less r.2 r.1) = 0
  · rw [e, h, alo_swap]
    have e3 : trn (less r.2 r.1) (less l.1 r.1) = 0 ↔ trn (less l.2 l.1) (less r.1 l.1) = 0 := by
      have n1 : ∀ p : Pt, trn p (less l.1 r.1) = -trn p (less r.1 l.1) := fun p => by unfold trn less; grind
      rw [n1]
      constructor
      · intro z
        exact par _ _ _ (less_ne hr) (by rw [e, h]; rfl) (by omega)
      · intro z
        have := par _ _ _ (less_ne hl) h z
        omega
    by_cases h2 : trn (less l.2 l.1) (less r.1 l.1) = 0
    · simp [h2, e3.mpr h2]
    · simp [h2, show ¬ trn (less r.2 r.1) (less l.1 r.1) = 0 from fun z => h2 (e3.mp z)]
  · rw [if_pos (by omega), if_pos h, acr_swap l r h]
theorem cmn_rev2 (l r : Ln) (hl : l.1 ≠ l.2) (hr : r.1 ≠ r.2) : cmn l (rev r) = cmn l r := by
  rw [← cmn_swap l (rev r) hl (fun z => hr z.symm), cmn_rev, cmn_swap l r hl hr]

/-! ### along one straight line: the first and the last of what lies in both -/
def ple (p q : Pt) : Prop := llt q p = false
theorem ple_iff {p q : Pt} : ple p q ↔ ¬ (q.1 < p.1 ∨ (q.1 = p.1 ∧ q.2 < p.2)) := by
  unfold ple llt
  exact decide_eq_false_iff_not
theorem ple_refl (p : Pt) : ple p p := ple_iff.mpr (by omega)
theorem ple_trans {p q r : Pt} (h1 : ple p q) (h2 : ple q r) : ple p r := by
  rw [ple_iff] at *
  omega
theorem ple_antisymm {p q : Pt} (h1 : ple p q) (h2 : ple q p) : p = q := by
  rw [ple_iff] at *
  exact Prod.ext (by omega) (by omega)
theorem ple_of {p q : Pt} (h : llt p q = true) : ple p q := by
  have h := of_decide_eq_true h
  rw [ple_iff]
  omega
theorem mn_or (p q : Pt) : (mn p q = p ∨ mn p q = q) ∧ ple (mn p q) p ∧ ple (mn p q) q := by
  unfold mn
  cases h : llt q p with
  | true => exact ⟨.inr rfl, ple_of h, ple_refl _⟩
  | false => exact ⟨.inl rfl, ple_refl _, h⟩
theorem mx_or (p q : Pt) : (mx p q = p ∨ mx p q = q) ∧ ple p (mx p q) ∧ ple q (mx p q) := by
  unfold mx
  cases h : llt p q with
  | true => exact ⟨.inr rfl, ple_of h, ple_refl _⟩
  | false => exact ⟨.inl rfl, ple_refl _, h⟩
def within (p : Pt) (r : Ln) : Prop := ple (mn r.1 r.2) p ∧ ple p (mx r.1 r.2)
def inBoth (l r : Ln) (p : Pt) : Prop := ((p = l.1 ∨ p = l.2) ∧ within p r) ∨ ((p = r.1 ∨ p = r.2) ∧ within p l)
theorem self_in {p : Pt} {l : Ln} (h : p = l.1 ∨ p = l.2) : within p l := by
  obtain ⟨_, a2, a3⟩ := mn_or l.1 l.2
  obtain ⟨_, b2, b3⟩ := mx_or l.1 l.2
  rcases h with rfl | rfl
  · exact ⟨a2, b2⟩
  · exact ⟨a3, b3⟩
theorem inBoth_two {l r : Ln} {p : Pt} (h : inBoth l r p) : within p l ∧ within p r := by
  rcases h with ⟨h1, h2⟩ | ⟨h1, h2⟩
  · exact ⟨self_in h1, h2⟩
  · exact ⟨h2, self_in h1⟩
theorem inBoth_mid {l r : Ln} {p : Pt} (h : inBoth l r p) : ple (lo l r) p ∧ ple p (hi l r) := by
  obtain ⟨⟨a1, a2⟩, b1, b2⟩ := inBoth_two h
  unfold lo hi
  constructor
  · rcases (mx_or (mn l.1 l.2) (mn r.1 r.2)).1 with z | z <;> rw [z] <;> assumption
  · rcases (mn_or (mx l.1 l.2) (mx r.1 r.2)).1 with z | z <;> rw [z] <;> assumption
theorem lo_in {l r : Ln} (h : ple (lo l r) (hi l r)) : inBoth l r (lo l r) := by
  have hl : ple (lo l r) (mx l.1 l.2) := ple_trans h (mn_or _ _).2.1
  have hr : ple (lo l r) (mx r.1 r.2) := ple_trans h (mn_or _ _).2.2
  obtain ⟨c, d1, d2⟩ := mx_or (mn l.1 l.2) (mn r.1 r.2)
  rcases c with z | z
  · refine .inl ⟨?_, d2, hr⟩
    show lo l r = _ ∨ lo l r = _
    unfold lo; rw [z]; exact (mn_or _ _).1
  · refine .inr ⟨?_, d1, hl⟩
    show lo l r = _ ∨ lo l r = _
    unfold lo; rw [z]; exact (mn_or _ _).1
theorem hi_in {l r : Ln} (h : ple (lo l r) (hi l r)) : inBoth l r (hi l r) := by
  have hl : ple (mn l.1 l.2) (hi l r) := ple_trans (mx_or _ _).2.1 h
  have hr : ple (mn r.1 r.2) (hi l r) := ple_trans (mx_or _ _).2.2 h
  obtain ⟨c, d1, d2⟩ := mn_or (mx l.1 l.2) (mx r.1 r.2)
  rcases c with z | z
  · refine .inl ⟨?_, hr, d2⟩
    show hi l r = _ ∨ hi l r = _
    unfold hi; rw [z]; exact (mx_or _ _).1
  · refine .inr ⟨?_, hl, d1⟩
    show hi l r = _ ∨ hi l r = _
    unfold hi; rw [z]; exact (mx_or _ _).1
def one3 (p : Pt) : S3 := (p.1, p.2, 1)
theorem along_due (l r : Ln) (T : List Pt) (hs : T.Pairwise ple) (nd : T.Nodup) (mem : ∀ p, p ∈ T ↔ inBoth l r p) :
    (T.take 1 ++ (T.drop 1).drop ((T.drop 1).length - 1)).map one3 = alo l r := by
  unfold alo
  cases hh : llt (hi l r) (lo l r) with
  | true =>
    have : T = [] := by
      refine List.eq_nil_iff_forall_not_mem.mpr fun p hp => ?_
      obtain ⟨a, b⟩ := inBoth_mid ((mem p).mp hp)
      have z : ple (lo l r) (hi l r) := ple_trans a b
      unfold ple at z
      rw [hh] at z
      cases z
    subst this
    rfl
  | false =>
    have hle : ple (lo l r) (hi l r) := hh
    have m1 := (mem _).mpr (lo_in hle)
    have m2 := (mem _).mpr (hi_in hle)
    cases T with
    | nil => cases m1
    | cons a t =>
      obtain ⟨p1, p2⟩ := List.pairwise_cons.mp hs
      obtain ⟨n1, n2⟩ := List.nodup_cons.mp nd
      have ha : a = lo l r := by
        have b := (inBoth_mid ((mem a).mp List.mem_cons_self)).1
        rcases List.mem_cons.mp m1 with z | z
        · exact z.symm
        · exact ple_antisymm (p1 _ z) b
      subst ha
      rw [if_neg (by decide)]
      rcases List.eq_nil_or_concat t with rfl | ⟨t', b, rfl⟩
      · have : hi l r = lo l r := by simpa using m2
        rw [if_pos this.symm]
        rfl
      · have hb : b = hi l r := by
          have c := (inBoth_mid ((mem b).mp (List.mem_cons_of_mem _ (by simp)))).2
          refine ple_antisymm c ?_
          rcases List.mem_cons.mp m2 with z | z
          · rw [z]; exact p1 b (by simp)
          · rcases List.mem_append.mp (by simpa using z : hi l r ∈ t' ++ [b]) with z | z
            · rw [List.concat_eq_append] at p2
              exact (List.pairwise_append.mp p2).2.2 _ z _ (by simp)
            · rw [List.mem_singleton.mp z]; exact ple_refl _
        have ne : lo l r ≠ hi l r := fun z => n1 (by rw [z, ← hb]; simp)
        rw [if_neg ne]
        subst hb
        simp [one3]
end Cl

namespace Cl
open PySem PySem.Spec PyProof.Rows L2
/-! ### lines, spots and tuples of them where they stand -/
def AtL (K : PySem.W.Frag) (H : Hp) (v : V) (l : Ln) : Prop := ∃ a u w, v = .ref a ∧ SqT K H a [u, w] ∧ At2 K H u l.1 ∧ At2 K H w l.2
def At3 (K : PySem.W.Frag) (H : Hp) (v : V) (s : S3) : Prop := ∃ a, v = .ref a ∧ SqT K H a [.int s.1, .int s.2.1, .int s.2.2]
inductive AllAt {α : Type} (R : V → α → Prop) : List V → List α → Prop
  | nil : AllAt R [] []
  | cons {v : V} {x : α} {vs : List V} {xs : List α} : R v x → AllAt R vs xs → AllAt R (v :: vs) (x :: xs)
def AtS (K : PySem.W.Frag) (H : Hp) (v : V) (ss : List S3) : Prop := ∃ a vs, v = .ref a ∧ SqT K H a vs ∧ AllAt (At3 K H) vs ss
def AtP (K : PySem.W.Frag) (H : Hp) (v : V) (ps : List Pt) : Prop := ∃ a vs, v = .ref a ∧ SqT K H a vs ∧ AllAt (At2 K H) vs ps
def BdP (p : Pt) : Prop := (-(2 ^ 60) < p.1 ∧ p.1 < 2 ^ 60) ∧ (-(2 ^ 60) < p.2 ∧ p.2 < 2 ^ 60)
def BdC (p : Pt) : Prop := (-(2 ^ 40) < p.1 ∧ p.1 < 2 ^ 40) ∧ (-(2 ^ 40) < p.2 ∧ p.2 < 2 ^ 40)
def BdL (l : Ln) : Prop := BdC l.1 ∧ BdC l.2
section
variable {K : PySem.W.Frag} {H H' : Hp} {v : V}
theorem AtL.same {l : Ln} (h : AtL K H v l) (s : Same H H') : AtL K H' v l := by
  obtain ⟨a, u, w, rfl, h1, h2, h3⟩ := h
  exact ⟨a, u, w, rfl, seT s h1, h2.same s, h3.same s⟩
theorem At3.same {t : S3} (h : At3 K H v t) (s : Same H H') : At3 K H' v t := by
  obtain ⟨a, rfl, h⟩ := h
  exact ⟨a, rfl, seT s h⟩
theorem AllAt.map {α : Type} {R R' : V → α → Prop} (f : ∀ v x, R v x → R' v x) : ∀ {vs : List V} {xs : List α}, AllAt R vs xs → AllAt R' vs xs
  | _, _, .nil => .nil
  | _, _, .cons h t => .cons (f _ _ h) (AllAt.map f t)
theorem AllAt.length {α : Type} {R : V → α → Prop} : ∀ {vs : List V} {xs : List α}, AllAt R vs xs → vs.length = xs.length
  | _, _, .nil => rfl
  | _, _, .cons _ t => by rw [List.length_cons, List.length_cons, t.length]
theorem AllAt.get {α : Type} {R : V → α → Prop} : ∀ {vs : List V} {xs : List α} {i : Nat} {v : V}, AllAt R vs xs → vs[i]? = some v → ∃ x, xs[i]? = some x ∧ R v x
  | _, _, 0, v, .cons h t, e => by cases e; exact ⟨_, rfl, h⟩
  | _, _, i + 1, v, .cons h t, e => AllAt.get t (i := i) e
theorem AllAt.app {α : Type} {R : V → α → Prop} : ∀ {vs ws : List V} {xs ys : List α}, AllAt R vs xs → AllAt R ws ys → AllAt R (vs ++ ws) (xs ++ ys)
  | _, _, _, _, .nil, h => h
  | _, _, _, _, .cons a t, h => .cons a (AllAt.app t h)
theorem AtS.same {ss : List S3} (h : AtS K H v ss) (s : Same H H') : AtS K H' v ss := by
  obtain ⟨a, vs, rfl, h1, h2⟩ := h
  exact ⟨a, vs, rfl, seT s h1, h2.map fun _ _ z => z.same s⟩
theorem AtP.same {ps : List Pt} (h : AtP K H v ps) (s : Same H H') : AtP K H' v ps := by
  obtain ⟨a, vs, rfl, h1, h2⟩ := h
  exact ⟨a, vs, rfl, seT s h1, h2.map fun _ _ z => z.same s⟩
def d3 (s : S3) : PyData := .tuple [.int s.1, .int s.2.1, .int s.2.2]
theorem AtS.dp {ss : List S3} (h : AtS K H v ss) : Dp K H v (.tuple (ss.map d3)) := by
  obtain ⟨a, vs, rfl, h1, h2⟩ := h
  refine .tup h1 ?_
  clear h1
  induction h2 with
  | nil => exact .nil
  | cons h t ih =>
    obtain ⟨b, rfl, h⟩ := h
    exact .cons (.tup h (.cons (.int _) (.cons (.int _) (.cons (.int _) .nil)))) ih
theorem AtL.rev {l : Ln} {a : Addr} {xs : List V} (h : AtL K H (.ref a) l) (h2 : SqT K H a xs) : True := trivial
end
theorem bd_less {p q : Pt} (h1 : BdC p) (h2 : BdC q) : BdP (less p q) := by
  unfold BdP BdC less at *
  simp only at *
  omega
theorem BdL.rev {l : Ln} (h : BdL l) : BdL (rev l) := ⟨h.2, h.1⟩
/-! ### promises of the program's defs -/
def spStep (K : PySem.W.Frag) : Sp := fun vs H Q _ => ∃ v l, vs = [v] ∧ AtL K H v l ∧ ∀ w H', Same H H' → At2 K H' w (less l.2 l.1) → Q w H'
def spTurn (K : PySem.W.Frag) : Sp := fun vs H Q _ => ∃ u v p q, vs = [u, v] ∧ At2 K H u p ∧ At2 K H v q ∧ BdP p ∧ Q (.int (trn p q)) H
def spSide (K : PySem.W.Frag) : Sp := fun vs H Q _ => ∃ u v l p, vs = [u, v] ∧ AtL K H u l ∧ At2 K H v p ∧ BdL l ∧ ∀ H', Same H H' → Q (.int (trn (less l.2 l.1) (less p l.1))) H'
def spSpotAt (K : PySem.W.Frag) : Sp := fun vs H Q _ => ∃ v l k m, vs = [v, .int k, .int m] ∧ AtL K H v l ∧ BdL l ∧ m ≠ 0 ∧ m.natAbs < 2 ^ 200 ∧
  ∀ w H', Same H H' → At3 K H' w (sp3 (m * l.1.1 + k * (l.2.1 - l.1.1)) (m * l.1.2 + k * (l.2.2 - l.1.2)) m) → Q w H'
def spTwo (K : PySem.W.Frag) (f : Ln → Ln → List S3) (C : Ln → Ln → Prop) : Sp := fun vs H Q _ => ∃ u v l r, vs = [u, v] ∧ AtL K H u l ∧ AtL K H v r ∧ BdL l ∧ BdL r ∧ C l r ∧
  ∀ w H', Same H H' → AtS K H' w (f l r) → Q w H'
theorem trn_lt {p q : Pt} (hp : BdP p) (hq : BdP q) : (trn p q).natAbs < 2 ^ 122 := by
  unfold BdP at *
  unfold trn
  have b : ∀ a b : Int, -(2 ^ 60) < a → a < 2 ^ 60 → -(2 ^ 60) < b → b < 2 ^ 60 → (a * b).natAbs < 2 ^ 120 := fun a b h1 h2 h3 h4 => wide_lt (a := 60) (b := 60) (by omega) (by omega)
  have b1 := b p.1 q.2 (by omega) (by omega) (by omega) (by omega)
  have b2 := b p.2 q.1 (by omega) (by omega) (by omega) (by omega)
  omega

section
variable {K : PySem.W.Frag} {H H' : Hp} {v : V} {d l : Addr}
theorem stT {a : Addr} {xs : List V} (S : Step d l H H') (D : Deck H d l) (h : SqT K H a xs) : SqT K H' a xs := by
  obtain ⟨ns, s, c, h1, h2, h3⟩ := D.ex
  rcases h with (h | ⟨o, h⟩) | h
  · exact .inl (.inl (S.tupH D h))
  · exact .inl (.inr ⟨o, S.at (ne_of h h1 (by intro z; cases z)) (ne_of h h2 (by intro z; cases z)) h⟩)
  · exact .inr h
theorem At2.step {p : Pt} (h : At2 K H v p) (S : Step d l H H') (D : Deck H d l) : At2 K H' v p := by
  obtain ⟨a, rfl, h⟩ := h
  exact ⟨a, rfl, stT S D h⟩
theorem AtL.step {r : Ln} (h : AtL K H v r) (S : Step d l H H') (D : Deck H d l) : AtL K H' v r := by
  obtain ⟨a, u, w, rfl, h1, h2, h3⟩ := h
  exact ⟨a, u, w, rfl, stT S D h1, h2.step S D, h3.step S D⟩
end
def BdN (B : Int) (p : Pt) : Prop := (-B ≤ p.1 ∧ p.1 ≤ B) ∧ (-B ≤ p.2 ∧ p.2 ≤ B)
def spUnlike (K : PySem.W.Frag) : Sp := fun vs H Q _ => ∃ u v p q, vs = [u, v] ∧ At2 K H u p ∧ At2 K H v q ∧
  ∀ w H' l, Same H H' → AtL K H' w l → l.1 = p → l.1 ≠ l.2 → (l.2 = q ∨ l.2 = (p.1 + 1, p.2)) → Q w H'
def spLess (K : PySem.W.Frag) : Sp := fun vs H Q _ => ∃ u v p q, vs = [u, v] ∧ At2 K H u p ∧ At2 K H v q ∧ ∀ w H', Same H H' → At2 K H' w (less p q) → Q w H'
def spLowest (K : PySem.W.Frag) : Sp := fun vs H Q _ => ∃ n m d : Int, vs = [.int n, .int m, .int d] ∧ 0 < d ∧ d.natAbs < 2 ^ 200 ∧ ∀ w H', Same H H' → At3 K H' w (sp3 n m d) → Q w H'
def spRight (K : PySem.W.Frag) : Sp := fun vs H Q _ => ∃ u v l r, vs = [u, v] ∧ AtL K H u l ∧ AtL K H v r ∧ BdL l ∧ BdL r ∧ l.1 ≠ l.2 ∧ r.1 ≠ r.2 ∧ ∀ H', Same H H' → Q (.bl true) H'
theorem gcd_fmod (a b : Int) (h : b ≠ 0) : Int.gcd b (a.fmod b) = Int.gcd a b := by
  have e : a.fmod b = a - b * a.fdiv b := Int.fmod_def a b
  rw [e, Int.gcd_comm a b, Int.sub_eq_add_neg, ← Int.mul_neg, Int.gcd_add_mul_left_right]
theorem fmod_small (a b : Int) (h : b ≠ 0) : (a.fmod b).natAbs < b.natAbs := by
  rcases Int.lt_or_gt_of_ne h with hb | hb
  · have e1 : (-a).fmod (-b) = -(a.fmod b) := Int.neg_fmod_neg ..
    have h1 := Int.fmod_nonneg_of_pos (-a) (show 0 < -b by omega)
    have h2 := Int.fmod_lt_of_pos (-a) (show 0 < -b by omega)
    omega
  · have h1 := Int.fmod_nonneg_of_pos a hb
    have h2 := Int.fmod_lt_of_pos a hb
    omega

/-! ### what a comprehension picks of two points -/
structure Sel (K : PySem.W.Frag) (H0 : Hp) (pts : List Pt) (r : Ln) (i : Nat) (ks : List (Addr × List Int)) : Prop where
  tup : ∀ q ∈ ks, SqT K H0 q.1 (q.2.map V.int) ∧ q.2.length = 2
  len : ks.length ≤ i
  mem : ∀ x, (∃ q ∈ ks, pr q = x) ↔ ∃ j, j < i ∧ pts[j]? = some x ∧ within x r
section
variable {K : PySem.W.Frag} {H0 : Hp} {pts : List Pt} {r : Ln} {i : Nat} {ks : List (Addr × List Int)} {pt : Pt} {c : Addr}
theorem Sel.nil : Sel K H0 pts r 0 [] := ⟨fun q h => (nomatch h), Nat.le_refl _, fun x => ⟨fun ⟨q, h, _⟩ => (nomatch h), fun ⟨j, h, _⟩ => absurd h (Nat.not_lt_zero _)⟩⟩
theorem Sel.keep (S : Sel K H0 pts r i ks) (h : pts[i]? = some pt) (w : within pt r) (hc : SqT K H0 c [.int pt.1, .int pt.2]) :
    Sel K H0 pts r (i + 1) (ks ++ [(c, [pt.1, pt.2])]) := by
  refine ⟨fun q hq => ?_, by rw [List.length_append]; exact Nat.add_le_add_right S.len 1, fun x => ⟨?_, ?_⟩⟩
  · rcases List.mem_append.mp hq with z | z
    · exact S.tup q z
    · rw [List.mem_singleton.mp z]; exact ⟨hc, rfl⟩
  · rintro ⟨q, hq, e⟩
    rcases List.mem_append.mp hq with z | z
    · obtain ⟨j, a, b⟩ := (S.mem x).mp ⟨q, z, e⟩
      exact ⟨j, by omega, b⟩
    · rw [List.mem_singleton.mp z] at e
      subst e
      exact ⟨i, by omega, h, w⟩
  · rintro ⟨j, hj, a, b⟩
    by_cases e : j = i
    · subst e
      rw [h] at a
      cases a
      exact ⟨_, List.mem_append.mpr (.inr (List.mem_singleton.mpr rfl)), rfl⟩
    · obtain ⟨q, z, e2⟩ := (S.mem x).mpr ⟨j, by omega, a, b⟩
      exact ⟨q, List.mem_append.mpr (.inl z), e2⟩
theorem Sel.drop (S : Sel K H0 pts r i ks) (h : pts[i]? = some pt) (w : ¬ within pt r) : Sel K H0 pts r (i + 1) ks := by
  refine ⟨S.tup, Nat.le_succ_of_le S.len, fun x => ⟨fun z => ?_, ?_⟩⟩
  · obtain ⟨j, a, b⟩ := (S.mem x).mp z
    exact ⟨j, by omega, b⟩
  · rintro ⟨j, hj, a, b⟩
    by_cases e : j = i
    · subst e
      rw [h] at a
      cases a
      exact absurd b w
    · exact (S.mem x).mpr ⟨j, by omega, a, b⟩
theorem Sel.two {p q : Pt} (S : Sel K H0 [p, q] r 2 ks) (x : Pt) : (∃ q ∈ ks, pr q = x) ↔ (x = p ∨ x = q) ∧ within x r := by
  rw [S.mem x]
  constructor
  · rintro ⟨j, hj, a, b⟩
    match j, hj, a with
    | 0, _, a => cases a; exact ⟨.inl rfl, b⟩
    | 1, _, a => cases a; exact ⟨.inr rfl, b⟩
  · rintro ⟨a | a, b⟩
    · exact ⟨0, by omega, by rw [a]; rfl, b⟩
    · exact ⟨1, by omega, by rw [a]; rfl, b⟩
end
theorem pr_ints {q : Addr × List Int} (h : q.2.length = 2) : q.2.map V.int = [.int (pr q).1, .int (pr q).2] := by
  rw [pr_of h]
  rfl
theorem nodup_pr {L : List (Addr × List Int)} (h : ∀ q ∈ L, q.2.length = 2) (nd : (L.map (·.2)).Nodup) : (L.map pr).Nodup := by
  have e : ∀ l : List (Addr × List Int), (∀ q ∈ l, q.2.length = 2) → l.map (·.2) = (l.map pr).map fun p : Pt => [p.1, p.2] := by
    intro l
    induction l with
    | nil => intro _; rfl
    | cons q l ih =>
      intro h
      rw [List.map_cons, List.map_cons, List.map_cons, ih fun r hr => h r (List.mem_cons_of_mem _ hr), pr_of (h q List.mem_cons_self)]
  rw [e L h] at nd
  exact List.Pairwise.of_map _ (fun _ _ hne z => hne (by rw [z])) nd
theorem cut_first (xs : List V) : cutV xs none (some 1) = xs.take 1 := by
  unfold cutV
  rw [HT.sIx_none, show HT.sIx xs.length xs.length (some 1) = min 1 xs.length from HT.sIx_nat _ _ 1, List.drop_zero, Nat.sub_zero]
  cases xs with
  | nil => rfl
  | cons x r => rw [List.length_cons, Nat.min_eq_left (by omega)]
theorem cut_rest (xs : List V) : cutV xs (some 1) none = xs.drop 1 := by
  unfold cutV
  rw [HT.sIx_none, show HT.sIx xs.length 0 (some 1) = min 1 xs.length from HT.sIx_nat _ _ 1]
  cases xs with
  | nil => rfl
  | cons x r =>
    rw [List.length_cons, Nat.min_eq_left (by omega)]
    show List.take (r.length + 1 - 1) r = r
    rw [Nat.add_sub_cancel, List.take_length]
theorem cut_last (xs : List V) : cutV xs (some (-1)) none = xs.drop (xs.length - 1) := by
  unfold cutV
  have e : HT.sIx xs.length 0 (some (-1)) = xs.length - 1 := by
    show (if (-1 : Int) < 0 then ((-1 : Int) + (xs.length : Int)).toNat else min (-1 : Int).toNat xs.length) = _
    rw [if_pos (by decide)]
    omega
  rw [HT.sIx_none, e]
  exact List.take_of_length_le (by rw [List.length_drop]; omega)

/-! ### the same rules within a comprehension, the written part named -/
section
variable {X : Cx} {K : PySem.W.Frag}
theorem op_le2k (hK : X.K = K) (hu : X.A.units + 64 < cLine) : OpR X (compareOp .LtE) (rCmp2 K fun p q => !llt q p) := hK ▸ op_le2 hu
theorem op_gt2k (hK : X.K = K) (hu : X.A.units + 64 < cLine) : OpR X (compareOp .Gt) (rCmp2 K fun p q => llt q p) := hK ▸ op_gt2 hu
theorem cr_min1k (hK : X.K = K) (hc : X.calm = true) (hu : X.A.units + 64 < cLine) : CallR X (.builtin "min") (rBest1 K mn) := hK ▸ cr_min1 hc hu
theorem cr_max1k (hK : X.K = K) (hc : X.calm = true) (hu : X.A.units + 64 < cLine) : CallR X (.builtin "max") (rBest1 K mx) := hK ▸ cr_max1 hc hu
theorem op_catTNk (hK : X.K = K) : OpR X (binaryOp .Add) (rCatTN K) := hK ▸ op_catTN
theorem ix_tupk (hK : X.K = K) : IxR X (rIxT K) := hK ▸ ix_tup
theorem ix_listk (hK : X.K = K) : IxR X (rIxL K) := hK ▸ ix_list
theorem op_neDk (hK : X.K = K) (hu : X.A.units + 64 < cLine) : OpR X (compareOp .NotEq) (rNeD K) := hK ▸ op_neD hu
theorem op_eqDk (hK : X.K = K) (hu : X.A.units + 64 < cLine) : OpR X (compareOp .Eq) (rEqD K) := hK ▸ op_eqD hu
end

theorem acc3 {K : PySem.W.Frag} {H5 H' H7 : Hp} {pD p7 : Addr} {ws : List V} {ss : List S3} {t : S3} (nD : H5 pD = none) (t1 : Same H5 H') (e : H' pD = some (.lst ws))
    (all : AllAt (At3 K H') ws ss) (s7 : Same H' H7) (n7 : H' p7 = none) (g7 : H7 p7 = some (.tup [.int t.1, .int t.2.1, .int t.2.2])) (len : ss.length ≤ 900) :
    ∃ acc, H7 pD = some (.lst acc) ∧ acc.length < sizeLine ∧ (Same H5 (upd H7 pD (.lst (acc ++ [.ref p7]))) ∧
      ∃ ws', (upd H7 pD (.lst (acc ++ [.ref p7]))) pD = some (.lst ws') ∧ AllAt (At3 K (upd H7 pD (.lst (acc ++ [.ref p7])))) ws' (ss ++ [t])) := by
  have npD : pD ≠ p7 := ne_of_none e n7
  have k7 := s7 _ _ e
  have lw := all.length
  have sT : ∀ {o : HO} {b : Addr} {xs : List V}, SqT K H7 b xs → SqT K (upd H7 pD o) b xs := fun {o b xs} z => by
    rcases z with (z | ⟨oo, z⟩) | z
    · exact .inl (.inl (by rw [upd_ne (ne_of z k7 (by intro z; cases z))]; exact z))
    · exact .inl (.inr ⟨oo, by rw [upd_ne (ne_of z k7 (by intro z; cases z))]; exact z⟩)
    · exact .inr z
  refine ⟨ws, k7, small1000 (by omega), fun b o z => ?_, ws ++ [.ref p7], upd_same, ?_⟩
  · rw [upd_ne (ne_of_none z nD)]
    exact (t1.trans s7) _ _ z
  · refine AllAt.app (all.map fun v s h => ?_) (.cons ⟨p7, rfl, .inl (.inl ?_)⟩ .nil)
    · obtain ⟨b, rfl, h9⟩ := h.same s7
      exact ⟨b, rfl, sT h9⟩
    · rw [upd_ne npD.symm]
      exact g7
end Cl

namespace Cl
open PySem PySem.Spec PyProof.Rows L2
/-! ### what two lines have in common is shown shortly -/
def ok3 (s : S3) : Prop := okI s.1 ∧ okI s.2.1 ∧ okI s.2.2
theorem okI.sh {i : Int} (h : okI i) : i.natAbs.log2 < 1920 := by have := h.log; omega
theorem fine3 : ∀ {ss : List S3}, ss.length ≤ 2 → (∀ s ∈ ss, ok3 s) → Fine (.tuple (ss.map d3))
  | [], _, _ => by constructor <;> decide
  | [a], _, h => by
    obtain ⟨h1, h2, h3⟩ := h a (by simp)
    have a1 := h1.len
    have a2 := h2.len
    have a3 := h3.len
    have b1 := h1.sh
    have b2 := h2.sh
    have b3 := h3.sh
    constructor
    · simp [d3, PyData.leavesShort, PyData.leavesShortAll, a1, a2, a3]
    · simp [d3, PyData.showable, PyData.showableAll, b1, b2, b3]
    · rfl
    · simp [d3, PyData.depth, PyData.depthAll]
    · simp [d3, PyData.bulk, PyData.bulkAll]
  | [a, b], _, h => by
    obtain ⟨h1, h2, h3⟩ := h a (by simp)
    obtain ⟨g1, g2, g3⟩ := h b (by simp)
    have a1 := h1.len
    have a2 := h2.len
    have a3 := h3.len
    have b1 := h1.sh
    have b2 := h2.sh
    have b3 := h3.sh
    have c1 := g1.len
    have c2 := g2.len
    have c3 := g3.len
    have e1 := g1.sh
    have e2 := g2.sh
    have e3 := g3.sh
    constructor
    · simp [d3, PyData.leavesShort, PyData.leavesShortAll, a1, a2, a3, c1, c2, c3]
    · simp [d3, PyData.showable, PyData.showableAll, b1, b2, b3, e1, e2, e3]
    · rfl
    · simp [d3, PyData.depth, PyData.depthAll]
    · simp [d3, PyData.bulk, PyData.bulkAll]
theorem BdC.or {p q r : Pt} (hp : BdC p) (hq : BdC q) (h : r = p ∨ r = q) : BdC r := by rcases h with rfl | rfl <;> assumption
theorem ok_one3 {p : Pt} (h : BdC p) : ok3 (one3 p) := by
  unfold BdC at h
  exact ⟨okI.of (show -(2 ^ 189) < p.1 by omega) (show p.1 < 2 ^ 189 by omega), okI.of (show -(2 ^ 189) < p.2 by omega) (show p.2 < 2 ^ 189 by omega), okI.of (show -(2 ^ 189) < (1 : Int) by omega) (show (1 : Int) < 2 ^ 189 by omega)⟩
theorem okI_div {n p : Int} (h : n.natAbs < 2 ^ 190) : okI (n / p) := Nat.lt_of_le_of_lt (Int.natAbs_ediv_le_natAbs n p) h
theorem fine_cmn {l r : Ln} (bl : BdL l) (br : BdL r) : Fine (.tuple ((cmn l r).map d3)) := by
  have b1 := bd_less bl.2 bl.1
  have b2 := bd_less br.2 br.1
  have b3 := bd_less br.1 bl.1
  have t1 := trn_lt b1 b2
  have t2 := trn_lt b3 b2
  have kM : (klm l r).2.2.natAbs < 2 ^ 122 := by
    show (trn (less l.2 l.1) (less r.2 r.1) * kfs l r).natAbs < 2 ^ 122
    unfold kfs
    split <;> omega
  have kN : (klm l r).1.natAbs < 2 ^ 122 := by
    show (trn (less r.1 l.1) (less r.2 r.1) * kfs l r).natAbs < 2 ^ 122
    unfold kfs
    split <;> omega
  have hlo : BdC (lo l r) := by
    obtain ⟨c, _⟩ := mx_or (mn l.1 l.2) (mn r.1 r.2)
    exact BdC.or (BdC.or bl.1 bl.2 (mn_or l.1 l.2).1) (BdC.or br.1 br.2 (mn_or r.1 r.2).1) c
  have hhi : BdC (hi l r) := by
    obtain ⟨c, _⟩ := mn_or (mx l.1 l.2) (mx r.1 r.2)
    exact BdC.or (BdC.or bl.1 bl.2 (mx_or l.1 l.2).1) (BdC.or br.1 br.2 (mx_or r.1 r.2).1) c
  unfold cmn
  split
  · unfold acr
    simp only
    split
    · refine fine3 (by simp) fun s hs => ?_
      rw [List.mem_singleton.mp hs]
      obtain ⟨⟨x1, x2⟩, x3, x4⟩ := bl.1
      unfold BdP less at b1
      obtain ⟨⟨y1, y2⟩, y3, y4⟩ := b1
      simp only at y1 y2 y3 y4
      have m1 := wide_lt (i := (klm l r).2.2) (j := l.1.1) (a := 122) (b := 40) kM (by omega)
      have m2 := wide_lt (i := (klm l r).2.2) (j := l.1.2) (a := 122) (b := 40) kM (by omega)
      have m3 := wide_lt (i := (klm l r).1) (j := l.2.1 - l.1.1) (a := 122) (b := 60) kN (by omega)
      have m4 := wide_lt (i := (klm l r).1) (j := l.2.2 - l.1.2) (a := 122) (b := 60) kN (by omega)
      exact ⟨okI_div (by omega), okI_div (by omega), okI_div (by omega)⟩
    · exact fine3 (by simp) fun s hs => nomatch hs
  · split
    · exact fine3 (by simp) fun s hs => nomatch hs
    · unfold alo
      split
      · exact fine3 (by simp) fun s hs => nomatch hs
      · split
        · refine fine3 (by simp) fun s hs => ?_
          rw [List.mem_singleton.mp hs]
          exact ok_one3 hlo
        · refine fine3 (by simp) fun s hs => ?_
          rcases List.mem_cons.mp hs with rfl | hs
          · exact ok_one3 hlo
          · rw [List.mem_singleton.mp hs]
            exact ok_one3 hhi

/-! ### a list that is written to: tuples and the deck stay -/
section
variable {K : PySem.W.Frag} {H : Hp} {M d l : Addr} {xs : List V} {o : HO} {v : V}
theorem updT {b : Addr} {ys : List V} (e : H M = some (.lst xs)) (h : SqT K H b ys) : SqT K (upd H M o) b ys := by
  rcases h with (z | ⟨oo, z⟩) | z
  · exact .inl (.inl (by rw [upd_ne (ne_of z e (by intro z; cases z))]; exact z))
  · exact .inl (.inr ⟨oo, by rw [upd_ne (ne_of z e (by intro z; cases z))]; exact z⟩)
  · exact .inr z
theorem At2.upd {p : Pt} (h : At2 K H v p) (e : H M = some (.lst xs)) : At2 K (upd H M o) v p := by
  obtain ⟨a, rfl, h⟩ := h
  exact ⟨a, rfl, updT e h⟩
theorem AtL.upd {r : Ln} (h : AtL K H v r) (e : H M = some (.lst xs)) : AtL K (L2.upd H M o) v r := by
  obtain ⟨a, u, w, rfl, h1, h2, h3⟩ := h
  exact ⟨a, u, w, rfl, updT e h1, At2.upd h2 e, At2.upd h3 e⟩
theorem Deck.upd (D : Deck H d l) (h1 : M ≠ d) (h2 : M ≠ l) : Deck (L2.upd H M o) d l := by
  obtain ⟨ns, s, c, e1, e2, e3⟩ := D.ex
  exact ⟨D.ne, ns, s, c, by rw [upd_ne h1.symm]; exact e1, by rw [upd_ne h2.symm]; exact e2, e3⟩
end
/-! ### lines drawn -/
def GoodLn (B : Int) (r : Ln) : Prop := BdN B r.1 ∧ BdN B r.2 ∧ r.1 ≠ r.2
def spPoint (K : PySem.W.Frag) : Sp := fun vs H Q _ => ∃ (d l : Addr) (g : Int), vs = [.ref d, .int g] ∧ 0 < g ∧ g ≤ 10 ∧ Deck H d l ∧
  ∀ w H' p, Step d l H H' → At2 K H' w p → BdN 100 p → Q w H'
def spBeside (K : PySem.W.Frag) : Sp := fun vs H Q _ => ∃ (d l : Addr) (v u w : V) (r : Ln) (p q : Pt), vs = [.ref d, v, u, w] ∧ Deck H d l ∧ AtL K H v r ∧ GoodLn 200 r ∧
  At2 K H u p ∧ BdN 100 p ∧ At2 K H w q ∧ BdN 100 q ∧ ∀ w H' r', Step d l H H' → AtL K H' w r' → GoodLn 3000 r' → Q w H'
def spLine (K : PySem.W.Frag) : Sp := fun vs H Q _ => ∃ (d l : Addr) (g : Int) (L : Addr) (ws : List V) (ls : List Ln), vs = [.ref d, .int g, .ref L] ∧ 0 < g ∧ g ≤ 10 ∧ Deck H d l ∧
  L ≠ d ∧ L ≠ l ∧ H L = some (.lst ws) ∧ AllAt (AtL K H) ws ls ∧ ls.length ≤ 10 ∧ (∀ r ∈ ls, GoodLn 3000 r) ∧
  ∀ w H' r', Step d l H H' → AtL K H' w r' → GoodLn 3000 r' → Q w H'
def AtT (K : PySem.W.Frag) (H : Hp) (v : V) (ls : List Ln) : Prop := ∃ a vs, v = .ref a ∧ SqT K H a vs ∧ AllAt (AtL K H) vs ls
def spLines (K : PySem.W.Frag) (n : Nat) : Sp := fun vs H Q _ => ∃ (d l : Addr) (g : Int), vs = [.ref d, .int g, .int n] ∧ 0 < g ∧ g ≤ 10 ∧ Deck H d l ∧
  ∀ w H' ls, Step d l H H' → AtT K H' w ls → ls.length = n → (∀ r ∈ ls, BdL r ∧ r.1 ≠ r.2) → Q w H'
def dl (r : Ln) : PyData := .tuple [pd r.1, pd r.2]
theorem AtL.dp {K : PySem.W.Frag} {H : Hp} {v : V} {r : Ln} (h : AtL K H v r) : Dp K H v (dl r) := by
  obtain ⟨a, u, w, rfl, h1, h2, h3⟩ := h
  exact .tup h1 (.cons h2.dp (.cons h3.dp .nil))
theorem lines_dp {K : PySem.W.Frag} {H : Hp} : ∀ {ws : List V} {ls : List Ln}, AllAt (AtL K H) ws ls → DpAll K H ws (ls.map dl)
  | _, _, .nil => .nil
  | _, _, .cons h t => .cons h.dp (lines_dp t)
theorem shapedLines (ls : List Ln) : SeqAt.shaped (.list (ls.map dl)) = true := by
  have h1 : ∀ ls : List Ln, PyData.canLayAll0 (ls.map dl) = true := by
    intro ls
    induction ls with
    | nil => rfl
    | cons n r ih => simp [PyData.canLayAll0, PyData.canLay0, dl, pd, ih]
  have h2 : ∀ ls : List Ln, PyData.depthAll (ls.map dl) ≤ 2 := by
    intro ls
    induction ls with
    | nil => decide
    | cons n r ih =>
      simp only [List.map_cons, PyData.depthAll]
      have : (dl n).depth = 2 := by simp [dl, pd, PyData.depth, PyData.depthAll]
      omega
  have h3 := h2 ls
  simp [SeqAt.shaped, PyData.canLay0, PyData.depth, h1]
  omega
theorem eqvNilL (ls : List Ln) : PyData.eqv (.list (ls.map dl)) (.list []) = ls.isEmpty := by
  cases ls <;> simp [PyData.eqv, PyData.eqvAll]
theorem AllAt.three {α : Type} {R : V → α → Prop} {vs : List V} {xs : List α} (h : AllAt R vs xs) (l : xs.length = 3) :
    ∃ v0 v1 v2 x0 x1 x2, vs = [v0, v1, v2] ∧ xs = [x0, x1, x2] ∧ R v0 x0 ∧ R v1 x1 ∧ R v2 x2 := by
  cases h with
  | nil => cases l
  | cons h0 h =>
    cases h with
    | nil => cases l
    | cons h1 h =>
      cases h with
      | nil => cases l
      | cons h2 h =>
        cases h with
        | nil => exact ⟨_, _, _, _, _, _, rfl, rfl, h0, h1, h2⟩
        | cons _ _ => simp at l
end Cl

namespace Cl
open PySem PySem.Spec PyProof.Rows L2
/-! ### what part of a line lies in a cell -/
abbrev Sh := Int × Int
def later (a b : Sh) : Sh := if a.1 * b.2 < b.1 * a.2 then b else a
def soon (a b : Sh) : Sh := if b.1 * a.2 < a.1 * b.2 then b else a
theorem frac_le {a b c d e f : Int} (h1 : a * d ≤ c * b) (h2 : c * f ≤ e * d) (hb : 0 < b) (hd : 0 < d) (hf : 0 < f) : a * f ≤ e * b := by
  refine Int.le_of_mul_le_mul_right (a := d) ?_ hd
  have k1 := Int.mul_le_mul_of_nonneg_right h1 (Int.le_of_lt hf)
  have k2 := Int.mul_le_mul_of_nonneg_right h2 (Int.le_of_lt hb)
  grind
theorem later_le {a b : Sh} {p q : Int} (ha : 0 < a.2) (hb : 0 < b.2) (hq : 0 < q) :
    ((later a b).1 * q ≤ p * (later a b).2) ↔ (a.1 * q ≤ p * a.2 ∧ b.1 * q ≤ p * b.2) := by
  unfold later
  split
  · rename_i h
    exact ⟨fun z => ⟨frac_le (Int.le_of_lt h) z ha hb hq, z⟩, fun z => z.2⟩
  · rename_i h
    exact ⟨fun z => ⟨z, frac_le (Int.not_lt.mp h) z hb ha hq⟩, fun z => z.1⟩
theorem soon_le {a b : Sh} {p q : Int} (ha : 0 < a.2) (hb : 0 < b.2) (hq : 0 < q) :
    (p * (soon a b).2 ≤ (soon a b).1 * q) ↔ (p * a.2 ≤ a.1 * q ∧ p * b.2 ≤ b.1 * q) := by
  unfold soon
  split
  · rename_i h
    exact ⟨fun z => ⟨frac_le z (Int.le_of_lt h) hq hb ha, z⟩, fun z => z.2⟩
  · rename_i h
    exact ⟨fun z => ⟨z, frac_le z (Int.not_lt.mp h) hq ha hb⟩, fun z => z.1⟩
theorem later_pos {a b : Sh} (ha : 0 < a.2) (hb : 0 < b.2) : 0 < (later a b).2 := by unfold later; split <;> assumption
theorem soon_pos {a b : Sh} (ha : 0 < a.2) (hb : 0 < b.2) : 0 < (soon a b).2 := by unfold soon; split <;> assumption
/-- the point at the share p of q lies in the cell's row or column, the greater side not with it -/
def HO1 (g start step num p q : Int) : Prop := (2 * num - 1) * g * q ≤ 2 * (start * q + step * p) ∧ 2 * (start * q + step * p) < (2 * num + 1) * g * q
def CL1 (g start step num p q : Int) : Prop := (2 * num - 1) * g * q ≤ 2 * (start * q + step * p) ∧ 2 * (start * q + step * p) ≤ (2 * num + 1) * g * q
def inc (f l : Sh) (step near far : Int) : Option (Sh × Sh) :=
  if step = 0 then (if near > 0 ∨ far < 0 then none else some (f, l))
  else if step < 0 then some (later f (-far, 2 * -step), soon l (-near, 2 * -step)) else some (later f (near, 2 * step), soon l (far, 2 * step))
theorem cl1_iff (g start step num p q : Int) : CL1 g start step num p q ↔ (((2 * num - 1) * g - 2 * start) * q ≤ 2 * step * p ∧ 2 * step * p ≤ ((2 * num + 1) * g - 2 * start) * q) := by
  unfold CL1
  constructor <;> intro h <;> constructor <;> grind
theorem inc_none {g start step num : Int} {f l : Sh} (h : inc f l step ((2 * num - 1) * g - 2 * start) ((2 * num + 1) * g - 2 * start) = none) {p q : Int} (hq : 0 < q) : ¬ CL1 g start step num p q := by
  unfold inc at h
  split at h
  · rename_i hs
    split at h
    · rename_i hz
      rw [cl1_iff, hs]
      intro ⟨k1, k2⟩
      rcases hz with z | z
      · have := Int.mul_pos z hq
        omega
      · have := Int.mul_pos (show 0 < -((2 * num + 1) * g - 2 * start) by omega) hq
        rw [Int.neg_mul] at this
        omega
    · cases h
  · split at h <;> cases h
theorem inc_some {g start step num : Int} {f l f' l' : Sh} (hf : 0 < f.2) (hl : 0 < l.2) (h : inc f l step ((2 * num - 1) * g - 2 * start) ((2 * num + 1) * g - 2 * start) = some (f', l')) :
    0 < f'.2 ∧ 0 < l'.2 ∧ ∀ p q : Int, 0 < q → ((f.1 * q ≤ p * f.2 ∧ p * l.2 ≤ l.1 * q ∧ CL1 g start step num p q) ↔ (f'.1 * q ≤ p * f'.2 ∧ p * l'.2 ≤ l'.1 * q)) := by
  unfold inc at h
  split at h
  · rename_i hs
    split at h
    · cases h
    · rename_i hz
      cases h
      refine ⟨hf, hl, fun p q hq => ⟨fun z => ⟨z.1, z.2.1⟩, fun z => ⟨z.1, z.2, ?_⟩⟩⟩
      rw [cl1_iff, hs]
      have h1 : ((2 * num - 1) * g - 2 * start) ≤ 0 := by omega
      have h2 : 0 ≤ ((2 * num + 1) * g - 2 * start) := by omega
      have := Int.mul_le_mul_of_nonneg_right h1 (Int.le_of_lt hq)
      have := Int.mul_nonneg h2 (Int.le_of_lt hq)
      omega
  · rename_i hs
    split at h
    · rename_i hz
      cases h
      have h2 : (0 : Int) < 2 * -step := by omega
      refine ⟨later_pos hf h2, soon_pos hl h2, fun p q hq => ?_⟩
      rw [later_le hf h2 hq, soon_le hl h2 hq, cl1_iff]
      simp only
      constructor
      · intro ⟨a, b, c, d⟩
        refine ⟨⟨a, ?_⟩, b, ?_⟩ <;> grind
      · intro ⟨⟨a, c⟩, b, d⟩
        refine ⟨a, b, ?_, ?_⟩ <;> grind
    · rename_i hz
      cases h
      have h2 : (0 : Int) < 2 * step := by omega
      refine ⟨later_pos hf h2, soon_pos hl h2, fun p q hq => ?_⟩
      rw [later_le hf h2 hq, soon_le hl h2 hq, cl1_iff]
      simp only
      constructor
      · intro ⟨a, b, c, d⟩
        refine ⟨⟨a, ?_⟩, b, ?_⟩ <;> grind
      · intro ⟨⟨a, c⟩, b, d⟩
        refine ⟨a, b, ?_, ?_⟩ <;> grind
def HOc (g : Int) (r : Ln) (c : Pt) (p q : Int) : Prop := HO1 g r.1.1 (r.2.1 - r.1.1) c.1 p q ∧ HO1 g r.1.2 (r.2.2 - r.1.2) c.2 p q
def Meets (g : Int) (r : Ln) (c : Pt) : Prop := ∃ p q : Int, 0 < q ∧ 0 ≤ p ∧ p ≤ q ∧ HOc g r c p q
def rimL (g n : Int) : Int := (2 * n - 1) * g
def rimH (g n : Int) : Int := (2 * n + 1) * g
def sharesW (g : Int) (r : Ln) (c : Pt) : Option (Sh × Sh) :=
  match inc (0, 1) (1, 1) (r.2.1 - r.1.1) (rimL g c.1 - 2 * r.1.1) (rimH g c.1 - 2 * r.1.1) with
  | none => none
  | some (f, l) => match inc f l (r.2.2 - r.1.2) (rimL g c.2 - 2 * r.1.2) (rimH g c.2 - 2 * r.1.2) with
    | none => none
    | some (f, l) => if l.1 * f.2 < f.1 * l.2 then none else some (f, l)
def midP (f l : Sh) : Int := f.1 * l.2 + l.1 * f.2
def midQ (f l : Sh) : Int := 2 * f.2 * l.2
theorem sharesW_none {g : Int} {r : Ln} {c : Pt} (h : sharesW g r c = none) : ¬ Meets g r c := by
  intro ⟨p, q, hq, h0, h1, ha, hb⟩
  have ca : CL1 g r.1.1 (r.2.1 - r.1.1) c.1 p q := ⟨ha.1, Int.le_of_lt ha.2⟩
  have cb : CL1 g r.1.2 (r.2.2 - r.1.2) c.2 p q := ⟨hb.1, Int.le_of_lt hb.2⟩
  unfold sharesW rimL rimH at h
  split at h
  · exact inc_none (by assumption) hq ca
  · rename_i f l e1
    obtain ⟨f2, l2, k1⟩ := inc_some (by decide) (by decide) e1
    have k1 := (k1 p q hq).mp ⟨by simp only; omega, by simp only; omega, ca⟩
    split at h
    · exact inc_none (by assumption) hq cb
    · rename_i f' l' e2
      obtain ⟨f3, l3, k2⟩ := inc_some f2 l2 e2
      have k2 := (k2 p q hq).mp ⟨k1.1, k1.2, cb⟩
      split at h
      · rename_i z
        have := frac_le k2.1 k2.2 f3 hq l3
        omega
      · cases h
theorem sharesW_some {g : Int} {r : Ln} {c : Pt} {f l : Sh} (h : sharesW g r c = some (f, l)) :
    0 < f.2 ∧ 0 < l.2 ∧ f.1 * l.2 ≤ l.1 * f.2 ∧ ∀ p q : Int, 0 < q → ((0 ≤ p ∧ p ≤ q ∧ CL1 g r.1.1 (r.2.1 - r.1.1) c.1 p q ∧ CL1 g r.1.2 (r.2.2 - r.1.2) c.2 p q) ↔ (f.1 * q ≤ p * f.2 ∧ p * l.2 ≤ l.1 * q)) := by
  unfold sharesW rimL rimH at h
  split at h
  · cases h
  · rename_i f1 l1 e1
    obtain ⟨f2, l2, k1⟩ := inc_some (by decide) (by decide) e1
    split at h
    · cases h
    · rename_i f' l' e2
      obtain ⟨f3, l3, k2⟩ := inc_some f2 l2 e2
      split at h
      · cases h
      · rename_i z
        cases h
        refine ⟨f3, l3, by omega, fun p q hq => ⟨fun w => (k2 p q hq).mp ?_, fun w => ?_⟩⟩
        · have := (k1 p q hq).mp ⟨by simp only; omega, by simp only; omega, w.2.2.1⟩
          exact ⟨this.1, this.2, w.2.2.2⟩
        · obtain ⟨a, b, d⟩ := (k2 p q hq).mpr w
          obtain ⟨a', b', d'⟩ := (k1 p q hq).mpr ⟨a, b⟩
          simp only at a' b'
          exact ⟨by omega, by omega, d', d⟩
theorem at_end {a s p q z n F : Int} (w : 2 * (a * q + s * p) * n < F * q * n) (w2 : 2 * (a * n + s * z) * q = F * n * q) (k : s * (z * q) ≤ s * (p * n)) : False := by
  have e1 : 2 * (a * q + s * p) * n = 2 * (a * q * n) + 2 * (s * (p * n)) := by grind
  have e2 : 2 * (a * n + s * z) * q = 2 * (a * q * n) + 2 * (s * (z * q)) := by grind
  have e3 : F * n * q = F * q * n := Int.mul_right_comm ..
  omega
theorem ends_eq {a s k l m n F : Int} (e : 2 * (a * (2 * m * n) + s * (k * n + l * m)) = F * (2 * m * n)) (e1 : 2 * (a * m + s * k) * n ≤ F * m * n) (e2 : 2 * (a * n + s * l) * m ≤ F * n * m) :
    2 * (a * m + s * k) * n = F * m * n ∧ 2 * (a * n + s * l) * m = F * n * m := by
  have c1 : 2 * (a * (2 * m * n) + s * (k * n + l * m)) = 2 * (a * m + s * k) * n + 2 * (a * n + s * l) * m := by grind
  have c2 : F * (2 * m * n) = F * m * n + F * n * m := by grind
  omega
/-- the middle of the part within lies in the cell, or nothing does -/
theorem meets_mid {g : Int} {r : Ln} {c : Pt} {f l : Sh} (h : sharesW g r c = some (f, l)) : Meets g r c ↔ HOc g r c (midP f l) (midQ f l) := by
  obtain ⟨f2, l2, fl, k⟩ := sharesW_some h
  have hQ : 0 < midQ f l := Int.mul_pos (by omega) l2
  have hm : f.1 * midQ f l ≤ midP f l * f.2 ∧ midP f l * l.2 ≤ l.1 * midQ f l := by
    unfold midP midQ
    have a1 := Int.mul_le_mul_of_nonneg_right fl (Int.le_of_lt f2)
    have a2 := Int.mul_le_mul_of_nonneg_right fl (Int.le_of_lt l2)
    constructor <;> grind
  obtain ⟨m0, m1, ca, cb⟩ := (k _ _ hQ).mpr hm
  constructor
  · intro ⟨p, q, hq, h0, h1, ha, hb⟩
    have kt := (k p q hq).mp ⟨h0, h1, ⟨ha.1, Int.le_of_lt ha.2⟩, ⟨hb.1, Int.le_of_lt hb.2⟩⟩
    have kf := (k f.1 f.2 f2).mpr ⟨Int.le_refl _, fl⟩
    have kl := (k l.1 l.2 l2).mpr ⟨fl, Int.le_refl _⟩
    have one : ∀ start step num : Int, HO1 g start step num p q → CL1 g start step num f.1 f.2 → CL1 g start step num l.1 l.2 → CL1 g start step num (midP f l) (midQ f l) → HO1 g start step num (midP f l) (midQ f l) := by
      intro start step num ht hf hl hmid
      refine ⟨hmid.1, Int.lt_iff_le_and_ne.mpr ⟨hmid.2, fun e => ?_⟩⟩
      -- both ends lie at the greater side
      have e1 : 2 * (start * f.2 + step * f.1) * l.2 ≤ (2 * num + 1) * g * f.2 * l.2 := Int.mul_le_mul_of_nonneg_right hf.2 (Int.le_of_lt l2)
      have e2 : 2 * (start * l.2 + step * l.1) * f.2 ≤ (2 * num + 1) * g * l.2 * f.2 := Int.mul_le_mul_of_nonneg_right hl.2 (Int.le_of_lt f2)
      obtain ⟨s1, s2⟩ := ends_eq e e1 e2
      have t1 : 2 * (start * f.2 + step * f.1) = (2 * num + 1) * g * f.2 := Int.eq_of_mul_eq_mul_right (by omega) s1
      have t2 : 2 * (start * l.2 + step * l.1) = (2 * num + 1) * g * l.2 := Int.eq_of_mul_eq_mul_right (by omega) s2
      have ht2 := ht.2
      rcases Int.lt_or_le step 0 with hs | hs
      · have k3 := Int.mul_le_mul_of_nonneg_left kt.2 (show 0 ≤ -step by omega)
        rw [Int.neg_mul, Int.neg_mul] at k3
        exact at_end (Int.mul_lt_mul_of_pos_right ht2 l2) (by rw [t2]) (by omega)
      · have k3 := Int.mul_le_mul_of_nonneg_left kt.1 hs
        exact at_end (Int.mul_lt_mul_of_pos_right ht2 f2) (by rw [t1]) k3
    exact ⟨one _ _ _ ha kf.2.2.1 kl.2.2.1 ca, one _ _ _ hb kf.2.2.2 kl.2.2.2 cb⟩
  · intro w
    exact ⟨_, _, hQ, m0, m1, w⟩
end Cl

namespace Cl
open PySem PySem.Spec PyProof.Rows L2
/-! ### shares that are tried one by one -/
/-- of a rising list: what N parted by q is, is in it, or lies strictly between two neighbours -/
theorem consec {q N : Int} (hq : 0 < q) : ∀ (L : List Int), L.Pairwise (· ≤ ·) → (∃ a ∈ L, a * q ≤ N) → (∃ b ∈ L, N ≤ b * q) →
    (∃ a ∈ L, a * q = N) ∨ ∃ a b, (a, b) ∈ L.dropLast.zip L.tail ∧ a * q < N ∧ N < b * q ∧ ∀ c ∈ L, c ≤ a ∨ b ≤ c
  | [], _, ⟨_, h, _⟩, _ => nomatch h
  | [a], _, ⟨x, hx, h1⟩, ⟨y, hy, h2⟩ => by
    rw [List.mem_singleton] at hx hy
    subst hx
    subst hy
    exact .inl ⟨_, List.mem_singleton_self _, Int.le_antisymm h1 h2⟩
  | a :: b :: r, hp, ⟨x, hx, h1⟩, ⟨y, hy, h2⟩ => by
    have ha : ∀ {z : Int}, z ∈ b :: r → a ≤ z := fun h => List.rel_of_pairwise_cons hp h
    have hp2 := List.Pairwise.of_cons hp
    have hax : a * q ≤ N := by
      rcases List.mem_cons.mp hx with rfl | hx
      · exact h1
      · exact Int.le_trans (Int.mul_le_mul_of_nonneg_right (ha hx) (Int.le_of_lt hq)) h1
    rcases Int.lt_or_le N (b * q) with hb | hb
    · rcases Int.lt_or_eq_of_le hax with h | h
      · refine .inr ⟨a, b, ?_, h, hb, fun c hc => ?_⟩
        · simp
        · rcases List.mem_cons.mp hc with rfl | hc
          · exact .inl (Int.le_refl _)
          · rcases List.mem_cons.mp hc with rfl | hc
            · exact .inr (Int.le_refl _)
            · exact .inr (List.rel_of_pairwise_cons hp2 hc)
      · exact .inl ⟨a, List.mem_cons_self .., h⟩
    · have hy2 : ∃ y ∈ b :: r, N ≤ y * q := by
        rcases List.mem_cons.mp hy with rfl | hy
        · exact ⟨b, List.mem_cons_self .., Int.le_trans h2 (Int.mul_le_mul_of_nonneg_right (ha (List.mem_cons_self ..)) (Int.le_of_lt hq))⟩
        · exact ⟨y, hy, h2⟩
      rcases consec hq (b :: r) hp2 ⟨b, List.mem_cons_self .., hb⟩ hy2 with ⟨z, hz, e⟩ | ⟨u, v, hz, k1, k2, k3⟩
      · exact .inl ⟨z, List.mem_cons_of_mem _ hz, e⟩
      · refine .inr ⟨u, v, ?_, k1, k2, fun c hc => ?_⟩
        · show (u, v) ∈ (a :: (b :: r).dropLast).zip ((b :: r).tail.cons b)
          simp only [List.tail_cons, List.zip_cons_cons, List.mem_cons]
          exact .inr hz
        · rcases List.mem_cons.mp hc with rfl | hc
          · left
            have hub : b ≤ u ∨ u < b := by omega
            rcases k3 b (List.mem_cons_self ..) with h | h
            · exact Int.le_trans (ha (List.mem_cons_self ..)) h
            · have : v * q ≤ b * q := Int.mul_le_mul_of_nonneg_right h (Int.le_of_lt hq)
              omega
          · exact k3 c hc
/-- one of the two rows: where what lies at the share p of q lies in it, so what lies at s, no crossing of its sides being strictly between -/
theorem row_mid {g start step num W p q a b s : Int} (hW : 0 < W) (hq : 0 < q) (ht : HO1 g start step num p q) (h1 : a * q < 2 * W * p) (h2 : 2 * W * p < b * q) (m1 : a < s) (m2 : s < b)
    (hc : step ≠ 0 → ∀ side ∈ [rimL g num, rimH g num], ∃ c : Int, 2 * step * c = (side - 2 * start) * W ∧ (2 * c ≤ a ∨ b ≤ 2 * c)) : HO1 g start step num s (2 * W) := by
  obtain ⟨t1, t2⟩ := ht
  have W2 : 0 < 2 * W := by omega
  by_cases hs : step = 0
  · subst hs
    have e1 : (2 * num - 1) * g ≤ 2 * start := Int.le_of_mul_le_mul_right (a := q) (by
      have : 2 * (start * q + 0 * p) = 2 * start * q := by rw [Int.zero_mul, Int.add_zero, Int.mul_assoc]
      omega) hq
    have e2 : 2 * start < (2 * num + 1) * g := Int.lt_of_mul_lt_mul_right (a := q) (by
      have : 2 * (start * q + 0 * p) = 2 * start * q := by rw [Int.zero_mul, Int.add_zero, Int.mul_assoc]
      omega) (Int.le_of_lt hq)
    have k : 2 * (start * (2 * W) + 0 * s) = 2 * start * (2 * W) := by rw [Int.zero_mul, Int.add_zero, Int.mul_assoc]
    refine ⟨?_, ?_⟩
    · rw [k]; exact Int.mul_le_mul_of_nonneg_right e1 (Int.le_of_lt W2)
    · rw [k]; exact Int.mul_lt_mul_of_pos_right e2 W2
  · obtain ⟨c1, e1, n1⟩ := hc hs (rimL g num) (by simp)
    obtain ⟨c2, e2, n2⟩ := hc hs (rimH g num) (by simp)
    unfold rimL at e1
    unfold rimH at e2
    unfold HO1
    generalize (2 * num - 1) * g = lo at *
    generalize (2 * num + 1) * g = hi at *
    -- times 2 W: step (2 W p - 2 c1 q) ≥ 0, step (2 W p - 2 c2 q) < 0
    have f1 := Int.mul_le_mul_of_nonneg_right t1 (Int.le_of_lt W2)
    have f2 := Int.mul_lt_mul_of_pos_right t2 W2
    have x1 : lo * q * (2 * W) = 2 * (step * (2 * c1 * q)) + 2 * (start * q * (2 * W)) := by
      have : 2 * step * c1 * q = (lo - 2 * start) * W * q := by rw [e1]
      grind
    have x2 : hi * q * (2 * W) = 2 * (step * (2 * c2 * q)) + 2 * (start * q * (2 * W)) := by
      have : 2 * step * c2 * q = (hi - 2 * start) * W * q := by rw [e2]
      grind
    have x3 : 2 * (start * q + step * p) * (2 * W) = 2 * (step * (2 * W * p)) + 2 * (start * q * (2 * W)) := by grind
    have g1 : step * (2 * c1 * q) ≤ step * (2 * W * p) := by omega
    have g2 : step * (2 * W * p) < step * (2 * c2 * q) := by omega
    have y1 : lo * (2 * W) = 2 * (step * (2 * c1)) + 2 * (start * (2 * W)) := by grind
    have y2 : hi * (2 * W) = 2 * (step * (2 * c2)) + 2 * (start * (2 * W)) := by grind
    have y3 : 2 * (start * (2 * W) + step * s) = 2 * (step * s) + 2 * (start * (2 * W)) := by grind
    have mul_q : ∀ u v : Int, u ≤ v → u * q ≤ v * q := fun u v h => Int.mul_le_mul_of_nonneg_right h (Int.le_of_lt hq)
    rcases Int.lt_or_le step 0 with hs | hs
    · have h1' : 2 * W * p ≤ 2 * c1 * q := Int.not_lt.mp fun z => by
        have := Int.mul_lt_mul_of_pos_left z (show 0 < -step by omega)
        rw [Int.neg_mul, Int.neg_mul] at this
        omega
      have h2' : 2 * c2 * q < 2 * W * p := Int.lt_of_not_ge fun z => by
        have := Int.mul_le_mul_of_nonneg_left z (show 0 ≤ -step by omega)
        rw [Int.neg_mul, Int.neg_mul] at this
        omega
      have b1 : b ≤ 2 * c1 := by
        rcases n1 with z | z
        · have := mul_q _ _ z
          omega
        · exact z
      have b2 : 2 * c2 ≤ a := by
        rcases n2 with z | z
        · exact z
        · have := mul_q _ _ z
          omega
      have w1 := Int.mul_lt_mul_of_pos_left (show s < 2 * c1 by omega) (show 0 < -step by omega)
      have w2 := Int.mul_lt_mul_of_pos_left (show 2 * c2 < s by omega) (show 0 < -step by omega)
      rw [Int.neg_mul, Int.neg_mul] at w1 w2
      exact ⟨by omega, by omega⟩
    · have hs' : 0 < step := by omega
      have h1' : 2 * c1 * q ≤ 2 * W * p := Int.le_of_mul_le_mul_left g1 hs'
      have h2' : 2 * W * p < 2 * c2 * q := Int.lt_of_mul_lt_mul_left g2 hs
      have b1 : 2 * c1 ≤ a := by
        rcases n1 with z | z
        · exact z
        · have := mul_q _ _ z
          omega
      have b2 : b ≤ 2 * c2 := by
        rcases n2 with z | z
        · have := mul_q _ _ z
          omega
        · exact z
      have w1 := Int.mul_lt_mul_of_pos_left (show 2 * c1 < s by omega) hs'
      have w2 := Int.mul_lt_mul_of_pos_left (show s < 2 * c2 by omega) hs'
      exact ⟨by omega, by omega⟩
theorem mem_zip_tail {a b : Int} : ∀ {L : List Int}, (a, b) ∈ L.dropLast.zip L.tail → a ∈ L ∧ b ∈ L := by
  intro L h
  have h1 := (List.of_mem_zip h).1
  have h2 := (List.of_mem_zip h).2
  exact ⟨(List.dropLast_sublist L).subset h1, List.mem_of_mem_tail h2⟩
/-- the shares that are tried: some of 2 W, rising, both ends and each crossing within them there, and the middles of neighbours -/
theorem tried {g W : Int} {r : Ln} {c : Pt} {L : List Int} (hW : 0 < W) (hp : L.Pairwise (· ≤ ·)) (hL : ∀ s ∈ L, ∃ t : Int, s = 2 * t ∧ 0 ≤ t ∧ t ≤ W) (h0 : 0 ∈ L) (h1 : 2 * W ∈ L)
    (hx : r.2.1 - r.1.1 ≠ 0 → ∀ side ∈ [rimL g c.1, rimH g c.1], ∃ k : Int, 2 * (r.2.1 - r.1.1) * k = (side - 2 * r.1.1) * W ∧ (0 ≤ k → k ≤ W → 2 * k ∈ L))
    (hy : r.2.2 - r.1.2 ≠ 0 → ∀ side ∈ [rimL g c.2, rimH g c.2], ∃ k : Int, 2 * (r.2.2 - r.1.2) * k = (side - 2 * r.1.2) * W ∧ (0 ≤ k → k ≤ W → 2 * k ∈ L)) :
    Meets g r c ↔ ∃ s ∈ L ++ (L.dropLast.zip L.tail).map (fun z => (z.1 + z.2) / 2), HOc g r c s (2 * W) := by
  have rng : ∀ s ∈ L ++ (L.dropLast.zip L.tail).map (fun z => (z.1 + z.2) / 2), 0 ≤ s ∧ s ≤ 2 * W := fun s hs => by
    rcases List.mem_append.mp hs with h | h
    · obtain ⟨t, e, t0, t1⟩ := hL s h
      omega
    · obtain ⟨⟨a, b⟩, hm, rfl⟩ := List.mem_map.mp h
      obtain ⟨ha, hb⟩ := mem_zip_tail hm
      obtain ⟨t, e, t0, t1⟩ := hL _ ha
      obtain ⟨u, f, u0, u1⟩ := hL _ hb
      simp only
      omega
  constructor
  · intro ⟨p, q, hq, p0, p1, ha, hb⟩
    have hN0 : (0 : Int) * q ≤ 2 * W * p := by
      rw [Int.zero_mul]
      exact Int.mul_nonneg (by omega) p0
    have hN1 : 2 * W * p ≤ 2 * W * q := Int.mul_le_mul_of_nonneg_left p1 (by omega)
    rcases consec hq L hp ⟨0, h0, hN0⟩ ⟨2 * W, h1, hN1⟩ with ⟨a, ha', e⟩ | ⟨a, b, hz, k1, k2, k3⟩
    · refine ⟨a, List.mem_append_left _ ha', ?_⟩
      have same : ∀ start step num : Int, HO1 g start step num p q → HO1 g start step num a (2 * W) := fun start step num ⟨t1, t2⟩ => by
        have x : 2 * (start * (2 * W) + step * a) * q = 2 * (start * q + step * p) * (2 * W) := by
          have : step * (a * q) = step * (2 * W * p) := by rw [e]
          grind
        have y : ∀ z : Int, z * q * (2 * W) = z * (2 * W) * q := fun z => by rw [Int.mul_right_comm]
        have s1 := Int.mul_le_mul_of_nonneg_right t1 (show 0 ≤ 2 * W by omega)
        have s2 := Int.mul_lt_mul_of_pos_right t2 (show 0 < 2 * W by omega)
        rw [y, ← x] at s1
        rw [y, ← x] at s2
        exact ⟨Int.le_of_mul_le_mul_right s1 hq, Int.lt_of_mul_lt_mul_right s2 (Int.le_of_lt hq)⟩
      exact ⟨same _ _ _ ha, same _ _ _ hb⟩
    · obtain ⟨ma, mb⟩ := mem_zip_tail hz
      obtain ⟨t, ea, t0, t1⟩ := hL _ ma
      obtain ⟨u, eb, u0, u1⟩ := hL _ mb
      have hab : a < b := Int.lt_of_mul_lt_mul_right (Int.lt_trans k1 k2) (Int.le_of_lt hq)
      have m1 : a < (a + b) / 2 := by omega
      have m2 : (a + b) / 2 < b := by omega
      refine ⟨(a + b) / 2, List.mem_append_right _ (List.mem_map.mpr ⟨(a, b), hz, rfl⟩), ?_, ?_⟩
      · refine row_mid hW hq ha k1 k2 m1 m2 fun hs side hm => ?_
        obtain ⟨k, e, hk⟩ := hx hs side hm
        refine ⟨k, e, ?_⟩
        by_cases z0 : 0 ≤ k
        · by_cases z1 : k ≤ W
          · exact k3 _ (hk z0 z1)
          · right; omega
        · left; omega
      · refine row_mid hW hq hb k1 k2 m1 m2 fun hs side hm => ?_
        obtain ⟨k, e, hk⟩ := hy hs side hm
        refine ⟨k, e, ?_⟩
        by_cases z0 : 0 ≤ k
        · by_cases z1 : k ≤ W
          · exact k3 _ (hk z0 z1)
          · right; omega
        · left; omega
  · intro ⟨s, hs, h⟩
    obtain ⟨s0, s1⟩ := rng s hs
    exact ⟨s, 2 * W, by omega, s0, s1, h⟩
/-- turned about, and moved by whole corners -/
theorem Meets.rev {g : Int} {r : Ln} {c : Pt} : Meets g (r.2, r.1) c ↔ Meets g r c := by
  have one : ∀ {r : Ln}, Meets g r c → Meets g (r.2, r.1) c := fun {r} ⟨p, q, hq, p0, p1, ha, hb⟩ => by
    refine ⟨q - p, q, hq, by omega, by omega, ?_, ?_⟩
    · have e : r.2.1 * q + (r.1.1 - r.2.1) * (q - p) = r.1.1 * q + (r.2.1 - r.1.1) * p := by grind
      unfold HO1 at ha ⊢
      simp only
      rw [e]
      exact ha
    · have e : r.2.2 * q + (r.1.2 - r.2.2) * (q - p) = r.1.2 * q + (r.2.2 - r.1.2) * p := by grind
      unfold HO1 at hb ⊢
      simp only
      rw [e]
      exact hb
  exact ⟨fun h => one h, fun h => one h⟩
theorem Meets.move {g i j : Int} {r : Ln} {c : Pt} : Meets g ((r.1.1 + i * g, r.1.2 + j * g), (r.2.1 + i * g, r.2.2 + j * g)) (c.1 + i, c.2 + j) ↔ Meets g r c := by
  have one : ∀ start step num i p q : Int, HO1 g (start + i * g) step (num + i) p q ↔ HO1 g start step num p q := fun start step num i p q => by
    unfold HO1
    have e1 : (2 * (num + i) - 1) * g * q = (2 * num - 1) * g * q + 2 * (i * g * q) := by grind
    have e2 : (2 * (num + i) + 1) * g * q = (2 * num + 1) * g * q + 2 * (i * g * q) := by grind
    have e3 : 2 * ((start + i * g) * q + step * p) = 2 * (start * q + step * p) + 2 * (i * g * q) := by grind
    rw [e1, e2, e3]
    omega
  unfold Meets HOc
  simp only [show ∀ a b k : Int, a + k - (b + k) = a - b from fun a b k => by omega, one]
theorem nr_eq {n d i : Int} (h : 0 < d) : nr n d = i ↔ (2 * i - 1) * d ≤ 2 * n ∧ 2 * n < (2 * i + 1) * d := by
  have k := nr_lies (n := n) h
  constructor
  · intro e
    rw [← e]
    exact k
  · intro ⟨a, b⟩
    have c1 : (2 * nr n d - 1) * d < (2 * i + 1) * d := by omega
    have c2 : (2 * i - 1) * d < (2 * nr n d + 1) * d := by omega
    have := Int.lt_of_mul_lt_mul_right c1 (Int.le_of_lt h)
    have := Int.lt_of_mul_lt_mul_right c2 (Int.le_of_lt h)
    omega
theorem in_cell {g start step num p q : Int} (hg : 0 < g) (hq : 0 < q) : nr (q * start + p * step) (q * g) = num ↔ HO1 g start step num p q := by
  rw [nr_eq (Int.mul_pos hq hg)]
  unfold HO1
  rw [show start * q + step * p = q * start + p * step by rw [Int.mul_comm q, Int.mul_comm p], show (2 * num - 1) * g * q = (2 * num - 1) * (q * g) by rw [Int.mul_assoc, Int.mul_comm g q], show (2 * num + 1) * g * q = (2 * num + 1) * (q * g) by rw [Int.mul_assoc, Int.mul_comm g q]]
theorem HO1.scale {g start step num p q k : Int} (hk : 0 < k) : HO1 g start step num (p * k) (q * k) ↔ HO1 g start step num p q := by
  unfold HO1
  have e1 : (2 * num - 1) * g * (q * k) = (2 * num - 1) * g * q * k := by rw [Int.mul_assoc _ q k]
  have e2 : (2 * num + 1) * g * (q * k) = (2 * num + 1) * g * q * k := by rw [Int.mul_assoc _ q k]
  have e3 : 2 * (start * (q * k) + step * (p * k)) = 2 * (start * q + step * p) * k := by grind
  rw [e1, e2, e3]
  exact ⟨fun ⟨a, b⟩ => ⟨Int.le_of_mul_le_mul_right a hk, Int.lt_of_mul_lt_mul_right b (Int.le_of_lt hk)⟩, fun ⟨a, b⟩ => ⟨Int.mul_le_mul_of_nonneg_right a (Int.le_of_lt hk), Int.mul_lt_mul_of_pos_right b hk⟩⟩
/-- in lowest terms the middle lies in the cell just when it does -/
theorem mid_low {g p q k : Int} {r : Ln} {c : Pt} (hk : 0 < k) : HOc g r c (p * k) (q * k) ↔ HOc g r c p q := by
  unfold HOc
  rw [HO1.scale hk, HO1.scale hk]
end Cl

namespace Cl
open PySem PySem.Spec PyProof.Rows L2
/-! ### promises: shares of lines within cells -/
def ShB (s : Sh) : Prop := -(2 ^ 60) < s.1 ∧ s.1 < 2 ^ 60 ∧ 0 < s.2 ∧ s.2 < 2 ^ 60
def spRims (K : PySem.W.Frag) : Sp := fun vs H Q _ => ∃ g n : Int, vs = [.int g, .int n] ∧ 0 < g ∧ g < 2 ^ 60 ∧ New H (.tup [.int (rimL g n), .int (rimH g n)]) Q
def spLow (K : PySem.W.Frag) : Sp := fun vs H Q _ => ∃ n d : Int, vs = [.int n, .int d] ∧ 0 < d ∧ d < 2 ^ 200 ∧
  ∀ w H' (p q k : Int), Same H H' → 0 < k → n = p * k → d = q * k → 0 < q → At2 K H' w (p, q) → Q w H'
def spSooner (K : PySem.W.Frag) : Sp := fun vs H Q _ => ∃ u v p q, vs = [u, v] ∧ At2 K H u p ∧ At2 K H v q ∧ ShB p ∧ ShB q ∧ Q (.bl (decide (p.1 * q.2 < q.1 * p.2))) H
def spLater (K : PySem.W.Frag) (f : Sh → Sh → Sh) : Sp := fun vs H Q _ => ∃ u v p q, vs = [u, v] ∧ At2 K H u p ∧ At2 K H v q ∧ ShB p ∧ ShB q ∧ ∀ w, At2 K H w (f p q) → Q w H
theorem later_ShB {a b : Sh} (ha : ShB a) (hb : ShB b) : ShB (later a b) := by unfold later; split <;> assumption
theorem soon_ShB {a b : Sh} (ha : ShB a) (hb : ShB b) : ShB (soon a b) := by unfold soon; split <;> assumption
theorem low_parts {n d : Int} (hd : 0 < d) : ∃ k : Int, k = (Int.gcd n d : Nat) ∧ 0 < k ∧ k ≤ d ∧ n = n / k * k ∧ d = d / k * k ∧ 0 < d / k := by
  have h0 : 0 < Int.gcd n d := Int.gcd_pos_of_ne_zero_right _ (by omega)
  have h1 : ((Int.gcd n d : Nat) : Int) ∣ n := Int.gcd_dvd_left ..
  have h2 : ((Int.gcd n d : Nat) : Int) ∣ d := Int.gcd_dvd_right ..
  refine ⟨_, rfl, by omega, Int.le_of_dvd hd h2, (Int.ediv_mul_cancel h1).symm, (Int.ediv_mul_cancel h2).symm, Int.ediv_pos_of_pos_of_dvd hd (by omega) h2⟩
end Cl

namespace Cl
open PySem PySem.Spec PyProof.Rows L2
/-! ### a loop over zip of three tuples -/
def Itz3 (K : PySem.W.Frag) (a b c : Addr) : It :=
  ⟨fun i H => ∃ xs ys zs : List V, SqT K H a xs ∧ SqT K H b ys ∧ SqT K H c zs ∧ i < xs.length ∧ i < ys.length ∧ i < zs.length,
    fun i H v H' => ∃ T x y u, v = .ref T ∧ H T = none ∧ H' = upd H T (.tup [x, y, u]) ∧ (∀ xs, SqT K H a xs → xs[i]? = some x) ∧ (∀ ys, SqT K H b ys → ys[i]? = some y) ∧ ∀ zs, SqT K H c zs → zs[i]? = some u,
    fun i H => ∃ xs ys zs : List V, SqT K H a xs ∧ SqT K H b ys ∧ SqT K H c zs ∧ i = min (min xs.length ys.length) zs.length⟩
theorem turn_zip3 {P : Program} {w : World} {K : PySem.W.Frag} {elts : List Expr} {kk : Nat} {tpos : Pos} {a b c z TI TO i1 i2 i3 : Addr} (S : ZipSep3 z TI TO i1 i2 i3 [i1, a] [i2, b] [i3, c]) (n1 : a ≠ i1) (n2 : b ≠ i2) (n3 : c ≠ i3) :
    Turn P w K (.Tuple elts kk tpos) (Itz3 K a b c) [z, TI, TO, i1, i2, i3] z (fun i h => IsZip h z TI TO .none ∧ IsTupOf3 h TI (.ref i1) (.ref i2) (.ref i3) ∧ (∃ x y u, IsTupOf3 h TO x y u) ∧ h.IsTupleIter i1 a i ∧ h.IsTupleIter i2 b i ∧ h.IsTupleIter i3 c i) where
  mem := by simp
  obj := fun i h st d hd => by
    obtain ⟨hz, hTI, ⟨x, y, u, hTO⟩, ⟨o1, e1, _, d1⟩, ⟨o2, e2, _, d2⟩, ⟨o3, e3, _, d3⟩⟩ := st
    simp only [List.mem_cons, List.not_mem_nil, or_false] at hd
    rcases hd with rfl | rfl | rfl | rfl | rfl | rfl
    · exact ⟨_, hz, fun v q => nomatch q⟩
    · exact ⟨_, hTI, fun v q => nomatch q⟩
    · exact ⟨_, hTO, fun v q => nomatch q⟩
    · exact ⟨o1, e1, fun v q => by rw [d1] at q; cases q⟩
    · exact ⟨o2, e2, fun v q => by rw [d2] at q; cases q⟩
    · exact ⟨o3, e3, fun v q => by rw [d3] at q; cases q⟩
  keep := fun i h h' st k => by
    obtain ⟨hz, hTI, ⟨x, y, u, hTO⟩, h1, h2, h3⟩ := st
    exact ⟨k z (by simp) _ hz, k TI (by simp) _ hTI, ⟨x, y, u, k TO (by simp) _ hTO⟩, h1.at fun o q => k i1 (by simp) o q, h2.at fun o q => k i2 (by simp) o q, h3.at fun o q => k i3 (by simp) o q⟩
  item := by
    intro X hP hw hK hc i pins s σ H E I hf st hg
    subst hP hw hK
    obtain ⟨hz, hTI, hTO, h1, h2, h3⟩ := st
    obtain ⟨xs, ys, zs, q1, q2, q3, l1, l2, l3⟩ := hg
    obtain ⟨t1, r1, p1, _⟩ := I.tuple q1
    obtain ⟨t2, r2, p2, _⟩ := I.tuple q2
    obtain ⟨t3, r3, p3, _⟩ := I.tuple q3
    have m1 := r1.length
    have m2 := r2.length
    have m3 := r3.length
    have hh : X.A.in1.handled = none := I.ok.hd hc
    have W := GoesN.zip3 (elts := elts) (x1 := kk) (pos := tpos) S (Draws.tuple (prog := X.prog) (w := X.w) hh i1 a n1 t1.toArray) (Draws.tuple hh i2 b n2 t2.toArray) (Draws.tuple hh i3 c n3 t3.toArray)
    refine W.goes i s _ E (by simp; omega) ⟨hz, hTI, hTO, ⟨h1, p1⟩, ⟨h2, p2⟩, ⟨h3, p3⟩⟩ fun v h' tk hY st' hk htk => ?_
    obtain ⟨T, x, y, u, rfl, hT, hx, hy, hu, hTup⟩ := hY
    obtain ⟨z', TI', TO', ⟨h1', _⟩, ⟨h2', _⟩, ⟨h3', _⟩⟩ := st'
    obtain ⟨x', ex, rx⟩ := r1.get (List.getElem?_eq_getElem l1)
    obtain ⟨y', ey, ry⟩ := r2.get (List.getElem?_eq_getElem l2)
    obtain ⟨u', eu, ru⟩ := r3.get (List.getElem?_eq_getElem l3)
    have ex' : x' = x := by simpa [ex] using hx
    have ey' : y' = y := by simpa [ey] using hy
    have eu' : u' = u := by simpa [eu] using hu
    subst ex' ey' eu'
    have new : ObjOk X.prog X.w (upd H T (.tup [xs[i], ys[i], zs[i]])) h' T (.tup [xs[i], ys[i], zs[i]]) :=
      ⟨by show 3 ≤ sizeLine; decide, [x', y', u'], .cons rx (.cons ry (.cons ru .nil)), hTup⟩
    have hk2 : ∀ d o, d ∉ [z, TI, TO, i1, i2, i3] → s.heap.get? d = some o → h'.get? d = some o := fun d o hd e =>
      hk d o (fun q => hd (by simp only [List.mem_cons, List.not_mem_nil, or_false] at q ⊢; rcases q with q | q | q | q | q <;> simp [q])) e
    have I1 := I.turnedNew (t' := tk) (ch := [z, TI, TO, i1, i2, i3]) hk2 hf hT new
    refine ⟨.ref T, _, I1, rfl, ⟨T, _, _, _, rfl, I.hok.fresh hT, rfl, fun l hl => by rw [I.tuple_inj hl q1]; exact List.getElem?_eq_getElem l1, fun l hl => by rw [I.tuple_inj hl q2]; exact List.getElem?_eq_getElem l2, fun l hl => by rw [I.tuple_inj hl q3]; exact List.getElem?_eq_getElem l3⟩, ⟨z', TI', TO', h1', h2', h3'⟩, fun d hd => ?_⟩
    have hlt : d < s.heap.objs.size := by
      simp only [List.mem_cons, List.not_mem_nil, or_false] at hd
      obtain ⟨_, _, _, hTO⟩ := hTO
      rcases hd with q | q | q | q | q | q
      · rw [q]; exact Heap.lt_size hz
      · rw [q]; exact Heap.lt_size hTI
      · rw [q]; exact Heap.lt_size hTO
      · rw [q]; obtain ⟨_, e1, _⟩ := h1; exact Heap.lt_size e1
      · rw [q]; obtain ⟨_, e1, _⟩ := h2; exact Heap.lt_size e1
      · rw [q]; obtain ⟨_, e1, _⟩ := h3; exact Heap.lt_size e1
    rw [upd_ne (Nat.ne_of_lt (Nat.lt_of_lt_of_le hlt hT))]
    exact (hf d hd).1
  done := by
    intro X hP hw hK hc i pins s σ H E I hf st hg
    subst hP hw hK
    obtain ⟨hz, hTI, hTO, h1, h2, h3⟩ := st
    obtain ⟨xs, ys, zs, q1, q2, q3, l⟩ := hg
    obtain ⟨t1, r1, p1, _⟩ := I.tuple q1
    obtain ⟨t2, r2, p2, _⟩ := I.tuple q2
    obtain ⟨t3, r3, p3, _⟩ := I.tuple q3
    have m1 := r1.length
    have m2 := r2.length
    have m3 := r3.length
    have hh : X.A.in1.handled = none := I.ok.hd hc
    have W := GoesN.zip3 (elts := elts) (x1 := kk) (pos := tpos) S (Draws.tuple (prog := X.prog) (w := X.w) hh i1 a n1 t1.toArray) (Draws.tuple hh i2 b n2 t2.toArray) (Draws.tuple hh i3 c n3 t3.toArray)
    have hi : i = min (min t1.toArray.size t2.toArray.size) t3.toArray.size := by simp; omega
    subst hi
    refine W.stops s _ E ⟨hz, hTI, hTO, ⟨h1, p1⟩, ⟨h2, p2⟩, ⟨h3, p3⟩⟩ fun h' tk hk htk => I.turnedL (t' := tk) (ch := [z, TI, TO, i1, i2, i3]) (fun d o hd e => ?_) hf
    exact hk d o (fun q => hd (by simp only [List.mem_cons, List.not_mem_nil, or_false] at q ⊢; rcases q with q | q | q | q | q <;> simp [q])) e
  self := fun A i s Q E st h => wpAny_pyIter_zip st.1 h
def iZip3 (K : PySem.W.Frag) (ta : TA) : TI := fun σ H R => ta σ H fun vs H1 => ∃ a b c xs ys zs, vs = [.ref a, .ref b, .ref c] ∧ SqT K H1 a xs ∧ SqT K H1 b ys ∧ SqT K H1 c zs ∧ R (Itz3 K a b c) H1
theorem pi_zip3 {X : Cx} {e e2 e3 : Expr} {ta : TA} {p pos tpos : Pos} {elts : List Expr} {kk : Nat} (hg : Gl X "zip") (hm : X.mg "zip" = none) (ha : PA X [e, e2, e3] ta)
    (hs : starEach [e, e2, e3] X.env = (false, eval e X.env) :: starEach [e2, e3] X.env := by rfl) (hpl : (backTo pos (starEach [e2, e3] X.env)).any (·.1) = false := by rfl) :
    PI X (.Tuple elts kk tpos) (.Call (.Name "zip" p) [e, e2, e3] [] pos) (iZip3 X.K ta) := by
  refine ⟨fun pins s σ H R I h => ?_⟩
  refine Call_ (ld_blt I hg hm PyProof.Rows.boot_zip (PyProof.Rows.callWith_type1 (thn (ha.run pos pins s σ H _ I h) fun us s1 ⟨vs, H1, I1, r1, q1⟩ => ?_) hs hpl))
  obtain ⟨a, b, c, xs, ys, zs, ex, q1, q2, q3, q⟩ := q1
  subst ex
  cases r1 with
  | cons r rr =>
    cases rr with
    | cons r' rr =>
      cases rr with
      | cons r'' rr =>
        cases rr
        cases r
        cases r'
        cases r''
        obtain ⟨t1, v1, p1, _⟩ := I1.tuple q1
        obtain ⟨t2, v2, p2, _⟩ := I1.tuple q2
        obtain ⟨t3, v3, p3, _⟩ := I1.tuple q3
        have la : a < s1.heap.objs.size := by obtain ⟨o1, g1, _⟩ := id p1; exact Heap.lt_size g1
        have lb : b < s1.heap.objs.size := by obtain ⟨o1, g1, _⟩ := id p2; exact Heap.lt_size g1
        have lc : c < s1.heap.objs.size := by obtain ⟨o1, g1, _⟩ := id p3; exact Heap.lt_size g1
        have fresh : ∀ d, d ∈ [s1.heap.objs.size + 5, s1.heap.objs.size + 3, s1.heap.objs.size + 4, s1.heap.objs.size, s1.heap.objs.size + 1, s1.heap.objs.size + 2] → FpOk X pins H1 d := fun d hd => by
          have hle : s1.heap.objs.size ≤ d := by
            simp only [List.mem_cons, List.not_mem_nil, or_false] at hd
            rcases hd with z | z | z | z | z | z
            · rw [z]; exact Nat.le_add_right _ _
            · rw [z]; exact Nat.le_add_right _ _
            · rw [z]; exact Nat.le_add_right _ _
            · rw [z]; exact Nat.le_refl _
            · rw [z]; exact Nat.le_add_right _ _
            · rw [z]; exact Nat.le_add_right _ _
          exact I1.fpOk hle (I1.hok.fresh hle)
        refine zip_begins3 (begins_tuple a t1.toArray) (begins_tuple b t2.toArray) (begins_tuple c t3.toArray) p1 p2 p3 fun h' hz hTI hTO h1 h2 h3 hsz hk => wpAny_pyIter_zip hz ?_
        have I2 : Inv X pins σ H1 { s1 with heap := h' } := I1.kept (t' := s1.toks) hk
        have ne : ∀ (d : Addr) (k : Nat), d < s1.heap.objs.size → d ≠ s1.heap.objs.size + k := fun d k hd => Nat.ne_of_lt (Nat.lt_of_lt_of_le hd (Nat.le_add_right _ _))
        exact ⟨s1.heap.objs.size + 5, [s1.heap.objs.size + 5, s1.heap.objs.size + 3, s1.heap.objs.size + 4, s1.heap.objs.size, s1.heap.objs.size + 1, s1.heap.objs.size + 2], _, _, H1, rfl, I2,
          turn_zip3 (zip_sep3 (fp1 := [a]) (fp2 := [b]) (fp3 := [c]) (fun d hd => by rw [List.mem_singleton.mp hd]; exact la) (fun d hd => by rw [List.mem_singleton.mp hd]; exact lb) (fun d hd => by rw [List.mem_singleton.mp hd]; exact lc)) (ne a 0 la) (ne b 1 lb) (ne c 2 lc),
          ⟨hz, hTI, ⟨_, _, _, hTO⟩, ⟨_, h1, rfl, rfl⟩, ⟨_, h2, rfl, rfl⟩, ⟨_, h3, rfl, rfl⟩⟩, fresh, q⟩
theorem for_zip3 {K : PySem.W.Frag} {a b c : Addr} {xs ys zs : List V} {g : TG} {tb : TS} {D : Ends} {σ : L2.St} {H : Hp} (hl : xs.length = ys.length) (hl2 : xs.length = zs.length) (Pv : Nat → L2.St → Hp → Prop) (h0 : Pv 0 σ H) (hq : ∀ i σ H, Pv i σ H → SqT K H a xs ∧ SqT K H b ys ∧ SqT K H c zs)
    (hs : ∀ (i : Nat) (x y u : V) (T : Addr) (σ : L2.St) (H : Hp), xs[i]? = some x → ys[i]? = some y → zs[i]? = some u → Pv i σ H → H T = none → g (.ref T) σ (upd H T (.tup [x, y, u])) fun σ2 H2 => tb { D with nx := Pv (i + 1), ct := Pv (i + 1), bk := D.nx } σ2 H2) (hd : ∀ σ H, Pv xs.length σ H → D.nx σ H) :
    ∃ W : Nat → Nat → L2.St → Hp → Prop, (∃ m, W 0 m σ H) ∧ ∀ i m σ H, W i m σ H →
      ((Itz3 K a b c).stop i H ∧ D.nx σ H) ∨ ((Itz3 K a b c).go i H ∧ ∃ N : L2.St → Hp → Prop, (∀ σ' H', N σ' H' → ∃ m', m' < m ∧ W (i + 1) m' σ' H') ∧ ∀ v H', (Itz3 K a b c).yld i H v H' → g v σ H' fun σ2 H2 => tb { D with nx := N, ct := N, bk := D.nx } σ2 H2) := by
  refine ⟨fun i m σ H => m = xs.length - i ∧ i ≤ xs.length ∧ Pv i σ H, ⟨xs.length, rfl, Nat.zero_le _, h0⟩, ?_⟩
  rintro i m σ H ⟨rfl, hi, p⟩
  obtain ⟨qx, qy, qz⟩ := hq i σ H p
  by_cases hlt : i < xs.length
  · refine .inr ⟨⟨xs, ys, zs, qx, qy, qz, hlt, by omega, by omega⟩, Pv (i + 1), fun σ' H' p' => ⟨xs.length - (i + 1), by omega, rfl, hlt, p'⟩, fun v H' y => ?_⟩
    obtain ⟨T, x', y', u', rfl, hT, rfl, f1, f2, f3⟩ := y
    exact hs i x' y' u' T σ H (f1 xs qx) (f2 ys qy) (f3 zs qz) p hT
  · have e : i = xs.length := by omega
    subst e
    exact .inl ⟨⟨xs, ys, zs, qx, qy, qz, by omega⟩, hd σ H p⟩
end Cl

namespace Cl
open PySem PySem.Spec PyProof.Rows L2
/-! ### pairs of lines of great numbers -/
def AtPair (K : PySem.W.Frag) (H : Hp) (v : V) (l r : Ln) : Prop := ∃ a u w, v = .ref a ∧ SqT K H a [u, w] ∧ AtL K H u l ∧ AtL K H w r
def GoodPair (l r : Ln) : Prop := BdL l ∧ BdL r ∧ l.1 ≠ l.2 ∧ r.1 ≠ r.2
def spPair (K : PySem.W.Frag) : Sp := fun vs H Q _ => ∃ (d l : Addr), vs = [.ref d] ∧ Deck H d l ∧
  ∀ w H' m n, Step d l H H' → AtPair K H' w m n → GoodPair m n → Q w H'
def spNum (B : Int) : Sp := fun vs H Q _ => ∃ (d l : Addr), vs = [.ref d] ∧ Deck H d l ∧ ∀ v H', -B ≤ v → v ≤ B → Step d l H H' → Q (.int v) H'
def spStepsP (K : PySem.W.Frag) : Sp := fun vs H Q _ => ∃ (d l : Addr), vs = [.ref d] ∧ Deck H d l ∧
  ∀ w H' p, Step d l H H' → At2 K H' w p → BdN 60000 p → p ≠ (0, 0) → Q w H'
theorem bdC_of {p : Pt} (h : BdN 10000000 p) : BdC p := by
  unfold BdN at h
  unfold BdC
  omega
theorem AllAt.twoLn {K : PySem.W.Frag} {H : Hp} {vs : List V} {p q : Pt} (h : AllAt (At2 K H) vs [p, q]) : ∃ u w, vs = [u, w] ∧ At2 K H u p ∧ At2 K H w q := by
  match vs, h with
  | [u, w], .cons a (.cons b .nil) => exact ⟨u, w, rfl, a, b⟩
theorem four {xs : List Int} (h : xs.length = 4) : ∃ x y z w, xs = [x, y, z, w] := by
  match xs, h with
  | [x, y, z, w], _ => exact ⟨x, y, z, w, rfl⟩
end Cl

namespace Cl
open PySem PySem.Spec PyProof.Rows L2
/-! ### a call of a def with a starred argument behind the first -/
section
variable {X : Cx} {k : Nat} {ps : List Str} {sp : Sp} {x : Str} {p pos : Pos} {e : Expr} {es : List Expr} {t : TA}
theorem callDS (D : Def X.prog X.w X.K X.mg X.base k x ps sp) (hr : RG k X.A) (ha : PA X (e :: es) t)
    (hg : Gl X x := by rfl) (hdb : (x == ("__debug__" : Str)) = false := by decide)
    (he : starEach (e :: es) X.env = (false, eval e X.env) :: starEach es X.env := by rfl)
    (hst : (backTo pos (starEach es X.env)).any (·.1) = true := by rfl) :
    PE X (.Call (.Name x p) (e :: es) [] pos) (tCall sp [] E0 t) := by
  obtain ⟨f, fd, F, hm, hk, hb⟩ := D.ex
  constructor
  intro pins s σ H Q I h
  refine wpAny_Call_Name_kw (ld_glob I hg hm ?_ hdb)
  refine PySem.W.callWith_S2 (h₀ := X.base) I.ok.mod.kin hk ?_ he hst
  refine thn (ha.run pos pins s σ H _ I h) fun us s1 ⟨vs, H1, I1, r, q⟩ => ⟨I1.kIn, ?_⟩
  have r2 : Vals (vs ++ []) (us ++ []) := r.append .nil
  have h2 : sp (vs ++ []) H1 Q E0 := q
  have n2 : (us ++ []).length = ps.length := r2.length.symm.trans (F.len _ _ _ _ h2)
  have run := F.run X.A X.stack s1 H1 ⟨us, []⟩ (us ++ []) (vs ++ []) Q E0 hr I1.env0 (hb s1 us I1.kIn n2) r2 h2
  refine wpAny_call (codeAny_mono run fun res s' hq => ?_)
  match res, hq with
  | .error ee, hq => exact pass0 pins σ H1 s1 ee s' I1 hq
  | .ok (.ret u), hq => exact I1.after hq
  | .ok .next, hq => exact hq.elim
  | .ok .brk, hq => exact hq.elim
  | .ok .cont, hq => exact hq.elim
end
/-! ### promises: the part of a line within a cell -/
def BdW (g : Int) (r : Ln) (c : Pt) : Prop := 0 < g ∧ g ≤ 1000 ∧ BdN 3000000 r.1 ∧ BdN 3000000 r.2 ∧ BdN 3000000 c
def AtSh (K : PySem.W.Frag) (H : Hp) (v : V) (f l : Sh) : Prop := ∃ a u w, v = .ref a ∧ SqT K H a [u, w] ∧ At2 K H u f ∧ At2 K H w l
def ShN (s : Sh) : Prop := -(2 ^ 36) < s.1 ∧ s.1 < 2 ^ 36 ∧ 0 < s.2 ∧ s.2 < 2 ^ 24
theorem ShN.b {s : Sh} (h : ShN s) : ShB s := by
  unfold ShN at h
  unfold ShB
  omega
theorem later_ShN {a b : Sh} (ha : ShN a) (hb : ShN b) : ShN (later a b) := by unfold later; split <;> assumption
theorem soon_ShN {a b : Sh} (ha : ShN a) (hb : ShN b) : ShN (soon a b) := by unfold soon; split <;> assumption
def spWithin (K : PySem.W.Frag) : Sp := fun vs H Q _ => ∃ g v r u c, vs = [.int g, v, u] ∧ AtL K H v r ∧ At2 K H u c ∧ BdW g r c ∧
  (sharesW g r c = none → ∀ H', Same H H' → Q .non H') ∧ ∀ f l w H', sharesW g r c = some (f, l) → Same H H' → AtSh K H' w f l → ShN f → ShN l → Q w H'
/-- the two numbers of a point, by 0 and 1 -/
def crd (p : Int × Int) (i : Nat) : Int := if i = 0 then p.1 else p.2
def stg (g : Int) (r : Ln) (c : Pt) : Nat → Option (Sh × Sh)
  | 0 => some ((0, 1), (1, 1))
  | i + 1 => match stg g r c i with
    | none => none
    | some (f, l) => inc f l (crd r.2 i - crd r.1 i) (rimL g (crd c i) - 2 * crd r.1 i) (rimH g (crd c i) - 2 * crd r.1 i)
theorem sharesW_stg (g : Int) (r : Ln) (c : Pt) : sharesW g r c = match stg g r c 2 with
    | none => none
    | some (f, l) => if l.1 * f.2 < f.1 * l.2 then none else some (f, l) := by
  unfold sharesW
  cases h : inc (0, 1) (1, 1) (r.2.1 - r.1.1) (rimL g c.1 - 2 * r.1.1) (rimH g c.1 - 2 * r.1.1) with
  | none => simp [stg, crd, h]
  | some z =>
    obtain ⟨f, l⟩ := z
    cases h2 : inc f l (r.2.2 - r.1.2) (rimL g c.2 - 2 * r.1.2) (rimH g c.2 - 2 * r.1.2) with
    | none => simp [stg, crd, h, h2]
    | some z => simp [stg, crd, h, h2]
theorem stg_none {g : Int} {r : Ln} {c : Pt} {i : Nat} (hi : i < 2) (h : stg g r c (i + 1) = none) : sharesW g r c = none := by
  rw [sharesW_stg]
  obtain rfl | rfl : i = 0 ∨ i = 1 := by omega
  · rw [show stg g r c 2 = match stg g r c 1 with
      | none => none
      | some (f, l) => inc f l (crd r.2 1 - crd r.1 1) (rimL g (crd c 1) - 2 * crd r.1 1) (rimH g (crd c 1) - 2 * crd r.1 1) from rfl, h]
  · rw [h]
theorem rim_b {g n : Int} (h0 : 0 < g) (h1 : g ≤ 1000) (n0 : -3000000 ≤ n) (n1 : n ≤ 3000000) : -(2 ^ 34) < rimL g n ∧ rimL g n < 2 ^ 34 ∧ -(2 ^ 34) < rimH g n ∧ rimH g n < 2 ^ 34 := by
  have k : ∀ z : Int, -6000001 ≤ z → z ≤ 6000001 → -6000001000 ≤ z * g ∧ z * g ≤ 6000001000 := fun z z0 z1 => by
    have a1 : (z + 6000001) * g ≤ (z + 6000001) * 1000 := Int.mul_le_mul_of_nonneg_left h1 (by omega)
    have a2 : (6000001 - z) * g ≤ (6000001 - z) * 1000 := Int.mul_le_mul_of_nonneg_left h1 (by omega)
    have a3 : 0 ≤ (z + 6000001) * g := Int.mul_nonneg (by omega) (by omega)
    have a4 : 0 ≤ (6000001 - z) * g := Int.mul_nonneg (by omega) (by omega)
    rw [Int.add_mul] at a1 a3
    rw [Int.sub_mul] at a2 a4
    omega
  unfold rimL rimH
  have := k (2 * n - 1) (by omega) (by omega)
  have := k (2 * n + 1) (by omega) (by omega)
  omega
/-- corner_at: its spot's corner -/
def spCornerAt (K : PySem.W.Frag) : Sp := fun vs H Q _ => ∃ (g : Int) (v : V) (s : S3), vs = [.int g, v] ∧ At3 K H v s ∧ 0 < g ∧ g < 2 ^ 60 ∧ 0 < s.2.2 ∧ s.2.2 * g < 2 ^ 60 ∧
  ∀ w H', Same H H' → At2 K H' w (nr s.1 (s.2.2 * g), nr s.2.1 (s.2.2 * g)) → Q w H'
def spShare (K : PySem.W.Frag) : Sp := fun vs H Q _ => ∃ g v r u c, vs = [.int g, v, u] ∧ AtL K H v r ∧ At2 K H u c ∧ BdW g r c ∧
  (¬ Meets g r c → ∀ H', Same H H' → Q .non H') ∧ (Meets g r c → ∀ p w H', Same H H' → At2 K H' w p → Q w H')
def spMeets (K : PySem.W.Frag) : Sp := fun vs H Q _ => ∃ g v r u c, vs = [.int g, v, u] ∧ AtL K H v r ∧ At2 K H u c ∧ BdW g r c ∧
  ∀ b H', Same H H' → (b = true ↔ Meets g r c) → Q (.bl b) H'
theorem eqv_pair (i j k l : Int) : PyData.eqv (.tuple [.int i, .int j]) (.tuple [.int k, .int l]) = decide (i = k ∧ j = l) := by
  rw [Bool.eq_iff_iff]
  simp [PyData.eqv, PyData.eqvAll]
theorem mid_b {f l : Sh} (hf : ShN f) (hl : ShN l) : 0 < midQ f l ∧ midQ f l ≤ 2 ^ 49 := by
  unfold ShN at hf hl
  unfold midQ
  have h1 : f.2 * l.2 ≤ 2 ^ 24 * 2 ^ 24 := Int.mul_le_mul (by omega) (by omega) (by omega) (by decide)
  have h2 : 0 < f.2 * l.2 := Int.mul_pos (by omega) (by omega)
  rw [Int.mul_assoc]
  omega
/-- the corner of the point at the share p of q is this one just when the point lies in its cell -/
theorem corner_share {g : Int} {r : Ln} {c : Pt} {p q : Int} (hg : 0 < g) (hq : 0 < q) :
    let s := sp3 (q * r.1.1 + p * (r.2.1 - r.1.1)) (q * r.1.2 + p * (r.2.2 - r.1.2)) q
    0 < s.2.2 ∧ s.2.2 ≤ q ∧ ((nr s.1 (s.2.2 * g), nr s.2.1 (s.2.2 * g)) = c ↔ HOc g r c p q) := by
  obtain ⟨k, _, _, _, _, h2, h3⟩ := spot_pos (n := q * r.1.1 + p * (r.2.1 - r.1.1)) (m := q * r.1.2 + p * (r.2.2 - r.1.2)) hq
  refine ⟨h2, h3, ?_⟩
  obtain ⟨e1, e2⟩ := nr_spot (n := q * r.1.1 + p * (r.2.1 - r.1.1)) (m := q * r.1.2 + p * (r.2.2 - r.1.2)) (g := g) hq
  show (nr _ (_ * g), nr _ (_ * g)) = c ↔ _
  unfold sp3
  simp only
  rw [e1, e2]
  unfold HOc
  rw [← in_cell hg hq, ← in_cell hg hq]
  constructor
  · intro e
    rw [← e]
    exact ⟨rfl, rfl⟩
  · intro ⟨a, b⟩
    exact Prod.ext a b
end Cl

namespace Cl
open PySem PySem.Spec PyProof.Rows L2
/-! ### lines of any grain, drawn; the shares tried -/
def BdR (B : Int) (r : Ln) : Prop := BdN B r.1 ∧ BdN B r.2
def spGrainW : Sp := fun vs H Q _ => ∃ d l : Addr, vs = [.ref d] ∧ Deck H d l ∧ ∀ g H', 0 < g → g ≤ 1000 → Step d l H H' → Q (.int g) H'
def spPointW (K : PySem.W.Frag) : Sp := fun vs H Q _ => ∃ (d l : Addr) (g way : Int), vs = [.ref d, .int g, .int way] ∧ 0 < g ∧ g ≤ 1000 ∧ Deck H d l ∧
  ∀ w H' p, Step d l H H' → At2 K H' w p → BdN 5000 p → Q w H'
def spLineW (K : PySem.W.Frag) : Sp := fun vs H Q _ => ∃ (d l : Addr) (g : Int) (L : Addr) (ws : List V) (ls : List Ln), vs = [.ref d, .int g, .ref L] ∧ 0 < g ∧ g ≤ 1000 ∧ Deck H d l ∧
  L ≠ d ∧ L ≠ l ∧ H L = some (.lst ws) ∧ AllAt (AtL K H) ws ls ∧ ls.length ≤ 10 ∧
  ∀ w H' r', Step d l H H' → AtL K H' w r' → BdR 60000 r' → Q w H'
def spLinesW (K : PySem.W.Frag) : Sp := fun vs H Q _ => ∃ (d l : Addr) (g : Int) (n : Nat), vs = [.ref d, .int g, .int n] ∧ 0 < g ∧ g ≤ 1000 ∧ 0 < n ∧ n ≤ 10 ∧ Deck H d l ∧
  ∀ w H' ls, Step d l H H' → AtT K H' w ls → ls.length = n → (∀ r ∈ ls, BdR 60000 r) → Q w H'
def mvL (dx dy : Int) (r : Ln) : Ln := ((r.1.1 + dx, r.1.2 + dy), (r.2.1 + dx, r.2.2 + dy))
def spMovedW (K : PySem.W.Frag) : Sp := fun vs H Q _ => ∃ (v : V) (ls : List Ln) (dx dy : Int), vs = [v, .int dx, .int dy] ∧ AtT K H v ls ∧ ls.length ≤ 900 ∧
  ∀ w H', Same H H' → AtT K H' w (ls.map (mvL dx dy)) → Q w H'
def spNearestW (K : PySem.W.Frag) : Sp := fun vs H Q _ => ∃ (g : Int) (v : V) (s : S3), vs = [.int g, v] ∧ At3 K H v s ∧ 0 < g ∧ g ≤ 1000 ∧ s.2.2 = 16 ∧
  ∀ w H' p, Same H H' → At2 K H' w p → Q w H'
def spSharesW (K : PySem.W.Frag) : Sp := fun vs H Q _ => ∃ g v r u c, vs = [.int g, v, u] ∧ AtL K H v r ∧ At2 K H u c ∧ 0 < g ∧ g ≤ 1000 ∧ BdR 1100000 r ∧ BdN 1000000 c ∧
  ∀ L H' vs ps, Same H H' → H' L = some (.lst vs) → AllAt (At2 K H') vs ps → (ps ≠ [] ↔ Meets g r c) → Q (.ref L) H'
def spFarW : Sp := fun vs H Q _ => ∃ (d l : Addr), vs = [.ref d] ∧ Deck H d l ∧ ∀ v H', -1000000 ≤ v → v ≤ 1000000 → Step d l H H' → Q (.int v) H'
def spSomeW (K : PySem.W.Frag) : Sp := fun vs H Q _ => ∃ (d l : Addr) (g : Int), vs = [.ref d, .int g] ∧ 0 < g ∧ g ≤ 1000 ∧ Deck H d l ∧
  ∀ w H' r, Step d l H H' → AtL K H' w r → BdR 1100000 r → Q w H'
def spNearW (K : PySem.W.Frag) : Sp := fun vs H Q _ => ∃ (d l : Addr) (g : Int) (v : V) (r : Ln), vs = [.ref d, .int g, v] ∧ 0 < g ∧ g ≤ 1000 ∧ Deck H d l ∧ AtL K H v r ∧
  ∀ w H' c, Step d l H H' → At2 K H' w c → BdN 1000000 c → Q w H'
def AtLC (K : PySem.W.Frag) (H : Hp) (v : V) (x : Ln × Pt) : Prop := ∃ a u w, v = .ref a ∧ SqT K H a [u, w] ∧ AtL K H u x.1 ∧ At2 K H w x.2
theorem AtLC.same {K : PySem.W.Frag} {H H' : Hp} {v : V} {x : Ln × Pt} (h : AtLC K H v x) (s : Same H H') : AtLC K H' v x := by
  obtain ⟨a, u, w, rfl, h1, h2, h3⟩ := h
  exact ⟨a, u, w, rfl, seT s h1, h2.same s, h3.same s⟩
theorem AtLC.upd {K : PySem.W.Frag} {H : Hp} {M : Addr} {xs : List V} {o : HO} {v : V} {x : Ln × Pt} (h : AtLC K H v x) (e : H M = some (.lst xs)) : AtLC K (L2.upd H M o) v x := by
  obtain ⟨a, u, w, rfl, h1, h2, h3⟩ := h
  exact ⟨a, u, w, rfl, updT e h1, h2.upd e, h3.upd e⟩
def spTurnedW (K : PySem.W.Frag) : Sp := fun vs H Q _ => ∃ (g : Int) (v : V) (r : Ln) (u : V) (c : Pt) (b : Addr) (i j : Int), vs = [.int g, v, u, .ref b] ∧ AtL K H v r ∧ At2 K H u c ∧ H b = some (.lst [.int i, .int j]) ∧
  0 < g ∧ g ≤ 1000 ∧ BdR 1100000 r ∧ BdN 1000000 c ∧ -10 ≤ i ∧ i ≤ 10 ∧ -10 ≤ j ∧ j ≤ 10 ∧
  ∀ L H' vs ps, Same H H' → H' L = some (.lst vs) → AllAt (AtLC K H') vs ps → (∀ x ∈ ps, BdW g x.1 x.2 ∧ (Meets g x.1 x.2 ↔ Meets g r c)) → Q (.ref L) H'
theorem cut_init (xs : List V) : cutV xs none (some (-1)) = xs.dropLast := by
  unfold cutV
  have e : HT.sIx xs.length xs.length (some (-1)) = xs.length - 1 := by
    show (if (-1 : Int) < 0 then ((-1 : Int) + (xs.length : Int)).toNat else min (-1 : Int).toNat xs.length) = _
    rw [if_pos (by decide)]
    omega
  rw [HT.sIx_none, e, List.drop_zero, Nat.sub_zero, List.dropLast_eq_take]
theorem cut_tail (xs : List V) : cutV xs (some 1) none = xs.tail := by rw [cut_rest, List.drop_one]
section
variable {X : Cx}
theorem cr_sortedIN : CallR X (.builtin "sorted") (fun vs H Q => ∃ (a : Addr) (ns : List Int), vs = [V.ref a] ∧ SqL X.K H a (ns.map V.int) ∧ ∀ ns' : List Int, ns'.Perm ns → ns'.Pairwise (· ≤ ·) → New H (.lst (ns'.map V.int)) Q) :=
  fun pins s σ H vs us Q I r ⟨a, ns, h1, h2, q⟩ => cr_sortedI pins s σ H vs us Q I r ⟨a, ns, h1, h2, fun ns' p h3 h4 n => (q ns' h3 h4).go p n⟩
def rRepN : R2 := fun x y H Q => ∃ l k xs, x = .ref l ∧ y = .int k ∧ H l = some (.lst xs) ∧ -(2 ^ 63) ≤ k ∧ k < 2 ^ 63 ∧ xs.length * k.toNat ≤ sizeLine ∧ New H (.lst (List.replicate k.toNat xs).flatten) Q
theorem op_repN : OpR X (binaryOp .Mult) rRepN := fun pins s σ H x y v u Q I rx ry ⟨l, k, xs, h1, h2, h3, h4, h5, h6, q⟩ => op_rep pins s σ H x y v u Q I rx ry ⟨l, k, xs, h1, h2, h3, h4, h5, h6, q.go⟩
end
section
variable {X : Cx}
theorem cut_whole {xs : List V} {lo hi : Option Int} (h : HT.sIx xs.length 0 lo = 0 ∧ HT.sIx xs.length xs.length hi = xs.length) : cutV xs lo hi = xs := by
  unfold cutV
  rw [h.1, h.2, List.drop_zero, Nat.sub_zero, List.take_length]
/-- t[lo:hi] of a tuple, a new one or itself -/
def rSlTB (K : PySem.W.Frag) : V → Option Int → Option Int → Hp → VK → Prop := fun x lo hi H Q => ∃ a xs, x = .ref a ∧ SqT K H a xs ∧ ∀ p H', Same H H' → SqT K H' p (cutV xs lo hi) → Q (.ref p) H'
theorem sl_tupB : SlR X (rSlTB X.K) := fun pins s σ H x v vl vu lo hi sl Q I rx hs pl pu ⟨a, xs, h1, h2, q⟩ =>
  sl_tupA pins s σ H x v vl vu lo hi sl Q I rx hs pl pu ⟨a, xs, h1, h2, fun hw => q a H (.refl _) (by rw [cut_whole hw]; exact h2), fun _ p n => q p _ (same_new n) (.inl (.inl upd_same))⟩
/-- t + u of tuples, a new one or one of them -/
def rCatTB (K : PySem.W.Frag) : R2 := fun x y H Q => ∃ a b xs ys, x = .ref a ∧ y = .ref b ∧ SqT K H a xs ∧ SqT K H b ys ∧ xs.length + ys.length ≤ sizeLine ∧ ∀ p H', Same H H' → SqT K H' p (xs ++ ys) → Q (.ref p) H'
theorem op_catTB : OpR X (binaryOp .Add) (rCatTB X.K) := fun pins s σ H x y v u Q I rx ry ⟨a, b, xs, ys, h1, h2, h3, h4, h5, q⟩ =>
  op_catA pins s σ H x y v u Q I rx ry ⟨a, b, xs, ys, h1, h2, h3, h4, h5, fun e => q b H (.refl _) (by rw [e]; exact h4), fun _ e => q a H (.refl _) (by rw [e, List.append_nil]; exact h3), fun _ _ p n => q p _ (same_new n) (.inl (.inl upd_same))⟩
end
theorem small64' {n : Nat} (h : n ≤ 100) : n ≤ sizeLine := by
  have : sizeLine = 16777216 := by decide
  omega
/-- over zip of two lists -/
def lcZ {K : PySem.W.Frag} {a b : Addr} {xs ys : List V} {n : Nat} {g : TG} {tt : TT} {te : TE} {vs : List Nat} {σ : L2.St} {H1 : Hp} {D : Addr} {Qd : Hp → Prop} (hn : n = min xs.length ys.length)
    (Pv : Nat → Hp → Prop) (hD : H1 D = none) (h0 : ∀ H', Same H1 H' → H' D = some (.lst []) → Pv 0 H') (hG : ∀ i H, i ≤ n → Pv i H → SqL K H a xs ∧ SqL K H b ys)
    (hs : ∀ i x H H', i < n → Pv i H → YPair (fun i => xs[i]?) (fun i => ys[i]?) i H x H' → g x (wipe σ vs) H' fun σ2 H2 => wipe σ2 vs = wipe σ vs ∧ tt σ2 H2 fun b H3 =>
      if b = true then te σ2 H3 fun y H4 => ∃ acc, H4 D = some (.lst acc) ∧ acc.length < sizeLine ∧ Pv (i + 1) (upd H4 D (.lst (acc ++ [y]))) else Pv (i + 1) H3)
    (hd : ∀ H, Pv n H → Qd H) := lc_it (walk_zip (K := K) (a := a) (b := b) hn) (g := g) (tt := tt) (te := te) (vs := vs) (σ := σ) (H1 := H1) (D := D) (Qd := Qd) Pv (h0 _ (same_new hD) upd_same) hG hs hd
/-! ### the shares that the law tries -/
def ab (z : Int) : Int := if z < 0 then -z else z
def m1 (z : Int) : Int := if ab z > 1 then ab z else 1
def sgn (z : Int) : Int := if z > 0 then 1 else -1
def crs (first way W side : Int) : Int := (side - first) * (W / ab way) * sgn way
def crsR (g first way k W : Int) : List Int := if way ≠ 0 then [crs first way W (rimL g k), crs first way W (rimH g k)] else []
def wh (r : Ln) : Int := m1 (2 * (r.2.1 - r.1.1)) * m1 (2 * (r.2.2 - r.1.2))
def raw (g : Int) (r : Ln) (c : Pt) : List Int := [0, wh r] ++ crsR g (2 * r.1.1) (2 * (r.2.1 - r.1.1)) c.1 (wh r) ++ crsR g (2 * r.1.2) (2 * (r.2.2 - r.1.2)) c.2 (wh r)
def inB (g first way k W s : Int) : Bool := decide (2 * (2 * k - 1) * g * W ≤ first * 2 * W + way * s) && decide (first * 2 * W + way * s < 2 * (2 * k + 1) * g * W)
theorem ab_pos {z : Int} (h : z ≠ 0) : 0 < ab z := by unfold ab; split <;> omega
theorem m1_pos (z : Int) : 0 < m1 z := by unfold m1 ab; split <;> omega
theorem m1_of {z : Int} (h : z ≠ 0) : m1 z = ab z := by unfold m1 ab; split <;> (split <;> omega)
theorem m1_le {z B : Int} (h1 : -B ≤ z) (h2 : z ≤ B) (hB : 1 ≤ B) : m1 z ≤ B := by unfold m1 ab; split <;> (split <;> omega)
theorem wh_pos (r : Ln) : 0 < wh r := Int.mul_pos (m1_pos _) (m1_pos _)
theorem wh_le {r : Ln} (h : BdR 1100000 r) : wh r ≤ 2 ^ 45 := by
  obtain ⟨h1, h2⟩ := h
  unfold BdN at h1 h2
  have a1 := m1_le (z := 2 * (r.2.1 - r.1.1)) (B := 4400000) (by omega) (by omega) (by omega)
  have a2 := m1_le (z := 2 * (r.2.2 - r.1.2)) (B := 4400000) (by omega) (by omega) (by omega)
  have := Int.mul_le_mul a1 a2 (Int.le_of_lt (m1_pos _)) (by omega)
  unfold wh
  omega
theorem crs_eq {first way W side : Int} (hw : way ≠ 0) (hd : ab way ∣ W) : way * crs first way W side = (side - first) * W := by
  unfold crs
  obtain ⟨q, rfl⟩ := hd
  rw [Int.mul_ediv_cancel_left _ (by have := ab_pos hw; omega)]
  unfold ab sgn
  by_cases h : 0 < way
  · rw [if_pos (show way > 0 from h), if_neg (show ¬ way < 0 by omega)]
    generalize side - first = A
    rw [Int.mul_one, Int.mul_left_comm]
  · rw [if_neg (show ¬ way > 0 from h), if_pos (show way < 0 by omega)]
    generalize side - first = A
    rw [Int.mul_neg, Int.mul_one, Int.mul_neg, Int.neg_mul, Int.mul_neg, Int.mul_left_comm]
theorem ab_dvd1 {r : Ln} (h : 2 * (r.2.1 - r.1.1) ≠ 0) : ab (2 * (r.2.1 - r.1.1)) ∣ wh r := by
  unfold wh
  rw [← m1_of h]
  exact Int.dvd_mul_right _ _
theorem ab_dvd2 {r : Ln} (h : 2 * (r.2.2 - r.1.2) ≠ 0) : ab (2 * (r.2.2 - r.1.2)) ∣ wh r := by
  unfold wh
  rw [← m1_of h]
  exact Int.dvd_mul_left _ _
theorem inB_iff (g start step k W s : Int) : inB g (2 * start) (2 * step) k W s = true ↔ HO1 g start step k s (2 * W) := by
  unfold inB HO1
  rw [Bool.and_eq_true, decide_eq_true_eq, decide_eq_true_eq]
  have e1 : 2 * (2 * k - 1) * g * W = (2 * k - 1) * g * (2 * W) := by grind
  have e2 : 2 * (2 * k + 1) * g * W = (2 * k + 1) * g * (2 * W) := by grind
  have e3 : 2 * start * 2 * W + 2 * step * s = 2 * (start * (2 * W) + step * s) := by grind
  rw [e1, e2, e3]
def keepS (W s : Int) : Bool := decide (0 ≤ s) && decide (s ≤ W)
def mids (L : List Int) : List Int := (L.dropLast.zip L.tail).map fun z => (z.1 + z.2) / 2
def inC (g : Int) (r : Ln) (c : Pt) (s : Int) : Bool := inB g (2 * r.1.1) (2 * (r.2.1 - r.1.1)) c.1 (wh r) s && inB g (2 * r.1.2) (2 * (r.2.2 - r.1.2)) c.2 (wh r) s
theorem shares_end {g : Int} {r : Ln} {c : Pt} {L T : List Int} (hp : L.Perm (((raw g r c).filter (keepS (wh r))).map fun s => 2 * s)) (hs : L.Pairwise (· ≤ ·)) (ht : T.Perm (L ++ mids L)) :
    (T.filter (inC g r c) ≠ [] ↔ Meets g r c) := by
  have W0 := wh_pos r
  have mem : ∀ s, keepS (wh r) s = true → s ∈ raw g r c → 2 * s ∈ L := fun s h1 h2 => hp.mem_iff.mpr (List.mem_map.mpr ⟨s, List.mem_filter.mpr ⟨h2, h1⟩, rfl⟩)
  have kp : ∀ s : Int, 0 ≤ s → s ≤ wh r → keepS (wh r) s = true := fun s h1 h2 => by unfold keepS; rw [decide_eq_true h1, decide_eq_true h2]; rfl
  have t := tried (g := g) (r := r) (c := c) W0 hs (fun s hs => by
    obtain ⟨x, hx, rfl⟩ := List.mem_map.mp (hp.mem_iff.mp hs)
    have k := (List.mem_filter.mp hx).2
    unfold keepS at k
    rw [Bool.and_eq_true, decide_eq_true_eq, decide_eq_true_eq] at k
    exact ⟨x, rfl, k.1, k.2⟩) (by have := mem 0 (kp 0 (by omega) (by omega)) (by simp [raw]); simpa using this) (mem (wh r) (kp _ (by omega) (by omega)) (by simp [raw]))
    (fun hx side hside => by
      have h2 : 2 * (r.2.1 - r.1.1) ≠ 0 := by omega
      refine ⟨crs (2 * r.1.1) (2 * (r.2.1 - r.1.1)) (wh r) side, crs_eq h2 (ab_dvd1 h2), fun k0 k1 => mem _ (kp _ k0 k1) ?_⟩
      unfold raw crsR
      rw [if_pos h2]
      simp only [List.mem_cons, List.not_mem_nil, or_false] at hside
      rcases hside with rfl | rfl <;> simp)
    (fun hx side hside => by
      have h2 : 2 * (r.2.2 - r.1.2) ≠ 0 := by omega
      refine ⟨crs (2 * r.1.2) (2 * (r.2.2 - r.1.2)) (wh r) side, crs_eq h2 (ab_dvd2 h2), fun k0 k1 => mem _ (kp _ k0 k1) ?_⟩
      unfold raw crsR
      rw [if_pos h2]
      simp only [List.mem_cons, List.not_mem_nil, or_false] at hside
      rcases hside with rfl | rfl <;> simp)
  rw [t]
  have hin : ∀ s, inC g r c s = true ↔ HOc g r c s (2 * wh r) := fun s => by
    unfold inC HOc
    rw [Bool.and_eq_true, inB_iff, inB_iff]
  constructor
  · intro hne
    obtain ⟨s, hs⟩ := List.exists_mem_of_ne_nil _ hne
    obtain ⟨h1, h2⟩ := List.mem_filter.mp hs
    exact ⟨s, ht.mem_iff.mp h1, (hin s).mp h2⟩
  · rintro ⟨s, h1, h2⟩ e
    have : s ∈ T.filter (inC g r c) := List.mem_filter.mpr ⟨ht.mem_iff.mpr h1, (hin s).mpr h2⟩
    rw [e] at this
    cases this
theorem AllAt.one {α : Type} {R : V → α → Prop} {vs : List V} {x : α} (h : AllAt R vs [x]) : ∃ v, vs = [v] ∧ R v x := by
  match vs, h with
  | [v], .cons h .nil => exact ⟨v, rfl, h⟩
theorem shapedPts (ps : List Pt) : SeqAt.shaped (.list (ps.map pd)) = true := by
  have h1 : ∀ ps : List Pt, PyData.canLayAll0 (ps.map pd) = true := by
    intro ls
    induction ls with
    | nil => rfl
    | cons n r ih => simp [PyData.canLayAll0, PyData.canLay0, pd, ih]
  have h2 : ∀ ps : List Pt, PyData.depthAll (ps.map pd) ≤ 1 := by
    intro ls
    induction ls with
    | nil => decide
    | cons n r ih =>
      simp only [List.map_cons, PyData.depthAll]
      have : (pd n).depth = 1 := by simp [pd, PyData.depth, PyData.depthAll]
      omega
  have h3 := h2 ps
  simp [SeqAt.shaped, PyData.canLay0, PyData.depth, h1]
  omega
theorem eqvNilP (ps : List Pt) : PyData.eqv (.list (ps.map pd)) (.list []) = ps.isEmpty := by
  cases ps <;> simp [PyData.eqv, PyData.eqvAll]
theorem pts_dp {K : PySem.W.Frag} {H : Hp} : ∀ {ws : List V} {ps : List Pt}, AllAt (At2 K H) ws ps → DpAll K H ws (ps.map pd)
  | _, _, .nil => .nil
  | _, _, .cons h t => .cons h.dp (pts_dp t)
end Cl

namespace Cl
open PySem PySem.Spec PyProof.Rows L2
/-! ### enumerate(tuple) -/
set_option maxHeartbeats 1000000 in
theorem meets_enum1B {v : Value} {o : Obj} {H : Heap → Prop} (B : Begins v o H) :
    _root_.PySem.Meets (Builtin.«enumerate.__new__» ⟨[.type "enumerate", v], []⟩) (fun _ R s => H s.heap ∧
      R (.ok (.ret (.ref (s.heap.push o).objs.size))) { s with heap := (s.heap.push o).push { cls := .type "enumerate", data := .fields #[.none, .bool false, .ref s.heap.objs.size, rawInt 0, .none, .none] } }) :=
  .of_wp fun prog w A R s h => by
    obtain ⟨hp, g, d, tk, os⟩ := s; obtain ⟨h1, h⟩ := h
    have hsub := sub_enumerate
    have q1 : ∀ {A' : Around} {E : Value → Shared → Prop} {Q : Value → Shared → Prop}, Q (.ref hp.objs.size) ⟨hp.push o, g, d, tk, os⟩ → wpAny (model prog w) A' (pyIter v) Q E ⟨hp, g, d, tk, os⟩ :=
      fun q => B.iter prog w _ _ ⟨hp, g, d, tk, os⟩ _ h1 q
    wp_walk using q1
    refine wpAny_stack_any fun st => wpAny_pure ?_
    split
    · rename_i c _ _ _ _ _
      cases (c == Value.type "enumerate")
      · wp_walk using q1
        exact ⟨_, rfl, h⟩
      · wp_walk using q1
        exact ⟨_, rfl, h⟩
    · wp_walk using q1
      exact ⟨_, rfl, h⟩
theorem enum_begins1 {prog : Program} {w : World} {A : Around} {E : Value → Shared → Prop} {s : Shared} {v : Value} {o : Obj} {H : Heap → Prop} {Q : Value → Shared → Prop} (B : Begins v o H) (h1 : H s.heap)
    (h : ∀ h', IsEnum h' (s.heap.objs.size + 1) s.heap.objs.size 0 .none → h'.get? s.heap.objs.size = some o → h'.objs.size = s.heap.objs.size + 2 →
      (∀ b o, s.heap.get? b = some o → h'.get? b = some o) → Q (.ref (s.heap.objs.size + 1)) { s with heap := h' }) :
    wpAny (model prog w) A (call (.type "enumerate") [v]) Q E s := by
  refine callType_new F.called_enumerate (by decide) (F.typeCall_enumerate_1 _) (F.newCall_enumerate_1 _) (fun obj => F.args_object_init_2 obj _) F.entry_enumerate_new
    (meets_enum1B B) ⟨h1, ?_⟩
  have hz : (s.heap.push o).objs.size = s.heap.objs.size + 1 := Heap.size_push ..
  show _ ∧ _
  rw [hz]
  have he : IsEnum ((s.heap.push o).push { cls := .type "enumerate", data := .fields #[.none, .bool false, .ref s.heap.objs.size, rawInt 0, .none, .none] }) (s.heap.objs.size + 1) s.heap.objs.size 0 .none := by
    have := Heap.get?_push_size (s.heap.push o) (o := { cls := .type "enumerate", data := .fields #[.none, .bool false, .ref s.heap.objs.size, rawInt 0, .none, .none] }) rfl
    rw [hz] at this; exact this
  refine ⟨⟨_, he, rfl⟩, h _ he (Heap.get?_push_of_some _ (Heap.get?_push_size _ B.free)) (by rw [Heap.size_push, hz]) fun b o x => Heap.get?_push_of_some _ (Heap.get?_push_of_some _ x)⟩
def Iet (K : PySem.W.Frag) (a : Addr) : It :=
  ⟨fun i H => ∃ (xs : List V) (x : V), SqT K H a xs ∧ xs[i]? = some x, fun i H v H' => ∃ T x, v = .ref T ∧ H T = none ∧ H' = upd H T (.tup [.int (i : Nat), x]) ∧ ∀ xs, SqT K H a xs → xs[i]? = some x, fun i H => ∃ xs : List V, SqT K H a xs ∧ xs.length = i⟩
theorem turn_enumT {P : Program} {w : World} {K : PySem.W.Frag} {elts : List Expr} {kk : Nat} {tpos : Pos} {a e it : Addr} (hei : e ≠ it) (hea : e ≠ a) (hia : it ≠ a) :
    Turn P w K (.Tuple elts kk tpos) (Iet K a) [e, it] e (fun i h => (∃ old, IsEnum h e it ((i : Nat) : Int) old) ∧ h.IsTupleIter it a i) where
  mem := by simp
  obj := fun i h st b hb => by
    obtain ⟨⟨old, he⟩, ⟨o, ho, hc, hd⟩⟩ := st
    have e' : b = e ∨ b = it := by simpa using hb
    rcases e' with z | z
    · rw [z]; exact ⟨_, he, fun v q => nomatch q⟩
    · rw [z]; exact ⟨o, ho, fun v q => by rw [hd] at q; cases q⟩
  keep := fun i h h' st k => let ⟨⟨old, he⟩, hi⟩ := st; ⟨⟨old, k e (by simp) _ he⟩, hi.at fun o q => k it (by simp) o q⟩
  item := by
    intro X hP hw hK hc i pins s σ H E I hf st hg
    subst hP hw hK
    obtain ⟨⟨old, he⟩, hit⟩ := st
    obtain ⟨xs, x, hq, hx⟩ := hg
    obtain ⟨its, rv, p, hz⟩ := I.tuple hq
    obtain ⟨u, hu, ru⟩ := rv.get hx
    have hl := rv.length
    have hlt : i < xs.length := (List.getElem?_eq_some_iff.mp hx).1
    have hh : X.A.in1.handled = none := I.ok.hd hc
    have W := GoesN.enumFrom (elts := elts) (x1 := kk) (pos := tpos) 0 (Draws.tuple (prog := X.prog) (w := X.w) hh it a (Ne.symm hia) its.toArray) e hei (by simp [hei, hea]) (by simp)
    refine W.goes i s _ E (by simp; omega) ⟨⟨old, by rw [Int.zero_add]; exact he⟩, hit, p⟩ fun v h' tk hY st' hk htk => ?_
    obtain ⟨T, t, y, rfl, hT, hy, hTup⟩ := hY
    obtain ⟨⟨old', he'⟩, hit', _⟩ := st'
    rw [Int.zero_add] at hTup he'
    have ey : u = y := by
      have h1 : its.toArray[i]? = some y := hy
      have h2 : its[i]? = some y := by simpa using h1
      rw [hu] at h2
      exact Option.some.inj h2
    subst ey
    have new : ObjOk X.prog X.w (upd H T (.tup [.int (i : Nat), x])) h' T (.tup [.int (i : Nat), x]) :=
      ⟨by show 2 ≤ sizeLine; decide, [_, u], .cons ⟨_, rfl⟩ (.cons ru .nil), hTup⟩
    have I1 := I.turnedNew (t' := tk) (ch := [e, it]) (fun d o hd q => hk d o hd q) hf hT new
    refine ⟨.ref T, _, I1, rfl, ⟨T, x, rfl, I.hok.fresh hT, rfl, fun ys hy => by rw [I.tuple_inj hy hq]; exact hx⟩, ⟨⟨old', he'⟩, hit'⟩, fun b hb => ?_⟩
    have hb' : b < s.heap.objs.size := by
      have e' : b = e ∨ b = it := by simpa using hb
      rcases e' with z | z
      · rw [z]; exact Heap.lt_size he
      · rw [z]; obtain ⟨_, q, _⟩ := hit; exact Heap.lt_size q
    rw [upd_ne (Nat.ne_of_lt (Nat.lt_of_lt_of_le hb' hT))]
    exact (hf b hb).1
  done := by
    intro X hP hw hK hc i pins s σ H E I hf st hg
    subst hP hw hK
    obtain ⟨⟨old, he⟩, hit⟩ := st
    obtain ⟨xs, hq, hx⟩ := hg
    obtain ⟨its, rv, p, hz⟩ := I.tuple hq
    have hl := rv.length
    have hh : X.A.in1.handled = none := I.ok.hd hc
    have W := GoesN.enumFrom (elts := elts) (x1 := kk) (pos := tpos) 0 (Draws.tuple (prog := X.prog) (w := X.w) hh it a (Ne.symm hia) its.toArray) e hei (by simp [hei, hea]) (by simp)
    have hi : i = its.toArray.size := by simp; omega
    subst hi
    exact W.stops s _ E ⟨⟨old, by rw [Int.zero_add]; exact he⟩, hit, p⟩ fun h' tk hk htk => I.turnedL (t' := tk) (ch := [e, it]) (fun d o hd q => hk d o hd q) hf
  self := fun A i s Q E st h => let ⟨⟨_, he⟩, _⟩ := st; wpAny_pyIter_enum he h
def iEnumT (K : PySem.W.Frag) (ta : TA) : TI := fun σ H R => ta σ H fun vs H1 => ∃ a xs, vs = [.ref a] ∧ SqT K H1 a xs ∧ R (Iet K a) H1
theorem pi_enumT {X : Cx} {e : Expr} {ta : TA} {p pos tpos : Pos} {elts : List Expr} {kk : Nat} (hg : Gl X "enumerate") (hm : X.mg "enumerate" = none) (ha : PA X [e] ta) (hs : starEach [e] X.env = [(false, eval e X.env)] := by rfl) :
    PI X (.Tuple elts kk tpos) (.Call (.Name "enumerate" p) [e] [] pos) (iEnumT X.K ta) := by
  refine ⟨fun pins s σ H R I h => ?_⟩
  refine Call_ (ld_blt I hg hm boot_enumerate (PyProof.Rows.callWith_type1 (thn (ha.run pos pins s σ H _ I h) fun us s1 ⟨vs, H1, I1, r1, q1⟩ => ?_) hs rfl))
  obtain ⟨a, xs, ex, hq, q⟩ := q1
  subst ex
  cases r1 with
  | cons r rr =>
    cases rr
    cases r
    obtain ⟨its, rv, p', hz⟩ := I1.tuple hq
    have la : a < s1.heap.objs.size := by obtain ⟨o1, g1, _⟩ := id p'; exact Heap.lt_size g1
    refine enum_begins1 (begins_tuple a its.toArray) p' fun h' he hit hsz hk => wpAny_pyIter_enum he ?_
    have I2 : Inv X pins σ H1 { s1 with heap := h' } := I1.kept (t' := s1.toks) hk
    refine ⟨s1.heap.objs.size + 1, [s1.heap.objs.size + 1, s1.heap.objs.size], _, _, H1, rfl, I2, turn_enumT (Nat.succ_ne_self _) (Nat.ne_of_gt (Nat.lt_succ_of_lt la)) (Nat.ne_of_gt la), ⟨⟨.none, he⟩, ⟨_, hit, rfl, rfl⟩⟩, fun b hb => ?_, q⟩
    have e' : b = s1.heap.objs.size + 1 ∨ b = s1.heap.objs.size := by simpa using hb
    have hle : s1.heap.objs.size ≤ b := by
      rcases e' with z | z
      · rw [z]; exact Nat.le_add_right _ _
      · rw [z]; exact Nat.le_refl _
    exact I1.fpOk hle (I1.hok.fresh hle)
theorem for_enumT {K : PySem.W.Frag} {a : Addr} {xs : List V} {g : TG} {tb : TS} {D : Ends} {σ : L2.St} {H : Hp} (Pv : Nat → L2.St → Hp → Prop) (h0 : Pv 0 σ H) (hq : ∀ i σ H, Pv i σ H → SqT K H a xs)
    (hs : ∀ (i : Nat) (x : V) (T : Addr) (σ : L2.St) (H : Hp), xs[i]? = some x → Pv i σ H → H T = none → g (.ref T) σ (upd H T (.tup [.int (i : Nat), x])) fun σ2 H2 => tb { D with nx := Pv (i + 1), ct := Pv (i + 1), bk := D.nx } σ2 H2) (hd : ∀ σ H, Pv xs.length σ H → D.nx σ H) :
    ∃ W : Nat → Nat → L2.St → Hp → Prop, (∃ m, W 0 m σ H) ∧ ∀ i m σ H, W i m σ H →
      ((Iet K a).stop i H ∧ D.nx σ H) ∨ ((Iet K a).go i H ∧ ∃ N : L2.St → Hp → Prop, (∀ σ' H', N σ' H' → ∃ m', m' < m ∧ W (i + 1) m' σ' H') ∧ ∀ v H', (Iet K a).yld i H v H' → g v σ H' fun σ2 H2 => tb { D with nx := N, ct := N, bk := D.nx } σ2 H2) := by
  refine ⟨fun i m σ H => m = xs.length - i ∧ i ≤ xs.length ∧ Pv i σ H, ⟨xs.length, rfl, Nat.zero_le _, h0⟩, ?_⟩
  rintro i m σ H ⟨rfl, hi, p⟩
  have qx := hq i σ H p
  by_cases hlt : i < xs.length
  · refine .inr ⟨⟨xs, xs[i], qx, List.getElem?_eq_getElem hlt⟩, Pv (i + 1), fun σ' H' p' => ⟨xs.length - (i + 1), by omega, rfl, hlt, p'⟩, fun v H' y => ?_⟩
    obtain ⟨T, x', rfl, hT, rfl, f1⟩ := y
    exact hs i x' T σ H (f1 xs qx) p hT
  · have e : i = xs.length := by omega
    subst e
    exact .inl ⟨⟨xs, qx, rfl⟩, hd σ H p⟩
/-! ### xs == [] -/
def rEqNil (K : PySem.W.Frag) : R2 := fun x y H Q => ∃ a b xs, x = .ref a ∧ y = .ref b ∧ SqL K H a xs ∧ SqL K H b [] ∧ Q (.bl xs.isEmpty) H
theorem op_eqNil {X : Cx} (hu : X.A.units + 64 < cLine) : OpR X (compareOp .Eq) (rEqNil X.K) := by
  intro pins s σ H x y v u Q I rx ry h
  obtain ⟨a, b, xs, rfl, rfl, ha, hb, q⟩ := h
  cases rx
  cases ry
  obtain ⟨its, rv, p, _⟩ := I.list ha
  obtain ⟨its2, rv2, p2, _⟩ := I.list hb
  cases rv2
  cases xs with
  | nil =>
    cases rv
    refine SeqAt.eq_listAt (e := fun _ => true) p.isList p2.isList rfl (by omega) (fun j h1 _ => absurd h1 (Nat.not_lt_zero _)) ?_
    exact ⟨.bl _, H, I, rfl, q⟩
  | cons x xs =>
    have hl := rv.length
    refine SeqAt.eq_list_lengthsAt p.isList p2.isList ?_ (by omega) ?_
    · rw [bne_iff_ne]
      simp only [List.size_toArray, List.length_nil]
      rw [← hl]
      simp
    · exact ⟨.bl _, H, I, rfl, q⟩
def rNeNil (K : PySem.W.Frag) : R2 := fun x y H Q => ∃ a b xs, x = .ref a ∧ y = .ref b ∧ SqL K H a xs ∧ SqL K H b [] ∧ Q (.bl (!xs.isEmpty)) H
section
variable {X : Cx} {K : PySem.W.Frag}
theorem op_eqNilk (hK : X.K = K) (hu : X.A.units + 64 < cLine) : OpR X (compareOp .Eq) (rEqNil K) := hK ▸ op_eqNil hu
theorem op_catTBk (hK : X.K = K) : OpR X (binaryOp .Add) (rCatTB K) := hK ▸ op_catTB
theorem call_reprk (hK : X.K = K) (hg : X.A.guards = some []) (hu : X.A.units + 64 < cLine) : CallR X (.builtin "repr") (rReprF K) := hK ▸ call_repr hg hu
theorem sl_tupBk (hK : X.K = K) : SlR X (rSlTB K) := hK ▸ sl_tupB
end
theorem acc_new {H5 H' : Hp} {pD : Addr} {ws : List V} {y : V} (nD : H5 pD = none) (t1 : Same H5 H') (e : H' pD = some (.lst ws)) (len : ws.length ≤ 900) :
    ∃ acc, H' pD = some (.lst acc) ∧ acc.length < sizeLine ∧ Same H5 (upd H' pD (.lst (acc ++ [y]))) ∧ (upd H' pD (.lst (acc ++ [y]))) pD = some (.lst (ws ++ [y])) := by
  refine ⟨ws, e, small1000 (by omega), fun b o z => ?_, upd_same⟩
  rw [upd_ne (ne_of_none z nD)]
  exact t1 _ _ z
theorem Same.seq {K : PySem.W.Frag} {H H' : Hp} {a : Addr} {xs : List V} (s : Same H H') (h : SqL K H a xs) : SqL K H' a xs := by
  rcases h with (h | ⟨o, h⟩) | h
  · exact .inl (.inl (s _ _ h))
  · exact .inl (.inr ⟨o, s _ _ h⟩)
  · exact .inr h
/-- a promise that nothing keeps: for a def's own calls at its last level -/
def spNever : Sp := fun _ _ _ _ => False
theorem never {P : Program} {w : World} {K : PySem.W.Frag} {mg : Str → Option Value} {base : Heap} {k : Nat} {f : Addr} {fd : FuncData} {ps : List Str} : FnG P w K mg base CX0 k f fd ps spNever :=
  ⟨fun _ _ _ _ h => h.elim, fun _ _ _ _ _ _ _ _ _ _ _ _ _ h => h.elim⟩
end Cl

namespace Cl
open PySem PySem.Spec PyProof.Rows L2
open GxR (TabB TabG Tabbed GenS inv_tab sh_eta)
/-! ### a tuple of tuples, walked -/
theorem letOwned_tupleiter {prog : Program} {w : World} {A : Around} {E : Value → Shared → Prop} {s : Shared} {elts : List Expr} {x1} {pos : Pos} {I l T : Addr} {i : Nat} {Q : Unit → Shared → Prop} (hit : s.heap.IsTupleIter I l i) (hQ : Q () s) :
    wpAny (model prog w) A (letOwnedTupleGo (.Tuple elts x1 pos) (.ref I) (.ref T)) Q E s := by
  obtain ⟨o, ho, hc, hd⟩ := hit
  unfold letOwnedTupleGo
  refine wpAny_bind (wpAny_load ho ?_)
  rw [hc, hd]
  show wpAny _ A (if (["enumerate", "zip", "dict_itemiterator", "dict_reverseitemiterator", "odict_iterator", "itertools.zip_longest", "itertools.pairwise"].contains "tuple_iterator" &&
      (#[.ref l, .int i 0] : Array Value)[0]? == some (rawInt T)) = true then _ else _) Q E s
  rw [if_neg (by
    intro h
    rw [show (["enumerate", "zip", "dict_itemiterator", "dict_reverseitemiterator", "odict_iterator", "itertools.zip_longest", "itertools.pairwise"].contains "tuple_iterator") = false from by decide, Bool.false_and] at h
    cases h)]
  exact wpAny_pure hQ
theorem walksTT {prog : Program} {w : World} {A : Around} (hh : A.handled = none) (I ax : Addr) (hne : ax ≠ I) (items : Array Value) (Ts : Nat → Addr) (vals : Nat → Array Value)
    (hit : ∀ j, j < items.size → items[j]? = some (.ref (Ts j))) (hTI : ∀ j, j < items.size → Ts j ≠ I) :
    WalksU prog w A I (I :: ax :: (List.range items.size).map Ts) [I] items.size (fun j v => j < items.size ∧ v = vals j)
      (fun j h => h.IsTupleIter I ax j ∧ h.IsTuple ax items ∧ ∀ k, k < items.size → h.IsTuple (Ts k) (vals k))
      (fun j T h => (j < items.size ∧ T = Ts j) ∧ h.IsTupleIter I ax (j + 1) ∧ h.IsTuple ax items ∧ ∀ k, k < items.size → h.IsTuple (Ts k) (vals k)) where
  sub := fun b hb => by simp at hb; simp [hb]
  frame := fun _ _ _ st hk => ⟨st.1.at fun o e => hk I (by simp) o e, st.2.1.at fun o e => hk ax (by simp) o e,
    fun k hk' => (st.2.2 k hk').at fun o e => hk (Ts k) (List.mem_cons_of_mem _ (List.mem_cons_of_mem _ (List.mem_map.mpr ⟨k, List.mem_range.mpr hk', rfl⟩))) o e⟩
  item := fun i s Q E hi st hQ => by
    refine wpAny_pyNext_tuple_item st.1 st.2.1 (x := .ref (Ts i)) (hit i hi) fun h' hit' hs' => ?_
    have tup : ∀ k, k < items.size → h'.IsTuple (Ts k) (vals k) := fun k hk' => (st.2.2 k hk').extBut hs'.extBut (hTI k hk')
    exact hQ (Ts i) (vals i) h' s.toks ⟨hi, rfl⟩ (tup i hi) ⟨⟨hi, rfl⟩, hit', st.2.1.extBut hs'.extBut hne, tup⟩ fun b o hb e => hs'.extBut b o (fun h => hb (by simp [h])) e
  go := fun _ _ _ _ _ s Q _ hm hQ => letOwned_tupleiter hm.2.1 (hQ s.heap hm.2 fun _ _ _ e => e)
  apart := fun j T _ hm hmem => by
    rcases List.mem_cons.mp hmem with e | e
    · exact hTI j hm.1.1 (hm.1.2 ▸ e)
    · cases e
  done := fun s Q E st hQ => wpAny_pyNext_tuple_end hh st.1 st.2.1 (by simp) fun h' he' => hQ h' s.toks fun b o hb e => he' b o (fun h => hb (by simp [h])) e
  self := fun _ _ _ _ st hQ => wpAny_pyIter_tupleiter st.1 hQ
/-! ### expressions of whole numbers, evaluated quietly -/
def Sees (P : Program) (w : World) (env : Env) (h : Heap) (e : Expr) (v : V) : Prop :=
  ∀ (A : Around) (E : Value → Shared → Prop) (Q : Value → Shared → Prop) (s : Shared), s.heap = h → (∀ u k, RelV v u → Q u { s with toks := k }) → wpAny (model P w) A (eval e env) Q E s
section
variable {P : Program} {w : World} {env : Env} {h : Heap} {x : Str} {a b : Expr} {i j : Int} {pos : Pos}
theorem sees_loc {m : Str → Option Value} {t : Tok} (hk : env.scope.kind = .function) (hl : env.scope.names.lookup x = some .local) (hn : h.Ns env.locals m) (hm : m x = some (.int i t)) (hd : (x == ("__debug__" : Str)) = false := by decide) : Sees P w env h (.Name x pos) (.int i) :=
  fun A E Q s hs q => wpAny_Name (wpAny_loadName_local hk hl (hs ▸ hn) hm (q _ s.toks ⟨t, rfl⟩)) hd
theorem sees_free {c : Addr} {t : Tok} (hk : env.scope.kind = .function) (hl : env.scope.names.lookup x = some .free) (hc : env.cells.lookup x = some c) (hv : h.IsCell c (some (.int i t))) (hd : (x == ("__debug__" : Str)) = false := by decide)
    (hcd : (x == ("__classdict__" : Str)) = false := by decide) : Sees P w env h (.Name x pos) (.int i) :=
  fun A E Q s hs q => wpAny_Name (wpAny_loadName_free hk hl hc (hs ▸ hv) (q _ s.toks ⟨t, rfl⟩) hcd) hd
theorem sees_int {k : Nat} : Sees P w env h (.Constant (.int i) k pos) (.int i) := fun A E Q s hs q => wpAny_Constant_int (q _ _ ⟨_, rfl⟩)
theorem sees_add (ha : Sees P w env h a (.int i)) (hb : Sees P w env h b (.int j)) : Sees P w env h (.BinOp a .Add b pos) (.int (i + j)) := fun A E Q s hs q => by
  refine wpAny_BinOp (ha A _ _ s hs fun u k r => hb A _ _ _ hs fun u' k' r' => ?_)
  obtain ⟨t, rfl⟩ := r
  obtain ⟨t', rfl⟩ := r'
  exact add_int (q _ _ ⟨_, rfl⟩)
theorem sees_mul (ha : Sees P w env h a (.int i)) (hb : Sees P w env h b (.int j)) (c : IntMulOk i j) : Sees P w env h (.BinOp a .Mult b pos) (.int (i * j)) := fun A E Q s hs q => by
  refine wpAny_BinOp (ha A _ _ s hs fun u k r => hb A _ _ _ hs fun u' k' r' => ?_)
  obtain ⟨t, rfl⟩ := r
  obtain ⟨t', rfl⟩ := r'
  exact mul_int (q _ _ ⟨_, rfl⟩) c
theorem sees_lt (ha : Sees P w env h a (.int i)) (hb : Sees P w env h b (.int j)) : Sees P w env h (.Compare a [.Lt] [b] pos) (.bl (decide (i < j))) := fun A E Q s hs q => by
  refine wpAny_Compare1 (ha A _ _ s hs fun u k r => hb A _ _ _ hs fun u' k' r' => ?_) (nomark b)
  obtain ⟨t, rfl⟩ := r
  obtain ⟨t', rfl⟩ := r'
  exact lt_int (q _ _ rfl)
theorem sees_gt (ha : Sees P w env h a (.int i)) (hb : Sees P w env h b (.int j)) : Sees P w env h (.Compare a [.Gt] [b] pos) (.bl (decide (j < i))) := fun A E Q s hs q => by
  refine wpAny_Compare1 (ha A _ _ s hs fun u k r => hb A _ _ _ hs fun u' k' r' => ?_) (nomark b)
  obtain ⟨t, rfl⟩ := r
  obtain ⟨t', rfl⟩ := r'
  exact gt_int (q _ _ rfl)
theorem sees_ge (ha : Sees P w env h a (.int i)) (hb : Sees P w env h b (.int j)) : Sees P w env h (.Compare a [.GtE] [b] pos) (.bl (decide (j ≤ i))) := fun A E Q s hs q => by
  refine wpAny_Compare1 (ha A _ _ s hs fun u k r => hb A _ _ _ hs fun u' k' r' => ?_) (nomark b)
  obtain ⟨t, rfl⟩ := r
  obtain ⟨t', rfl⟩ := r'
  exact ge_int (q _ _ rfl)
end
theorem cl_lookup {cells : List (Str × Addr)} {names : List (Str × NameKind)} {n : Str} {c : Addr} (h : (n, NameKind.free) ∈ names) (hc : cells.lookup n = some c) : (cloFrom cells names []).lookup n = some c := by
  have hm := cloFrom_has (cells := cells) (acc := []) h
  cases q : (cloFrom cells names []).lookup n with
  | none =>
    have : ∀ (L : List (Str × Addr)), L.lookup n = none → ∀ c, (n, c) ∉ L := fun L => by
      induction L with
      | nil => intro _ c z; cases z
      | cons y L ih =>
        obtain ⟨y1, y2⟩ := y
        intro e c z
        rw [List.lookup_cons] at e
        split at e
        · cases e
        · rename_i hb
          rcases List.mem_cons.mp z with z | z
          · cases z
            simp at hb
          · exact ih e c z
    exact absurd hm (this _ q _)
  | some c' =>
    have : ∀ (L : List (Str × Addr)) c', L.lookup n = some c' → (n, c') ∈ L := fun L => by
      induction L with
      | nil => intro c' z; cases z
      | cons y L ih =>
        obtain ⟨y1, y2⟩ := y
        intro c' e
        rw [List.lookup_cons] at e
        split at e
        · rename_i hb
          cases e
          rw [eq_of_beq hb]
          exact List.mem_cons_self ..
        · exact List.mem_cons_of_mem _ (ih _ e)
    rcases cloFrom_mem (this _ _ q) with z | ⟨_, z⟩
    · cases z
    · rw [z, hc]
      rfl
/-- a captured whole number -/
def CapI (cells : List (Str × Addr)) (h : Heap) (n : Str) (i : Int) : Prop := ∃ c t, cells.lookup n = some c ∧ h.IsCell c (some (.int i t))

theorem CapI.keeps {cells : List (Str × Addr)} {h h' : Heap} {n : Str} {i : Int} {P : Addr} {vs : Array Value} (x : CapI cells h n i) (hP : ∃ o, h.get? P = some o ∧ o.data = .fields vs) (k : ∀ b o, b ≠ P → h.get? b = some o → h'.get? b = some o) : CapI cells h' n i := by
  obtain ⟨c, t, e, o, g, d⟩ := x
  refine ⟨c, t, e, o, k c o (fun z => ?_) g, d⟩
  obtain ⟨o', g', d'⟩ := hP
  rw [z, g'] at g
  cases g
  rw [d] at d'
  cases d'
/-- the element: a test of the pair (x, y) and three captured whole numbers -/
def EltP (P : Program) (w : World) (scope : Scope) (xa xb n1 n2 n3 : Str) (elt : Expr) (C : Int → Int → Int → Int × Int → Prop) (f : Int → Int → Int → Int × Int → Bool) : Prop :=
  ∀ (cenv : Env) (h : Heap) (i1 i2 i3 x y : Int) (tx ty : Tok) (m : Str → Option Value), cenv.scope = scope → CapI cenv.cells h n1 i1 → CapI cenv.cells h n2 i2 → CapI cenv.cells h n3 i3 →
    h.Ns cenv.locals m → m xa = some (.int x tx) → m xb = some (.int y ty) → C i1 i2 i3 (x, y) → Sees P w cenv h elt (.bl (f i1 i2 i3 (x, y)))
structure GenP (env : Env) (scope : Scope) (xa xb n1 n2 n3 : Str) : Prop where
  kind : scope.kind = .function
  co : scope.isCoroutine = false
  cell : ∀ y ∈ scope.names, y.2 ≠ .cell
  dot : scope.names.lookup (".0" : Str) = some NameKind.local
  la : scope.names.lookup xa = some .local
  lb : scope.names.lookup xb = some .local
  ab : xa ≠ xb
  f1 : (n1, NameKind.free) ∈ scope.names
  f2 : (n2, NameKind.free) ∈ scope.names
  f3 : (n3, NameKind.free) ∈ scope.names
  free : ∀ y ∈ scope.names, y.2 = .free → y.1 = n1 ∨ y.1 = n2 ∨ y.1 = n3
  c1 : env.scope.names.lookup n1 = some .cell
  c2 : env.scope.names.lookup n2 = some .cell
  c3 : env.scope.names.lookup n3 = some .cell
  e1 : (env.cells.lookup n1).isSome = true
  e2 : (env.cells.lookup n2).isSome = true
  e3 : (env.cells.lookup n3).isSome = true
def tAllP (K : PySem.W.Frag) (P : Addr) (s1 s2 s3 : Nat) (C : Int → Int → Int → Int × Int → Prop) (f : Int → Int → Int → Int × Int → Bool) (te : TE) : TE := fun σ H Q => te σ H fun v H1 => ∃ (a : Addr) (vs : List V) (ps : List (Int × Int)) (i1 i2 i3 : Int), v = .ref a ∧ SqT K H1 a vs ∧ AllAt (At2 K H1) vs ps ∧
  σ[s1]? = some (some (.int i1)) ∧ σ[s2]? = some (some (.int i2)) ∧ σ[s3]? = some (some (.int i3)) ∧ (∀ p ∈ ps, C i1 i2 i3 p) ∧ TabG H1 P ∧ ∀ H2, Same H1 H2 → TabG H2 P → Q (.bl (ps.all (f i1 i2 i3))) H2
theorem cap_of {X : Cx} {pins : List (Addr × Obj)} {σ : L2.St} {H : Hp} {s : Shared} {i : Nat} {n : Str} {z : Int} (I : Inv X pins σ H s) (hN : X.N[i]? = some n) (hc : X.env.scope.names.lookup n = some .cell) (e : σ[i]? = some (some (.int z))) :
    CapI X.env.cells s.heap n z := by
  obtain ⟨m, hn, hl⟩ := I.loc
  obtain ⟨u, r, l⟩ := hl i n _ hN e (.inr (.inl hc))
  obtain ⟨t, rfl⟩ := r
  rcases l with ⟨hk, _⟩ | ⟨_, c, hc', hcell⟩
  · have : X.env.scope.names.lookup n = some .local := hk
    rw [hc] at this
    cases this
  · exact ⟨c, t, hc', hcell⟩

section
variable {X : Cx}
theorem pe_allP {c P : Addr} {elt iter : Expr} {xa xb n1 n2 n3 : Str} {pa pb pt p pos gpos : Pos} {kt : Nat} {scope : Scope} {te : TE} {k s1 s2 s3 : Nat} {C : Int → Int → Int → Int × Int → Prop} {f : Int → Int → Int → Int × Int → Bool}
    (hr : Room k X.A) (hg : Gl X "all") (hm : X.mg "all" = none) (TB : TabB X.base X.mg c P) (hcode : X.env.code = .ref c) (hi : PE X iter te) (S : GenP X.env scope xa xb n1 n2 n3)
    (hN1 : X.N[s1]? = some n1) (hN2 : X.N[s2]? = some n2) (hN3 : X.N[s3]? = some n3) (hel : EltP X.prog X.w scope xa xb n1 n2 n3 elt C f)
    (hs : ∀ v, genFold iter X.env v = pure v := by intro _; rfl)
    (he : starEach [.GeneratorExp elt [⟨.Tuple [.Name xa pa, .Name xb pb] kt pt, iter, [], 0⟩] scope gpos] X.env = (false, eval (.GeneratorExp elt [⟨.Tuple [.Name xa pa, .Name xb pb] kt pt, iter, [], 0⟩] scope gpos) X.env) :: starEach [] X.env := by rfl) :
    PE X (.Call (.Name "all" p) [.GeneratorExp elt [⟨.Tuple [.Name xa pa, .Name xb pb] kt pt, iter, [], 0⟩] scope gpos] [] pos) (tAllP X.K P s1 s2 s3 C f te) := by
  have isS : ∀ {o : Option Addr}, o.isSome = true → ∃ c, o = some c := fun {o} h => by cases o with
    | none => cases h
    | some c => exact ⟨c, rfl⟩
  have hfree : ∀ y ∈ scope.names, y.2 = .free → ∃ c, X.env.cells.lookup y.1 = some c := fun y hy e => by
    rcases S.free y hy e with z | z | z <;> rw [z]
    · exact isS S.e1
    · exact isS S.e2
    · exact isS S.e3
  refine ⟨fun pins s σ H Q I h => ?_⟩
  refine wpAny_Call_Name_kw (ld_blt I hg hm PyProof.Rows.boot_all ?_)
  refine PyProof.Rows.callWith_builtin1 ?_ he (by rfl)
  rw [he]
  show wpAny _ _ (spliced ((false, eval (.GeneratorExp elt [⟨.Tuple [.Name xa pa, .Name xb pb] kt pt, iter, [], 0⟩] scope gpos) X.env) :: backTo pos (starEach [] X.env))) _ _ s
  refine Calls.spliced_cons ?_
  refine wpAny_GeneratorExp_walksQTD hr.hd S.co (closure_ok hfree) S.cell S.dot S.la S.lb S.ab S.kind (by have := hr.dp; omega) ?_ hs
  refine thn (hi.run pins s σ H _ I h) fun xv s1' ⟨v, H1, I1, r1, q1⟩ => ?_
  obtain ⟨a, vs, prs, i1, i2, i3, rfl, hS, hall, g1, g2, g3, hC, hT, q⟩ := q1
  cases r1
  have k1 := cap_of I1 hN1 S.c1 g1
  have k2 := cap_of I1 hN2 S.c2 g2
  have k3 := cap_of I1 hN3 S.c3 g3
  have cl : ∀ {n : Str} {i : Int}, (n, NameKind.free) ∈ scope.names → CapI X.env.cells s1'.heap n i → CapI (cloFrom X.env.cells scope.names []) s1'.heap n i := fun h ⟨c, t, e, z⟩ => ⟨c, t, cl_lookup h e, z⟩
  replace k1 := cl S.f1 k1
  replace k2 := cl S.f2 k2
  replace k3 := cl S.f3 k3
  clear cl
  obtain ⟨ps, hP, ht⟩ := id hT
  obtain ⟨its, rv, tup, hz⟩ := I1.tuple hS
  have lx := rv.length
  have lp := hall.length
  have hpair : ∀ j, ∃ z : Addr × Array Value, j < its.length → ∃ x y t1 t2, its[j]? = some (.ref z.1) ∧ s1'.heap.IsTuple z.1 z.2 ∧ z.2 = #[.int x t1, .int y t2] ∧ prs[j]? = some (x, y) := fun j => by
    by_cases hj : j < its.length
    · obtain ⟨u, eu, ru⟩ := rv.get (List.getElem?_eq_getElem (show j < vs.length by omega))
      obtain ⟨pr, ep, b, eb, hb⟩ := hall.get (List.getElem?_eq_getElem (show j < vs.length by omega))
      rw [eb] at ru
      cases ru
      obtain ⟨its2, rv2, tup2, _⟩ := I1.tuple hb
      cases rv2 with
      | cons r1 rr =>
        cases rr with
        | cons r2 rr =>
          cases rr
          obtain ⟨t1, rfl⟩ := r1
          obtain ⟨t2, rfl⟩ := r2
          exact ⟨(b, #[.int pr.1 t1, .int pr.2 t2]), fun _ => ⟨pr.1, pr.2, t1, t2, eu, tup2, rfl, ep⟩⟩
    · exact ⟨(0, #[]), fun z => absurd z hj⟩
  obtain ⟨F, hF⟩ := Classical.skolem.mp hpair
  refine wpAny_pyIter_tuple tup ?_
  have hPs : s1'.heap.get? P = some { cls := .none, data := .fields ps } := I1.hok P _ hP
  have hPlt : P < s1'.heap.objs.size := Heap.lt_size hPs
  have halt : a < s1'.heap.objs.size := by obtain ⟨o, e, _⟩ := id tup; exact Heap.lt_size e
  have haP : a ≠ P := fun e => by
    obtain ⟨o, e1, e2, _⟩ := id tup
    rw [e, hPs] at e1
    cases e1
    cases e2
  have hTlt : ∀ j, j < its.length → (F j).1 < s1'.heap.objs.size ∧ (F j).1 ≠ P := fun j hj => by
    obtain ⟨_, _, _, _, _, tj, _, _⟩ := hF j hj
    obtain ⟨o, e1, e2, _⟩ := id tj
    refine ⟨Heap.lt_size e1, fun e => ?_⟩
    rw [e, hPs] at e1
    cases e1
    cases e2
  generalize hito : ({ cls := .type "tuple_iterator", data := .fields #[.ref a, .int 0 0] } : Obj) = ito
  have hP2 : (s1'.heap.push ito).get? P = some { cls := .none, data := .fields ps } := Heap.get?_push_of_some _ hPs
  have cd : PySem.W.CodeHd (s1'.heap.push ito) c P := TB.code.keeps fun b u e => Heap.get?_push_of_some _ (I1.bk b u e)
  have lim2 : (s1'.heap.push ito).NoLimit := I1.nolimit.push ito
  have sz2 : (s1'.heap.push ito).objs.size = s1'.heap.objs.size + 1 := Heap.size_push ..
  have cont : ∀ (code : Value) (h3 : Heap) (tk : Nat) (ps' : Array Value), Heap.ExtBut P (s1'.heap.push ito) h3 → (s1'.heap.push ito).objs.size ≤ h3.objs.size → h3.get? P = some { cls := .none, data := .fields ps' } → (∃ more, ps' = ps ++ more) → TriplesOk ps'.toList →
      wpAny (model X.prog X.w) X.A (builtinsFor X.env.globals X.env.builtins) (fun bi s₄ =>
        ∃ Ia fp wr n₀ Pt St₀ Mid pz F, Value.ref s1'.heap.objs.size = .ref Ia ∧ (∀ A' : Around, A'.handled = none → WalksU X.prog X.w A' Ia fp wr n₀ Pt St₀ Mid) ∧ (∀ i vals, Pt i vals → ∃ va vb, vals = #[va, vb]) ∧ St₀ 0 s₄.heap ∧ (∀ b ∈ fp, b < s₄.heap.objs.size) ∧ s₄.heap.NoLimit ∧ cStatics ∉ wr ∧
          (∀ href : Heap, (∀ b o, s₄.heap.get? b = some o → href.get? b = some o) →
            QuietGenTD X.prog X.w (genEnv scope (cloFrom X.env.cells scope.names []) s₄.heap.objs.size code bi X.env) xa xb [] elt (List.range s₄.heap.objs.size) wr Pt pz F href (X.A.depth + 1) (X.A.units + 8)) ∧
          (∀ a h₅ tk gs, gs.bare = true → s₄.heap.objs.size < a → h₅.objs.size = a + 1 → (∀ b o, s₄.heap.get? b = some o → h₅.get? b = some o) →
            WalksS X.prog X.w X.A.in4 a (a :: s₄.heap.objs.size :: List.range s₄.heap.objs.size) (s₄.heap.objs.size :: wr) (GenOnlyQ s₄.gens.size) (passing pz n₀ 0).length
              (fun j y => ∃ i, (passing pz n₀ 0)[j]? = some i ∧ F i y) (GenAt X.prog X.w X.A.in4 a s₄.gens.size s₄.heap.objs.size (List.range s₄.heap.objs.size) wr pz n₀ F) →
            GenAt X.prog X.w X.A.in4 a s₄.gens.size s₄.heap.objs.size (List.range s₄.heap.objs.size) wr pz n₀ F 0 { s₄ with gens := s₄.gens.push gs, toks := tk, heap := h₅ } →
            wpAny (model X.prog X.w) X.A (spliced (backTo pos (starEach [] X.env))) (fun vs s2 => wpAny (model X.prog X.w) X.A (call (.builtin "all") (.ref a :: vs)) (EP X pins σ Q) X.xe s2) X.xe { s₄ with gens := s₄.gens.push gs, toks := tk, heap := h₅ })) X.xe { s1' with heap := h3, toks := tk } := by
    intro code h3 tk ps' hx hsz hP3 hmore ht3
    obtain ⟨bm, ob, e1, e2, e3, e4, e5, e6, e7, e8⟩ := TB.bm
    have keep3 : ∀ b u, b ≠ P → s1'.heap.get? b = some u → h3.get? b = some u := fun b u hb e => hx b u hb (Heap.get?_push_of_some _ e)
    have hcP : cStatics ≠ P := fun e => by
      obtain ⟨_, hns, _⟩ := I1.nolimit
      obtain ⟨o', es, ep, ho, hd, _⟩ := hns
      rw [e, hPs] at ho
      cases ho
      cases hd
    have hcl : cStatics < s1'.heap.objs.size := let ⟨_, hns, _⟩ := I1.nolimit; hns.lt
    have szle : s1'.heap.objs.size < h3.objs.size := by rw [sz2] at hsz; exact hsz
    refine wpAny_builtinsFor (m := X.mg) (by rw [I1.ok.glob]; exact ((I1.mod.glob.keeps I1.bk).push ito).extBut hx TB.gP) e1 e2 (keep3 _ _ e4 (I1.bk _ _ e5)) e6 e7 e8 ?_
    refine ⟨s1'.heap.objs.size, _, [s1'.heap.objs.size], its.toArray.size, _, _, _, (fun _ => true), (fun i y => i < its.toArray.size ∧ y = .bool (f i1 i2 i3 (prs.getD i (0, 0)))), rfl,
      fun A' hA => walksTT hA s1'.heap.objs.size a (Nat.ne_of_lt halt) its.toArray (fun j => (F j).1) (fun j => (F j).2) (fun j hj => ?_) (fun j hj => ?_), ?_, ⟨?_, ?_, ?_⟩, ?_, lim2.extBut hx hcP, ?_, ?_, ?_⟩
    · have hj : j < its.length := by simpa using hj
      obtain ⟨_, _, _, _, ej, _⟩ := hF j hj
      simpa using ej
    · have hj : j < its.length := by simpa using hj
      exact Nat.ne_of_lt (hTlt j hj).1
    · rintro i vals ⟨hi', rfl⟩
      have hi' : i < its.length := by simpa using hi'
      obtain ⟨x, y, t1, t2, _, _, e, _⟩ := hF i hi'
      exact ⟨_, _, e⟩
    · refine ⟨ito, hx _ _ (fun z => Nat.ne_of_lt hPlt z.symm) (Heap.get?_push_size _ (by rw [← hito]; rfl)), by rw [← hito], by rw [← hito]; rfl⟩
    · obtain ⟨o, g1, g2, g3⟩ := id tup
      exact ⟨o, keep3 a o haP g1, g2, g3⟩
    · intro j hj
      have hj : j < its.length := by simpa using hj
      obtain ⟨_, _, _, _, _, ⟨o, g1, g2, g3⟩, _⟩ := hF j hj
      exact ⟨o, keep3 _ o (hTlt j hj).2 g1, g2, g3⟩
    · intro b hb
      show b < h3.objs.size
      rcases List.mem_cons.mp hb with z | z
      · rw [z]; exact szle
      · rcases List.mem_cons.mp z with z | z
        · rw [z]; exact Nat.lt_trans halt szle
        · obtain ⟨j, hj, rfl⟩ := List.mem_map.mp z
          have hj : j < its.length := by simpa using hj
          exact Nat.lt_trans (hTlt j hj).1 szle
    · intro z
      rw [List.mem_singleton.mp z] at hcl
      exact Nat.lt_irrefl _ hcl
    · intro href hhref
      refine ⟨fun A' E' i va vb s₂ m₂ hA hD hU hPv hn hma hmb hk => ?_, fun A' E' i va vb s₂ m₂ hA hD hU hPv hp hn hma hmb hk => ?_⟩
      · simp only [List.forIn_nil]
        exact wpAny_pure ⟨rfl, GxR.keeps_refl _⟩
      · have key : ∀ b o, b ≠ P → s1'.heap.get? b = some o → s₂.heap.get? b = some o := fun b o hb e =>
          hk b (List.mem_range.mpr (Heap.lt_size (keep3 b o hb e))) (fun z => by
            have l := Heap.lt_size e
            rw [List.mem_singleton.mp z] at l
            exact Nat.lt_irrefl _ l) o (hhref b o (keep3 b o hb e))
        obtain ⟨hi0, ev⟩ := hPv
        have hi' : i < its.length := by simpa using hi0
        obtain ⟨x, y, t1, t2, _, _, e, ep⟩ := hF i hi'
        rw [e] at ev
        cases ev
        have hPd : ∃ o, s1'.heap.get? P = some o ∧ o.data = .fields ps := ⟨_, hPs, rfl⟩
        have see := hel (genEnv scope (cloFrom X.env.cells scope.names []) h3.objs.size code builtinsNs X.env) s₂.heap i1 i2 i3 x y t1 t2 m₂ rfl (k1.keeps hPd key) (k2.keeps hPd key) (k3.keeps hPd key) hn hma hmb (hC _ (List.mem_of_getElem? ep))
        refine see A' E' _ s₂ rfl fun u kk r => ?_
        cases r
        refine ⟨⟨hi0, ?_⟩, GxR.keeps_tok _ _⟩
        rw [List.getD_eq_getElem?_getD, ep]
        rfl
    · intro g h5 tk5 gs hgb hag hsz5 hk5 W5 hat
      simp only [GxR.passing_true, List.length_range] at W5
      refine Calls.spliced_nil ?_
      have W := W5.in4_1
      refine call_all_walkS (W.self 0 _ _ _ hat ⟨g, _, _, _, _, _, _, fun j => f i1 i2 i3 (prs.getD j (0, 0)), rfl, W, hat, ?_, fun s' hm => ?_⟩)
      · intro j y sj Qj Ej hy hQj
        obtain ⟨i, hij, hi2, rfl⟩ := hy
        try rw [GxR.passing_true] at hij
        obtain ⟨hj, ej⟩ := List.getElem?_eq_some_iff.mp hij
        rw [List.getElem_range] at ej
        subst ej
        exact wpAny_truthy_bool hQj
      · obtain ⟨more, em⟩ := hmore
        have nwr : ∀ b u, s1'.heap.get? b = some u → b ∉ h3.objs.size :: [s1'.heap.objs.size] := fun b u e hb => by
          have hl := Heap.lt_size e
          simp only [List.mem_cons, List.not_mem_nil, or_false] at hb
          rcases hb with z | z
          · rw [z] at hl
            have h9 : (h3.objs.size : Nat) < s1'.heap.objs.size := hl
            omega
          · rw [z] at hl
            exact Nat.lt_irrefl _ hl
        have J := inv_tab (more := more) (h' := s'.heap) (g' := s'.gens) (d' := s'.drawn) (t' := s'.toks) I1 hP (fun b u hb e => hm.heap b u (nwr b u e) (hk5 b u (keep3 b u hb e)))
          (by rw [← em]; exact hm.heap P _ (nwr P _ hPs) (hk5 P _ hP3)) (AllBare.movedS (I1.bare.push hgb) hm)
        rw [sh_eta s1' s' hm.os] at J
        have tb : Tabbed P H1 (upd H1 P (.tbl (ps ++ more))) := ⟨⟨ps ++ more, upd_same, by rw [← em]; exact ht3⟩, fun b hb => upd_ne hb⟩
        refine ⟨.bl _, _, J, ?_, q _ (Same.tabbed hT tb) tb.1⟩
        show Value.bool _ = Value.bool _
        have hall2 := all_range (prs.map (f i1 i2 i3))
        rw [List.length_map, List.all_map] at hall2
        have e9 : (List.range its.toArray.size).all (fun j => f i1 i2 i3 (prs.getD j (0, 0))) = (List.range prs.length).all fun j => (prs.map (f i1 i2 i3)).getD j false := by
          rw [show its.toArray.size = prs.length by simp; omega, Bool.eq_iff_iff, List.all_eq_true, List.all_eq_true]
          constructor
          · intro z j hj
            have := z j hj
            have hj := List.mem_range.mp hj
            rw [List.getD_eq_getElem?_getD, List.getElem?_eq_getElem hj] at this
            rw [List.getD_eq_getElem?_getD, List.getElem?_map, List.getElem?_eq_getElem hj]
            exact this
          · intro z j hj
            have := z j hj
            have hj := List.mem_range.mp hj
            rw [List.getD_eq_getElem?_getD, List.getElem?_map, List.getElem?_eq_getElem hj] at this
            rw [List.getD_eq_getElem?_getD, List.getElem?_eq_getElem hj]
            exact this
        rw [e9, hall2]
        rfl
  refine ⟨lim2, ?_⟩
  cases hf : codeAmong gpos ps.toList with
  | none =>
    refine wpAny_genexprCodeX hcode (cd.code hP2 ht) (cd.tab hP2) hf fun c' h' tk hx hge hlt hco' _ htab' _ => ?_
    obtain ⟨o1, vs, f1, tf, fl, tg, inF, tx, tt, op, _, _, _, _, _, _, _, _, _, htr, _⟩ := hco'
    exact cont _ h' tk _ hx (Nat.le_trans hge (Nat.le_of_lt hlt)) htab'.2 ⟨_, rfl⟩ htr
  | some cv =>
    refine wpAny_genexprCode_hit hcode (cd.code hP2 ht) hf ?_
    exact cont cv (s1'.heap.push ito) s1'.toks ps (Heap.ExtBut.refl _ _) (Nat.le_refl _) hP2 ⟨#[], by simp⟩ ht
end
/-! ### thing == () -/
def rEqTNil (K : PySem.W.Frag) : R2 := fun x y H Q => ∃ a b xs, x = .ref a ∧ y = .ref b ∧ SqT K H a xs ∧ SqT K H b [] ∧ Q (.bl xs.isEmpty) H
theorem op_eqTNil {X : Cx} (hu : X.A.units + 64 < cLine) : OpR X (compareOp .Eq) (rEqTNil X.K) := by
  intro pins s σ H x y v u Q I rx ry h
  obtain ⟨a, b, xs, rfl, rfl, ha, hb, q⟩ := h
  cases rx
  cases ry
  obtain ⟨its, rv, p, _⟩ := I.tuple ha
  obtain ⟨its2, rv2, p2, _⟩ := I.tuple hb
  cases rv2
  refine SeqAt.eq_tupleAt (e := fun _ => true) p p2 (by omega) (fun j h1 h2 => absurd h2 (Nat.not_lt_zero _)) ?_
  have hl := rv.length
  refine ⟨.bl _, H, I, ?_, q⟩
  show Value.bool _ = Value.bool _
  cases xs with
  | nil =>
    have : its = [] := List.eq_nil_of_length_eq_zero hl.symm
    subst this
    rfl
  | cons x xs =>
    cases its with
    | nil => simp at hl
    | cons i its => simp
end Cl

namespace Cl
open PySem PySem.Spec PyProof.Rows L2
/-! ### comprehensions with two fors over tuples -/
theorem genT {K : PySem.W.Frag} {a : Addr} {xs : List V} {H0 : Hp} {Qd : Hp → Prop} {BODY : V → Hp → (Hp → Prop) → Prop} (Pv : Nat → Hp → Prop) (h0 : Pv 0 H0) (hl : ∀ i H, i ≤ xs.length → Pv i H → SqT K H a xs)
    (hs : ∀ i x H, xs[i]? = some x → Pv i H → BODY x H (Pv (i + 1))) (hd : ∀ H, Pv xs.length H → Qd H) :
    ∃ W : Nat → Nat → Hp → Prop, (∃ m, W 0 m H0) ∧ ∀ i m H, W i m H → ((Itt K a).stop i H ∧ Qd H) ∨ ((Itt K a).go i H ∧ ∃ Nx : Hp → Prop, (∀ H', Nx H' → ∃ m', m' < m ∧ W (i + 1) m' H') ∧ ∀ x H', (Itt K a).yld i H x H' → BODY x H' Nx) := by
  refine ⟨fun i m H => m = xs.length - i ∧ i ≤ xs.length ∧ Pv i H, ⟨xs.length, by simp, Nat.zero_le _, h0⟩, ?_⟩
  rintro i m H ⟨rfl, hi, p⟩
  have q := hl i H hi p
  by_cases hlt : i < xs.length
  · refine .inr ⟨⟨xs, xs[i], q, List.getElem?_eq_getElem hlt⟩, Pv (i + 1), fun H' p' => ⟨xs.length - (i + 1), by omega, rfl, hlt, p'⟩, fun x H' y => ?_⟩
    obtain ⟨e, y⟩ := y
    subst e
    exact hs i x _ (y xs q) p
  · have e : i = xs.length := by omega
    subst e
    exact .inl ⟨⟨xs, q, Nat.le_refl _⟩, hd H p⟩
section
variable {X : Cx} {K : PySem.W.Frag} {tg e : Expr} {te : TE}
theorem pi_tupk (hK : X.K = K) (h : PE X e te) : PI X tg e (iTup K te) := hK ▸ pi_tup h
theorem pi_listk (hK : X.K = K) (h : PE X e te) : PI X tg e (iList K te) := hK ▸ pi_list h
end
end Cl

set_option maxHeartbeats 0
namespace Cl
open PySem PySem.Spec PyProof.Rows L2
/-! ### a lambda of one parameter, made within a def, handed to max as key -/
/-- the table at P: what it tells are the objects at cs -/
def TabAt (P : Addr) (cs : List Addr) : HO := .ext fun h => ∃ ps : Array Value, h.get? P = some { cls := .none, data := .fields ps } ∧ TriplesOk ps.toList ∧ ∀ (pos : Pos) (cv : Value), codeAmong pos ps.toList = some cv → ∃ c ∈ cs, cv = .ref c
/-- the lambda table at P stands: its codes bear the name q -/
def LT (H : Hp) (P : Addr) (q : Str) : Prop := ∃ cs : List Addr, H P = some (TabAt P cs) ∧ ∀ c ∈ cs, c ≠ P ∧ H c = some (LamX.CodeO c q)
theorem Same.lt {H H' : Hp} {P : Addr} {q : Str} (s : Same H H') (t : LT H P q) : LT H' P q := by
  obtain ⟨cs, h1, h2⟩ := t
  exact ⟨cs, s _ _ h1, fun c hc => ⟨(h2 c hc).1, s _ _ (h2 c hc).2⟩⟩
/-- all but the table at P stays -/
def SameX (P : Addr) (H H' : Hp) : Prop := ∀ b o, b ≠ P → H b = some o → Keep (H' b) o
theorem SameX.trans {P : Addr} {H H1 H2 : Hp} (a : SameX P H H1) (b : SameX P H1 H2) : SameX P H H2 := fun c o n h => by
  have k := a c o n h
  cases o with
  | tbl ps => exact fun t => let ⟨ps1, e1, t1⟩ := k t; b c (.tbl ps1) n e1 t1
  | _ => exact b c _ n k
theorem Same.x {P : Addr} {H H' : Hp} (a : Same H H') : SameX P H H' := fun b o _ e => a b o e
section
variable {X : Cx} {pins : List (Addr × Obj)} {σ : L2.St} {H : Hp} {s : Shared}
theorem inv_tabE {P c : Addr} {q : Str} {cs : List Addr} {ps more : Array Value} {h' : Heap} {t' : Nat} (I : Inv X pins σ H s) (hP : H P = some (TabAt P cs)) (k : ∀ b o, b ≠ P → s.heap.get? b = some o → h'.get? b = some o)
    (hm : h'.get? P = some { cls := .none, data := .fields (ps ++ more) }) (ht : TriplesOk (ps ++ more).toList) (ha : ∀ (pos : Pos) (cv : Value), codeAmong pos (ps ++ more).toList = some cv → ∃ c' ∈ c :: cs, cv = .ref c') (hc : s.heap.objs.size ≤ c) (ho : ∃ (oc : Obj) (vs : Array Value) (t : Tok), h'.get? c = some oc ∧ oc.data = .fields vs ∧ vs[1]? = some (.str q t)) :
    Inv X pins σ (upd (upd H P (TabAt P (c :: cs))) c (LamX.CodeO c q)) { s with heap := h', toks := t' } := by
  have nC : H c = none := I.hok.fresh hc
  have nPc : P ≠ c := ne_of_none hP nC
  have at_ : ∀ b, b ≠ P → b ≠ c → upd (upd H P (TabAt P (c :: cs))) c (LamX.CodeO c q) b = H b := fun b h1 h2 => by rw [upd_ne h2, upd_ne h1]
  have atP : upd (upd H P (TabAt P (c :: cs))) c (LamX.CodeO c q) P = some (TabAt P (c :: cs)) := by rw [upd_ne nPc, upd_same]
  have nP : ∀ b u, H b = some u → (∀ φ, u ≠ .ext φ) → b ≠ P := fun b u e q z => by
    rw [z, hP] at e
    exact q _ (Option.some.inj e).symm
  have nN : ∀ b, H b = none → b ≠ P := fun b e z => by
    rw [z, hP] at e
    cases e
  have lt' : ∀ b o, s.heap.get? b = some o → b ≠ c := fun b o e z => by
    rw [z] at e
    exact Nat.lt_irrefl _ (Nat.lt_of_lt_of_le (Heap.lt_size e) hc)
  have sm : ∀ b u, H b = some u → b ≠ c := fun b u e => ne_of_none e nC
  refine I.step (g' := s.gens) (d' := s.drawn) (ch := []) (fun b hb => absurd hb (by simp)) (fun b o _ _ _ e n => k b o (nN b n) e) (fun b o _ _ _ e n => ⟨o.slots, k b o (nN b n) e⟩)
    (fun b o _ e n => by rw [at_ b (nN b n) (lt' b o e)]; exact n) (fun b o _ e => ?_) (fun b xs e => by rw [at_ b (nP b _ e (fun q z => by cases z)) (sm b _ e)]; exact e) (fun b o u e => by rw [at_ b (nP b _ e (fun q z => by cases z)) (sm b _ e)]; exact e) (fun b qs e => ?_) (fun m hn => ?_) (fun b u e => ?_) I.bare
  · by_cases hb : b = P
    · rw [hb]
      exact ⟨_, hm⟩
    · exact ⟨o, k b o hb e⟩
  · rw [at_ b (nP b _ e (fun q z => by cases z)) (sm b _ e), e]
    exact ⟨#[], by simp⟩
  · obtain ⟨ob, es, ep, ho, r⟩ := hn
    exact ⟨ob, es, ep, k _ ob (nN _ I.free) ho, r⟩
  · by_cases hb : b = c
    · rw [hb, upd_same] at e
      cases e
      rw [hb]
      obtain ⟨oc, vs, t, e1, e2, e3⟩ := ho
      exact ⟨⟨oc, vs, t, e1, e2, e3⟩, ⟨oc, e1⟩, fun h1 h2 ⟨oc, vs, t, a, b, c⟩ st => ⟨oc, vs, t, st _ a, b, c⟩⟩
    · by_cases hb2 : b = P
      · rw [hb2, atP] at e
        cases e
        rw [hb2]
        exact ⟨⟨_, hm, ht, ha⟩, ⟨_, hm⟩, fun h1 h2 ⟨ps, a, b, c⟩ st => ⟨ps, st _ a, b, c⟩⟩
      · rw [at_ b hb2 hb] at e
        refine (I.hok b u e).stay (fun d v hd q => k d v ?_ q) (fun d q => by rw [at_ d (nP d _ q (fun q z => by cases z)) (sm d _ q)]; exact q) fun d xs q => by rw [at_ d (nP d _ q (fun q z => by cases z)) (sm d _ q)]; exact q
        rcases hd with z | z
        · rw [z]
          exact hb2
        · exact nP d _ z (fun q z => by cases z)
/-- the lambda's object -/
def LamO (X : Cx) (params : Arguments) (body : Expr) (scope : Scope) (c' f : Addr) : HO := .ext fun h => ∃ pm ctv : Value, h.get? f = some (PySem.W.kla_obj "<lambda>" (X.env.qual ++ "<lambda>") params body scope (cloFrom X.env.cells scope.names []) pm c' ctv)
theorem lam_make3 {c P : Addr} {params : Arguments} {body : Expr} {scope : Scope} {pos : Pos} {E : Value → Shared → Prop} {Q : Value → Shared → Prop} (I : Inv X pins σ H s) (TB : GxR.TabB X.base X.mg c P) (hcode : X.env.code = .ref c)
    (hT : LT H P (X.env.qual ++ "<lambda>")) (hdef : defaultsOf params X.env = ([], [])) (hfree : ∀ y ∈ scope.names, y.2 = .free → ∃ c, X.env.cells.lookup y.1 = some c)
    (h : ∀ (f c' : Addr) (H1 : Hp) (s' : Shared), Inv X pins σ H1 s' → SameX P H H1 → LT H1 P (X.env.qual ++ "<lambda>") →
      H1 f = some (LamO X params body scope c' f) → H1 c' = some (LamX.CodeO c' (X.env.qual ++ "<lambda>")) → Q (.ref f) s') :
    wpAny (model X.prog X.w) X.A (eval (.Lambda params body scope pos) X.env) Q E s := by
  obtain ⟨cs, hP, hcs⟩ := hT
  obtain ⟨⟨ps, hP', ht, ha⟩, _, _⟩ := I.hok P _ hP
  refine PySem.W.kla_eval hdef ?_
  have bP : s.heap.BuiltinsAt X.mg P := TB.bm.keeps I.bk
  have fin : ∀ (f c' : Addr) (pm ctv : Value) (H1 : Hp) (s' : Shared) (o : Obj) (tk : Nat), Inv X pins σ H1 { s' with toks := tk } → SameX P H H1 → LT H1 P (X.env.qual ++ "<lambda>") → H1 c' = some (LamX.CodeO c' (X.env.qual ++ "<lambda>")) → s'.heap.objs.size = f →
      o = PySem.W.kla_obj "<lambda>" (X.env.qual ++ "<lambda>") params body scope (cloFrom X.env.cells scope.names []) pm c' ctv → Q (.ref f) { s' with heap := s'.heap.push o, toks := tk } := by
    intro f c' pm ctv H1 s' o tk J sx lt hc hf ho
    have hg : (s'.heap.push o).get? f = some o := by rw [← hf, ho]; exact Heap.get?_push_size _ rfl
    have nf : H1 f = none := J.hok.fresh (by show s'.heap.objs.size ≤ f; rw [hf]; exact Nat.le_refl _)
    have J2 := J.laid (a := f) (o := LamO X params body scope c' f) (h' := s'.heap.push o) (t' := tk) (fun b u e => Heap.get?_push_of_some _ e) (by show s'.heap.objs.size ≤ f; rw [hf]; exact Nat.le_refl _)
      ⟨⟨pm, ctv, by rw [hg, ho]⟩, ⟨o, hg⟩, fun h1 h2 ⟨pm, ctv, a⟩ st => ⟨pm, ctv, st _ a⟩⟩
    have sn := same_new (o := LamO X params body scope c' f) nf
    exact h f c' _ _ J2 (sx.trans sn.x) (sn.lt lt) upd_same (sn _ _ hc)
  cases hc : codeAmong pos ps.toList with
  | none =>
    refine PySem.W.kla_makeFunction (mg := X.mg) (c := c) (P := P) (ps := ps) (closure_ok hfree) I.ok.glob (I.mod.glob.keeps I.bk) hcode (TB.code.keeps I.bk) hP' ht hc TB.gP bP fun c' ctv h' tk hx hge hlt hrec htb => ?_
    obtain ⟨c2, oc, vs, t, e2, hoc, hd, hv⟩ := hrec
    cases e2
    have nC : H c' = none := I.hok.fresh hge
    have eL : (ps ++ #[rawInt pos.line, rawInt pos.col, .ref c']).toList = ps.toList ++ [rawInt pos.line, rawInt pos.col, .ref c'] := by simp
    have I1 := inv_tabE (t' := tk) (ps := ps) (more := #[rawInt pos.line, rawInt pos.col, .ref c']) (c := c') (q := X.env.qual ++ "<lambda>") (h' := h') I hP
      (fun b o hb e => hx b o hb e) htb (by rw [eL]; exact PySem.TriplesOk_snoc _ _ _ _ ht) (fun p' cv hcv => by
        rw [eL] at hcv
        rcases LamX.among_app _ ht hcv with z | z
        · obtain ⟨c0, e1, e2⟩ := ha p' cv z
          exact ⟨c0, List.mem_cons_of_mem _ e1, e2⟩
        · exact ⟨c', List.mem_cons_self .., z⟩) hge ⟨oc, vs, t, hoc, hd, hv⟩
    refine fin h'.objs.size c' ((X.mg "__name__").getD .none) ctv _ { s with heap := h' } _ tk I1 (fun b o nb e => ?_) ⟨c' :: cs, ?_, fun c0 h0 => ?_⟩ upd_same rfl rfl
    · rw [upd_ne (ne_of_none e nC), upd_ne nb]
      exact .of e
    · rw [upd_ne (ne_of_none hP nC), upd_same]
    · rcases List.mem_cons.mp h0 with rfl | h0
      · exact ⟨(ne_of_none hP nC).symm, upd_same⟩
      · obtain ⟨n0, e⟩ := hcs c0 h0
        refine ⟨n0, ?_⟩
        rw [upd_ne (ne_of_none e nC), upd_ne n0]
        exact e
  | some cv =>
    obtain ⟨c', hm, e⟩ := ha pos cv hc
    subst e
    refine PySem.W.kla_makeFunctionHit (mg := X.mg) (c := c) (P := P) (ps := ps) (closure_ok hfree) I.ok.glob (I.mod.glob.keeps I.bk) hcode (TB.code.keeps I.bk) hP' ht hc bP fun ctv h' tk hx hsz => ?_
    have I1 : Inv X pins σ H { s with heap := h', toks := tk } := I.kept hx
    exact fin h'.objs.size c' ((X.mg "__name__").getD .none) ctv H { s with heap := h' } _ tk I1 (fun b o _ e => .of e) ⟨cs, hP, hcs⟩ (hcs c' hm).2 rfl rfl
end
end Cl

set_option maxHeartbeats 0
namespace Cl
open PySem PySem.Spec PyProof.Rows L2
/-- a lambda's scope: its one parameter a, captured names, globals -/
structure LamK (sc scope : Scope) (a : Str) : Prop where
  kind : scope.kind = .function
  co : scope.isCoroutine = false
  gen : scope.isGenerator = false
  nocell : ∀ y ∈ scope.names, y.2 ≠ .cell
  own : ∀ y ∈ scope.names, y.2 = .local → y.1 = a
  par : scope.names.lookup a = some .local
  free : ∀ y ∈ scope.names, y.2 = .free → sc.names.lookup y.1 = some .cell ∨ sc.names.lookup y.1 = some .free
def lamKB (sc scope : Scope) (a : Str) : Bool :=
  decide (scope.kind = .function) && (!scope.isCoroutine && (!scope.isGenerator && (decide (scope.names.lookup a = some .local) && scope.names.all fun y => !decide (y.2 = .cell) && ((!decide (y.2 = .local) || decide (y.1 = a)) && (!decide (y.2 = .free) || (decide (sc.names.lookup y.1 = some .cell) || decide (sc.names.lookup y.1 = some .free)))))))
theorem lamK_by {sc scope : Scope} {a : Str} (h : lamKB sc scope a = true) : LamK sc scope a := by
  unfold lamKB at h
  simp only [Bool.and_eq_true, Bool.or_eq_true, Bool.not_eq_true', decide_eq_true_eq, decide_eq_false_iff_not, List.all_eq_true] at h
  obtain ⟨h1, h2, h3, h4, h5⟩ := h
  refine ⟨h1, h2, h3, fun y hy => (h5 y hy).1, fun y hy e => ?_, h4, fun y hy e => ?_⟩
  · rcases (h5 y hy).2.1 with z | z
    · exact absurd e z
    · exact z
  · rcases (h5 y hy).2.2 with z | z
    · exact absurd e z
    · exact z
theorem LamK.has {X : Cx} {scope : Scope} {a : Str} (L : LamK X.env.scope scope a) (ok : X.Ok) : ∀ y ∈ scope.names, y.2 = .free → ∃ c, X.env.cells.lookup y.1 = some c := fun y hy e => by
  rcases L.free y hy e with k | k
  · exact ok.has _ (.inl k)
  · exact ok.has _ (.inr k)
/-- the context of the lambda's body -/
def lamCx1 (X : Cx) (a : Str) (A : Around) (outer : List Env) (s : Shared) (H : Hp) (scope : Scope) (f c' : Addr) : Cx where
  prog := X.prog
  w := X.w
  K := X.K
  mg := X.mg
  base := X.base
  A := A.deeper (LamX.lamEnv X scope s.heap.objs.size f c')
  N := a :: X.N
  s_0 := s
  H_0 := H
  env := LamX.lamEnv X scope s.heap.objs.size f c'
  outer := outer
  stack := LamX.lamEnv X scope s.heap.objs.size f c' :: outer
  ex := []
  fn := fun _ => false
  calm := true
  pn := []
  xe := fun _ _ => False
section
variable {X : Cx} {pins : List (Addr × Obj)} {σ : L2.St} {H : Hp} {s : Shared}
theorem lam_start1 {A : Around} {outer : List Env} {scope : Scope} {a : Str} {v : V} {u : Value} {f c' : Addr} {h₁ : Heap} {tk : Nat} (I : Inv X pins σ H s) (L : LamK X.env.scope scope a) (e0 : Env0 X.prog X.w X.K X.mg X.base A outer s H) (hd : A.handled = none) (ha : a ∉ X.N) (r : RelV v u)
    (hns : h₁.Ns s.heap.objs.size fun y => ([(a, u)] : List (Str × Value)).reverse.lookup y) (kp : ∀ b o, s.heap.get? b = some o → h₁.get? b = some o) :
    Inv (lamCx1 X a A outer s H scope f c') [] (some v :: σ) H { s with heap := h₁, toks := tk } := by
  have hfree := L.has I.ok
  have cm : ∀ {y c}, (cloFrom X.env.cells scope.names []).lookup y = some c → X.env.cells.lookup y = some c := fun {y c} e => by
    rcases cloFrom_mem (PySem.mem_of_lookup e) with hm | ⟨h1, h2⟩
    · cases hm
    · obtain ⟨c1, hc⟩ := hfree _ h1 rfl
      have hc : X.env.cells.lookup y = some c1 := hc
      have e2 : c = c1 := by
        rw [h2, hc] <;> rfl
      rw [e2]
      exact hc
  have look : ∀ {y}, scope.names.lookup y = some .free → ∃ c, (cloFrom X.env.cells scope.names []).lookup y = some c := fun {y} hl => by
    have hy : (y, NameKind.free) ∈ scope.names := PySem.mem_of_lookup hl
    exact mem_lookup (cloFrom_has (cells := X.env.cells) (acc := []) hy)
  have cellK : ∀ {c : Addr} {v : Option Value}, H c = none → s.heap.IsCell c v → h₁.IsCell c v := fun {c v} n ⟨o, ho, hd⟩ => ⟨_, kp _ _ ho, hd⟩
  have noA : ∀ b : Addr, b ∉ (lamCx1 X a A outer s H scope f c').ex := fun b z => absurd (show b ∈ ([] : List Addr) from z) (by simp)
  refine ⟨⟨e0.mod, L.kind, rfl, rfl, Nat.le_refl _, fun y z c e1 e2 => I.ok.inj y z c (cm e1) (cm e2), fun y hy => ?_, fun y c z _ => ?_, fun _ => hd, Around.frames_deeper e0.frames, .inr ⟨rfl, rfl⟩, fun b z => absurd z (noA b), e0.bs, e0.bsz, fun b _ _ => noA b,
      fun b z => absurd z (noA b), e0.funs, e0.frf⟩,
    rfl, e0.bare, Un.kept kp, ⟨_, hns, fun i y v' e1 e2 e3 => ?_⟩, fun y c e => ?_, e0.hok.fresh (Nat.le_refl _), fun y c e => ?_, fun q hq => absurd (show q ∈ ([] : List (Addr × Obj)) ++ [] from hq) (by simp), e0.hok.kept kp, ?_⟩
  · have hy : scope.names.lookup y = some .cell ∨ scope.names.lookup y = some .free := hy
    rcases hy with hy | hy
    · exact absurd rfl (L.nocell _ (PySem.mem_of_lookup hy))
    · exact look hy
  · have z : false = true := z
    cases z
  · have e3 : Vis scope y := e3
    cases i with
    | zero =>
      have e1 : some a = some y := e1
      have e2 : some (some v) = some (some v') := e2
      cases e1
      cases e2
      refine ⟨u, r, .inl ⟨L.par, ?_⟩⟩
      show List.lookup a [(a, u)] = some u
      simp
    | succ i =>
      have e1 : X.N[i]? = some y := e1
      have e2 : σ[i]? = some (some v') := e2
      rcases e3 with k | k | k
      · exact absurd (by rw [← L.own _ (PySem.mem_of_lookup k) rfl]; exact List.mem_of_getElem? e1) ha
      · exact absurd rfl (L.nocell _ (PySem.mem_of_lookup k))
      · obtain ⟨m, hn, hl⟩ := I.loc
        have hvis : Vis X.env.scope y := (L.free _ (PySem.mem_of_lookup k) rfl).elim (fun k => .inr (.inl k)) (fun k => .inr (.inr k))
        obtain ⟨w', r, q⟩ := hl i y v' e1 e2 hvis
        obtain ⟨c2, h2⟩ := look k
        refine ⟨w', r, .inr ⟨.inr k, c2, h2, ?_⟩⟩
        have c1 := cm h2
        rcases q with ⟨k', _⟩ | ⟨_, c3, e', z⟩
        · have k' : X.env.scope.names.lookup y = some .local := k'
          rcases L.free _ (PySem.mem_of_lookup k) rfl with k2 | k2 <;> rw [show X.env.scope.names.lookup y = _ from k2] at k' <;> cases k'
        · rw [c1] at e'
          cases e'
          exact cellK (I.freeC y _ c1) z
  · obtain ⟨w', z⟩ := I.cell y c (cm e)
    exact ⟨w', cellK (I.freeC y c (cm e)) z⟩
  · exact I.freeC y c (cm e)
  · show (some v :: σ).length = (a :: X.N).length
    rw [List.length_cons, List.length_cons, I.len]
/-- the lambda called within a built-in -/
theorem call_key {k : Nat} {params : Arguments} {body : Expr} {scope : Scope} {a : Str} {f c' : Addr} {v : V} {u : Value} {t : TE} {Q : VK} (I : Inv X pins σ H s) (L : LamK X.env.scope scope a) (ha : a ∉ X.N) (hf : H f = some (LamO X params body scope c' f)) (hc : H c' = some (LamX.CodeO c' (X.env.qual ++ "<lambda>")))
    (hbind : ∀ (q : Str) (cl : List (Str × Addr)) (pm cv ctv u : Value), bindArgs (PySem.W.kla_fn "<lambda>" q params body scope cl pm cv ctv) ⟨[u], []⟩ = pure [(a, u)])
    (hr : RG (k + 2) X.A) (hbody : ∀ (A : Around) (outer : List Env) (s : Shared) (H : Hp), RG k (A.deeper (LamX.lamEnv X scope s.heap.objs.size f c')) → PE (lamCx1 X a A outer s H scope f c') body t)
    (r : RelV v u) (ht : t (some v :: σ) H Q) :
    wpAny (model X.prog X.w) X.A.in1 (call (.ref f) [u]) (EP X pins σ Q) (fun _ _ => False) s := by
  obtain ⟨⟨pm, ctv, of1⟩, _, _⟩ := I.hok f _ hf
  obtain ⟨⟨oc, vs, tt, hoc, hdc, hvc⟩, _, _⟩ := I.hok c' _ hc
  have hr1 : RG (k + 1) X.A.in1 := ⟨hr.room.in1, hr.gd⟩
  have e0 : Env0 X.prog X.w X.K X.mg X.base X.A.in1 X.stack s H := ⟨I.ok.frames, I.ok.mod, I.bs, Nat.le_trans I.ok.bsz I.sz, I.stack, I.stkFree, I.hok, I.bare⟩
  have rc : codeAny (model X.prog X.w) X.A.in1 (.call (.ref f) ⟨[u], []⟩) (CR CX0 X.stack X.prog X.w H s Q E0) s := by
    refine PySem.W.kla_callFunE hr1.room.depth of1 rfl L.co L.gen rfl ⟨c', oc, vs, tt, rfl, hoc, hdc, hvc⟩ ?_
    rw [hbind]
    refine wpAny_pure (wpAny_newFunctionEnv (fun y hy => L.nocell y hy) (fun y hy => by rw [List.mem_singleton.mp hy]; exact L.par) (fun h₁ hns hsb => ⟨I.nolimit.fresh _ hsb, ?_⟩) L.kind)
    show codeAny _ _ (.expr body (LamX.lamEnv X scope s.heap.objs.size f c')) _ _
    have kp : ∀ b o, s.heap.get? b = some o → h₁.get? b = some o := fun b o e => hsb.extBut b o (Nat.ne_of_lt (Heap.lt_size e)) (Heap.get?_push_of_some _ e)
    have J := lam_start1 (f := f) (c' := c') (tk := s.toks + 1) I L e0 hr1.room.hd ha r hns kp
    have hr2 : RG k (X.A.in1.deeper (LamX.lamEnv X scope s.heap.objs.size f c')) := ⟨hr1.room.deeper _, hr1.gd⟩
    refine PySem.W.kla_codeExpr (wpAny_mono ((hbody X.A.in1 X.stack s H hr2).run [] _ _ H Q J ht) (fun v s' hq => ?_) fun e s' hq => (show False from hq).elim)
    obtain ⟨w', H', J', rv, q⟩ := hq
    exact ⟨w', H', J'.os, J'.bare, J'.base, J'.hok, rv, q⟩
  refine wpAny_call (codeAny_mono rc fun r s' hq => ?_)
  cases r with
  | error e => exact hq.elim
  | ok fl =>
    cases fl with
    | ret u => exact I.after hq
    | next => exact False.elim hq
    | brk => exact False.elim hq
    | cont => exact False.elim hq
end
end Cl

set_option maxHeartbeats 0
namespace Cl
open PySem PySem.Spec PyProof.Rows L2
section
variable {X : Cx} {pins : List (Addr × Obj)} {σ : L2.St} {H0 H : Hp} {s : Shared}
theorem Same.tupS {H H' : Hp} {t : Addr} {vs : List V} (s : Same H H') (h : SqT X.K H t vs) : SqT X.K H' t vs := seT s h
theorem max_loopI {t f S It : Addr} {vs : List V} {R : Result → Shared → Prop} (kf : Nat → Int) (hh : X.A.handled = none) (hS : SqT X.K H0 t vs) (hSI : S ≠ It) (htI : t ≠ It)
    (fS : ∀ H', H' S = none → FpOk X pins H' S) (fI : ∀ H', H' It = none → FpOk X pins H' It)
    (turn : ∀ (i : Nat) (x : V) (u : Value) (pins' : List (Addr × Obj)) (H : Hp) (s : Shared), vs[i]? = some x → RelV x u → Inv X pins' σ H s → Same H0 H →
      wpAny (model X.prog X.w) X.A.in1 (call (.ref f) [u]) (EP X pins' σ (fun y H' => y = .int (kf i) ∧ Same H0 H')) (fun _ _ => False) s)
    (hR : ∀ (i : Nat) (x : V) (u : Value) (H : Hp) (s : Shared), vs[i]? = some x → RelV x u → (∀ j, j < vs.length → kf i ≥ kf j ∧ (j < i → kf i > kf j)) → Inv X pins σ H s → Same H0 H → R (.ok (.ret u)) s) :
    ∀ (r j i : Nat) (H : Hp) (s : Shared) (xb : V) (ub : Value) (tb : Tok) (c : Nat), vs.length - (j + 1) = r → j + 1 ≤ vs.length → Inv X pins σ H s → Same H0 H → H S = none → H It = none →
      s.heap.get? S = some (seqObj "list" #[ub, .int (kf i) tb] c) → s.heap.IsTupleIter It t (j + 1) → vs[i]? = some xb → RelV xb ub → i ≤ j → (∀ j', j' ≤ j → kf i ≥ kf j' ∧ (j' < i → kf i > kf j')) →
      codeAny (model X.prog X.w) X.A (.builtin "max.loop" ⟨[.ref It, .ref f, .ref S], []⟩) R s := by
  have hname : (toString "max" ++ toString ".loop" : String) = "max.loop" := by decide
  intro r
  induction r with
  | zero =>
    intro j i H s xb ub tb c hr hj I sm nS nI gS hit hxb hub hij hbest
    have hin : j + 1 = vs.length := by omega
    obtain ⟨its, rv, tup, hz⟩ := I.tuple (seT sm hS)
    have W := Walks.tuple (prog := X.prog) (w := X.w) (A := X.A.in1) hh It t htI its.toArray
    have hsz : its.toArray.size = vs.length := by rw [List.size_toArray]; exact rv.length.symm
    refine codeAny_builtin PySem.F.entry_max_loop ?_
    rw [Around.under_plainId PySem.F.plain_max_loop _]
    show wpAny _ X.A.in1 (seqItems? (.ref S) >>= _) _ _ _
    refine wpAny_bind (wpAny_seqItems gS rfl ?_)
    show wpAny _ X.A.in1 (tryCatch (pyNext (.ref It)) _ >>= _) _ _ _
    refine wpAny_bind (wpAny_tryCatch (W.done _ _ _ ⟨by rw [hsz, ← hin]; exact hit, tup⟩ fun h' tk' hk' => ?_))
    obtain ⟨_, i1, i2, i3, i4, i5⟩ := fI H nI
    obtain ⟨_, s1, s2, s3, s4, s5⟩ := fS H nS
    have I1 := I.turned (h' := h') (t' := tk') (it := It) (fun b o hb e => hk' b o (by simpa using hb) e) nI i1 i3 i4 i5
    have gS' := hk' S _ (by simpa using hSI) gS
    show wpAny _ X.A.in1 (updateSeq S (fun _ => #[]) >>= _) _ _ _
    refine wpAny_bind ?_
    refine wpAny_updateSeq gS' rfl (wpAny_bind (wpAny_letGo (wpAny_pure ?_)))
    have I2 := I1.turned (h' := h'.update S (Obj.mapSeq fun _ => (#[] : Array Value))) (t' := tk') (it := S) (fun b o hb e => (Heap.get?_update_ne _ _ _ _ hb).trans e) nS s1 s3 s4 s5
    exact hR i xb ub H _ hxb hub (fun j' hj' => hbest j' (by omega)) I2 sm
  | succ r ih =>
    intro j i H s xb ub tb c hr hj I sm nS nI gS hit hxb hub hij hbest
    have hlt : j + 1 < vs.length := by omega
    obtain ⟨its, rv, tup, hz⟩ := I.tuple (seT sm hS)
    have W := Walks.tuple (prog := X.prog) (w := X.w) (A := X.A.in1) hh It t htI its.toArray
    have hsz : its.toArray.size = vs.length := by rw [List.size_toArray]; exact rv.length.symm
    refine codeAny_builtin PySem.F.entry_max_loop ?_
    rw [Around.under_plainId PySem.F.plain_max_loop _]
    show wpAny _ X.A.in1 (seqItems? (.ref S) >>= _) _ _ _
    refine wpAny_bind (wpAny_seqItems gS rfl ?_)
    show wpAny _ X.A.in1 (tryCatch (pyNext (.ref It)) _ >>= _) _ _ _
    refine wpAny_bind (wpAny_tryCatch (W.item (j + 1) _ _ _ (by rw [hsz]; exact hlt) ⟨hit, tup⟩ fun v h' tk' hP hst' hk' => ?_))
    have hv : its[j + 1]? = some v := by simpa using hP
    obtain ⟨x, hx⟩ : ∃ x, vs[j + 1]? = some x := ⟨_, List.getElem?_eq_getElem hlt⟩
    obtain ⟨v', ev, rel⟩ := rv.get hx
    obtain rfl : v' = v := Option.some.inj (ev.symm.trans hv)
    obtain ⟨_, i1, i2, i3, i4, i5⟩ := fI H nI
    obtain ⟨_, s1, s2, s3, s4, s5⟩ := fS H nS
    have I1 := I.turned (h' := h') (t' := tk') (it := It) (fun b o hb e => hk' b o (by simpa using hb) e) nI i1 i3 i4 i5
    have gS' := hk' S _ (by simpa using hSI) gS
    obtain ⟨oI', hoI', hoc, hod⟩ := id hst'.1
    have J : Inv X (pins ++ [(S, seqObj "list" #[ub, .int (kf i) tb] c), (It, oI')]) σ H { s with heap := h', toks := tk' } := I1.pins_of fun p hp => by
      rcases List.mem_append.mp hp with hp | hp
      · exact I1.pin p (List.mem_append_right _ hp)
      · rcases List.mem_cons.mp hp with rfl | hp
        · exact ⟨gS', nS, s1, s2, fun v z => nomatch z⟩
        · rw [List.mem_singleton.mp hp]
          exact ⟨hoI', nI, i1, i2, fun v z => by rw [show (It, oI').2.data = oI'.data from rfl, hod] at z; cases z⟩
    show wpAny _ X.A.in1 (tryCatch (holding [v'] (call (.ref f) [v'])) _ >>= _) _ _ _
    refine wpAny_bind (wpAny_tryCatch (wpAny_holding (wpAny_mono (turn (j + 1) x v' _ H _ hx rel J sm) (fun y s2 he => ?_) fun _ _ hF => hF.elim)))
    obtain ⟨yv, H2, J2, ry, rfl, sm2⟩ := he
    obtain ⟨t2, rfl⟩ := ry
    have pS := J2.pin (S, seqObj "list" #[ub, .int (kf i) tb] c) (List.mem_append_right _ (List.mem_append_right _ (.head _)))
    have pI := J2.pin (It, oI') (List.mem_append_right _ (List.mem_append_right _ (.tail _ (.head _))))
    have J3 : Inv X pins σ H2 s2 := J2.pins_of fun p hp => J2.pin p (List.mem_append_right _ (List.mem_append_left _ hp))
    have hit2 : s2.heap.IsTupleIter It t (j + 1 + 1) := ⟨oI', pI.1, hoc, hod⟩
    show wpAny _ X.A.in1 (tryCatch (holding [v', .int (kf (j + 1)) t2] (richCompare .Gt (.int (kf (j + 1)) t2) (.int (kf i) tb) >>= _)) _ >>= _) _ _ _
    refine wpAny_bind (wpAny_tryCatch (wpAny_holding (wpAny_bind (CmpOf.ints_gt (prog := X.prog) (w := X.w) (A := X.A.in1) (P := fun i v => ∃ t, v = .int (kf i) t) kf (fun i v h => h) (j + 1) i _ _ _ _ _ ⟨t2, rfl⟩ ⟨tb, rfl⟩ ?_))))
    refine wpAny_bind (wpAny_holding (wpAny_truthy_bool ?_))
    refine wpAny_bind (wpAny_letGo (wpAny_pure ?_))
    by_cases hb' : kf (j + 1) > kf i
    · obtain ⟨c2, hc2⟩ : ∃ c2, (s2.heap.update S (Obj.mapSeq fun _ => #[v', .int (kf (j + 1)) t2])).get? S = some (seqObj "list" #[v', .int (kf (j + 1)) t2] c2) := ⟨_, get?_update_seq pS.1 fun _ => #[v', .int (kf (j + 1)) t2]⟩
      simp only [hb', decide_true, if_true]
      refine wpAny_bind ?_
      refine wpAny_updateSeq pS.1 rfl (wpAny_bind (wpAny_letGo ?_))
      rw [hname]
      have I4 := J3.turned (h' := s2.heap.update S (Obj.mapSeq fun _ => #[v', .int (kf (j + 1)) t2])) (t' := s2.toks) (it := S) (fun b o hb e => (Heap.get?_update_ne _ _ _ _ hb).trans e) pS.2.1 s1 s3 s4 s5
      refine wpAny_pure ⟨plainId_quiet PySem.F.plain_max_loop _, ih (j + 1) (j + 1) H2 _ x v' t2 c2 (by omega) hlt I4 sm2 pS.2.1 pI.2.1 hc2 ⟨oI', (Heap.get?_update_ne _ _ _ _ hSI.symm).trans pI.1, hoc, hod⟩ hx rel (Nat.le_refl _) fun j' hj' => ?_⟩
      by_cases e : j' = j + 1
      · subst e
        exact ⟨by omega, fun _ => by omega⟩
      · have hb1 := hbest j' (by omega)
        have hb2 := hb1.1
        exact ⟨by omega, fun _ => by omega⟩
    · simp only [hb', decide_false, Bool.false_eq_true, if_false]
      refine wpAny_bind (wpAny_letGo ?_)
      rw [hname]
      refine wpAny_pure ⟨plainId_quiet PySem.F.plain_max_loop _, ih (j + 1) i H2 _ xb ub tb c (by omega) hlt J3 sm2 pS.2.1 pI.2.1 pS.1 hit2 hxb hub (by omega) fun j' hj' => ?_⟩
      by_cases e : j' = j + 1
      · subst e
        exact ⟨by omega, fun _ => by omega⟩
      · exact hbest j' (by omega)
/-- max(t, key=f), t a tuple -/
theorem max_keyI {t f : Addr} {vs : List V} {Q : Value → Shared → Prop} {E : Value → Shared → Prop} (kf : Nat → Int) (hh : X.A.handled = none) (I : Inv X pins σ H s) (hS : SqT X.K H t vs) (hne : 0 < vs.length)
    (turn : ∀ (i : Nat) (x : V) (u : Value) (pins' : List (Addr × Obj)) (H1 : Hp) (s : Shared), vs[i]? = some x → RelV x u → Inv X pins' σ H1 s → Same H H1 →
      wpAny (model X.prog X.w) X.A.in1 (call (.ref f) [u]) (EP X pins' σ (fun y H' => y = .int (kf i) ∧ Same H H')) (fun _ _ => False) s)
    (hQ : ∀ (i : Nat) (x : V) (u : Value) (H1 : Hp) (s : Shared), vs[i]? = some x → RelV x u → (∀ j, j < vs.length → kf i ≥ kf j ∧ (j < i → kf i > kf j)) → Inv X pins σ H1 s → Same H H1 → Q u s) :
    wpAny (model X.prog X.w) X.A (call (.builtin "max") [.ref t] [(Str.ofString "key", .ref f)]) Q E s := by
  have hname : (toString "max" ++ toString ".loop" : String) = "max.loop" := by decide
  obtain ⟨its, rv, tup, hz⟩ := I.tuple hS
  have htt : t < s.heap.objs.size := by obtain ⟨o, e, _⟩ := id tup; exact Heap.lt_size e
  refine kmk_tree PySem.F.kind_max PySem.F.plain_max PySem.F.entry_max (kmk_max_key _ _) ?_
  show wpAny _ X.A.in1 (Builtin.Builtins.bindParams "max" ["key", "default"] 0 ⟨[], [(Str.ofString "key", .ref f)]⟩ >>= _) _ _ s
  refine wpAny_bind (wpAny_of_eq (show Builtin.Builtins.bindParams "max" ["key", "default"] 0 ⟨[], [(Str.ofString "key", .ref f)]⟩ = pure [some (.ref f), none] from rfl) ?_)
  refine wpAny_bind (wpAny_pure ?_)
  refine wpAny_bind (wpAny_pyIter_tuple tup ?_)
  refine wpAny_bind (wpAny_newList ?_ (Nat.zero_le _))
  rw [hname]
  have hS1 : (s.heap.push { cls := .type "tuple_iterator", data := .fields #[.ref t, .int 0 0] }).objs.size = s.heap.objs.size + 1 := size_push' ..
  have htI : t ≠ s.heap.objs.size := Nat.ne_of_lt htt
  have hSI : (s.heap.push { cls := .type "tuple_iterator", data := .fields #[.ref t, .int 0 0] }).objs.size ≠ s.heap.objs.size := by rw [hS1]; exact Nat.ne_of_gt (Nat.lt_succ_self _)
  refine wpAny_pure ⟨plainId_quiet PySem.F.plain_max_loop _, ?_⟩
  have gI : ((s.heap.push { cls := .type "tuple_iterator", data := .fields #[.ref t, .int 0 0] }).push (seqObj "list" #[] 0)).get? s.heap.objs.size = some { cls := .type "tuple_iterator", data := .fields #[.ref t, .int 0 0] } :=
    Heap.get?_push_of_some _ (Heap.get?_push_size _ rfl)
  have gS : ((s.heap.push { cls := .type "tuple_iterator", data := .fields #[.ref t, .int 0 0] }).push (seqObj "list" #[] 0)).get? (s.heap.push { cls := .type "tuple_iterator", data := .fields #[.ref t, .int 0 0] }).objs.size = some (seqObj "list" #[] 0) := Heap.get?_push_size _ rfl
  have fI : ∀ H', H' s.heap.objs.size = none → FpOk X pins H' s.heap.objs.size := fun H' n => I.fpOk (Nat.le_refl _) n
  have fS : ∀ H', H' (s.heap.push { cls := .type "tuple_iterator", data := .fields #[.ref t, .int 0 0] }).objs.size = none → FpOk X pins H' (s.heap.push { cls := .type "tuple_iterator", data := .fields #[.ref t, .int 0 0] }).objs.size := fun H' n => I.fpOk (by rw [hS1]; exact Nat.le_succ _) n
  have nI : H s.heap.objs.size = none := I.hok.fresh (Nat.le_refl _)
  have nS : H (s.heap.push { cls := .type "tuple_iterator", data := .fields #[.ref t, .int 0 0] }).objs.size = none := I.hok.fresh (by rw [hS1]; exact Nat.le_succ _)
  have I0 : Inv X pins σ H { s with heap := (s.heap.push { cls := .type "tuple_iterator", data := .fields #[.ref t, .int 0 0] }).push (seqObj "list" #[] 0) } := I.kept (t' := s.toks) fun b o e => Heap.get?_push_of_some _ (Heap.get?_push_of_some _ e)
  have tup0 : ((s.heap.push { cls := .type "tuple_iterator", data := .fields #[.ref t, .int 0 0] }).push (seqObj "list" #[] 0)).IsTuple t its.toArray := by
    obtain ⟨o, e, r⟩ := id tup
    exact ⟨o, Heap.get?_push_of_some _ (Heap.get?_push_of_some _ e), r⟩
  generalize (s.heap.push { cls := .type "tuple_iterator", data := .fields #[.ref t, .int 0 0] }).objs.size = S at *
  generalize (s.heap.push { cls := .type "tuple_iterator", data := .fields #[.ref t, .int 0 0] }).push (seqObj "list" #[] 0) = h0 at *
  generalize s.heap.objs.size = It at *
  have W := Walks.tuple (prog := X.prog) (w := X.w) (A := X.A.in1) hh It t htI its.toArray
  have hsz : its.toArray.size = vs.length := by rw [List.size_toArray]; exact rv.length.symm
  refine codeAny_builtin PySem.F.entry_max_loop ?_
  rw [Around.under_plainId PySem.F.plain_max_loop _]
  show wpAny _ X.A.in1 (seqItems? (.ref _) >>= _) _ _ _
  refine wpAny_bind (wpAny_seqItems gS rfl ?_)
  show wpAny _ X.A.in1 (tryCatch (pyNext (.ref It)) _ >>= _) _ _ _
  refine wpAny_bind (wpAny_tryCatch (W.item 0 _ _ _ (by rw [hsz]; exact hne) ⟨⟨_, gI, rfl, rfl⟩, tup0⟩ fun v h' tk' hP hst' hk' => ?_))
  have hv : its[0]? = some v := by simpa using hP
  obtain ⟨x, hx⟩ : ∃ x, vs[0]? = some x := ⟨_, List.getElem?_eq_getElem hne⟩
  obtain ⟨v', ev, rel⟩ := rv.get hx
  obtain rfl : v' = v := Option.some.inj (ev.symm.trans hv)
  obtain ⟨_, i1, i2, i3, i4, i5⟩ := fI H nI
  obtain ⟨_, s1, s2, s3, s4, s5⟩ := fS H nS
  have I1 := I0.turned (h' := h') (t' := tk') (it := It) (fun b o hb e => hk' b o (by simpa using hb) e) nI i1 i3 i4 i5
  have gS' := hk' S _ (by simpa using hSI) gS
  obtain ⟨oI', hoI', hoc, hod⟩ := id hst'.1
  have J : Inv X (pins ++ [(S, seqObj "list" #[] 0), (It, oI')]) σ H { s with heap := h', toks := tk' } := I1.pins_of fun p hp => by
    rcases List.mem_append.mp hp with hp | hp
    · exact I1.pin p (List.mem_append_right _ hp)
    · rcases List.mem_cons.mp hp with rfl | hp
      · exact ⟨gS', nS, s1, s2, fun v z => nomatch z⟩
      · rw [List.mem_singleton.mp hp]
        exact ⟨hoI', nI, i1, i2, fun v z => by rw [show (It, oI').2.data = oI'.data from rfl, hod] at z; cases z⟩
  show wpAny _ X.A.in1 (tryCatch (holding [v'] (call (.ref f) [v'])) _ >>= _) _ _ _
  refine wpAny_bind (wpAny_tryCatch (wpAny_holding (wpAny_mono (turn 0 x v' _ H _ hx rel J (.refl H)) (fun y s2 he => ?_) fun _ _ hF => hF.elim)))
  obtain ⟨yv, H2, J2, ry, rfl, sm2⟩ := he
  obtain ⟨t2, rfl⟩ := ry
  have pS := J2.pin (S, seqObj "list" #[] 0) (List.mem_append_right _ (List.mem_append_right _ (.head _)))
  have pI := J2.pin (It, oI') (List.mem_append_right _ (List.mem_append_right _ (.tail _ (.head _))))
  have J3 : Inv X pins σ H2 s2 := J2.pins_of fun p hp => J2.pin p (List.mem_append_right _ (List.mem_append_left _ hp))
  obtain ⟨c2, hc2⟩ : ∃ c2, (s2.heap.update S (Obj.mapSeq fun _ => #[v', .int (kf 0) t2])).get? S = some (seqObj "list" #[v', .int (kf 0) t2] c2) := ⟨_, get?_update_seq pS.1 fun _ => #[v', .int (kf 0) t2]⟩
  show wpAny _ X.A.in1 (updateSeq S (fun _ => #[v', .int (kf 0) t2]) >>= _) _ _ _
  refine wpAny_bind ?_
  refine wpAny_updateSeq pS.1 rfl ?_
  rw [hname]
  have I4 := J3.turned (h' := s2.heap.update S (Obj.mapSeq fun _ => #[v', .int (kf 0) t2])) (t' := s2.toks) (it := S) (fun b o hb e => (Heap.get?_update_ne _ _ _ _ hb).trans e) pS.2.1 s1 s3 s4 s5
  refine wpAny_pure ⟨plainId_quiet PySem.F.plain_max_loop _, max_loopI kf hh hS hSI htI fS fI turn (fun i x u H1 s' h1 h2 h3 h4 h5 => hQ i x u H1 s' h1 h2 h3 h4 h5) _ 0 0 H2 _ x v' t2 c2 rfl hne I4 sm2 pS.2.1 pI.2.1 hc2 ⟨oI', (Heap.get?_update_ne _ _ _ _ hSI.symm).trans pI.1, hoc, hod⟩ hx rel (Nat.le_refl _) fun j' hj' => ?_⟩
  have e : j' = 0 := by omega
  subst e
  exact ⟨by omega, fun h => absurd h (Nat.lt_irrefl _)⟩
end
end Cl

set_option maxHeartbeats 0
namespace Cl
open PySem PySem.Spec PyProof.Rows L2
/-- what stands but for the table at P -/
def hp (P : Addr) (H : Hp) : Hp := fun b => if b = P then none else H b
theorem hp_at {P b : Addr} {H : Hp} {o : HO} (h : hp P H b = some o) : b ≠ P ∧ H b = some o := by
  unfold hp at h
  split at h
  · cases h
  · exact ⟨by assumption, h⟩
theorem hp_of {P b : Addr} {H : Hp} {o : HO} (n : b ≠ P) (h : H b = some o) : hp P H b = some o := by
  unfold hp
  rw [if_neg n]
  exact h
theorem SameX.to {P : Addr} {H H' : Hp} (s : SameX P H H') : Same (hp P H) H' := fun b o e => s b o (hp_at e).1 (hp_at e).2
theorem SameX.refl {P : Addr} (H : Hp) : SameX P H H := fun _ _ _ e => .of e
section
variable {K : PySem.W.Frag} {H H' : Hp} {P : Addr} {q : Str}
theorem dnT {a : Addr} {xs : List V} (t : LT H P q) (h : SqT K H a xs) : SqT K (hp P H) a xs := by
  obtain ⟨cs, e, _⟩ := t
  have ne : ∀ u, H a = some u → (∀ φ, u ≠ .ext φ) → a ≠ P := fun u z n y => by
    rw [y, e] at z
    exact n _ (Option.some.inj z).symm
  rcases h with (h | ⟨o, h⟩) | h
  · exact .inl (.inl (hp_of (ne _ h fun φ z => nomatch z) h))
  · exact .inl (.inr ⟨o, hp_of (ne _ h fun φ z => nomatch z) h⟩)
  · exact .inr h
theorem dn2 {v : V} {p : Int × Int} (t : LT H P q) (h : At2 K H v p) : At2 K (hp P H) v p := by
  obtain ⟨a, rfl, h⟩ := h
  exact ⟨a, rfl, dnT t h⟩
theorem dnL {v : V} {l : Ln} (t : LT H P q) (h : AtL K H v l) : AtL K (hp P H) v l := by
  obtain ⟨a, u, w, rfl, h1, h2, h3⟩ := h
  exact ⟨a, u, w, rfl, dnT t h1, dn2 t h2, dn2 t h3⟩
theorem AtL.sameX {v : V} {l : Ln} (h : AtL K H v l) (t : LT H P q) (s : SameX P H H') : AtL K H' v l := (dnL t h).same s.to
theorem seX {a : Addr} {xs : List V} (t : LT H P q) (s : SameX P H H') (h : SqT K H a xs) : SqT K H' a xs := seT s.to (dnT t h)
end
def tLamK (X : Cx) (P : Addr) (params : Arguments) (body : Expr) (scope : Scope) : TE := fun _ H Q => LT H P (X.env.qual ++ "<lambda>") ∧ ∀ f c' H1, SameX P H H1 → LT H1 P (X.env.qual ++ "<lambda>") →
  H1 f = some (LamO X params body scope c' f) → H1 c' = some (LamX.CodeO c' (X.env.qual ++ "<lambda>")) → Q (.ref f) H1
/-- what max by key asks behind its argument v -/
def keyQ (X : Cx) (P : Addr) (t : TE) (σ : L2.St) (Q : VK) (v : V) (H1 : Hp) : Prop := ∃ (tt : Addr) (vs : List V) (kf : Nat → Int), v = .ref tt ∧ SqT X.K H1 tt vs ∧ 0 < vs.length ∧ LT H1 P (X.env.qual ++ "<lambda>") ∧
  (∀ i x H2, vs[i]? = some x → SameX P H1 H2 → LT H2 P (X.env.qual ++ "<lambda>") → t (some x :: σ) H2 (fun y H3 => y = .int (kf i) ∧ Same H2 H3)) ∧
  ∀ i x H2, vs[i]? = some x → (∀ j, j < vs.length → kf i ≥ kf j ∧ (j < i → kf i > kf j)) → SameX P H1 H2 → LT H2 P (X.env.qual ++ "<lambda>") → Q x H2
def keyQs (X : Cx) (P : Addr) (t : TE) (σ : L2.St) (Q : VK) : List V → Hp → Prop
  | [v], H1 => keyQ X P t σ Q v H1
  | _, _ => False
def tMaxKey (X : Cx) (P : Addr) (t te : TE) : TE := fun σ H Q => te σ H (keyQ X P t σ Q)
section
variable {X : Cx}
theorem pe_lamK {c P : Addr} {params : Arguments} {body : Expr} {scope : Scope} {a : Str} {pos : Pos} (TB : GxR.TabB X.base X.mg c P) (hcode : X.env.code = .ref c) (L : LamK X.env.scope scope a) (hdef : defaultsOf params X.env = ([], [])) :
    PE X (.Lambda params body scope pos) (tLamK X P params body scope) :=
  ⟨fun pins s σ H Q I h => lam_make3 I TB hcode h.1 hdef (L.has I.ok) fun f c' H1 s' I1 sx lt hf hc => ⟨.ref f, H1, I1, rfl, h.2 f c' H1 sx lt hf hc⟩⟩
theorem pe_maxKey {k : Nat} {c P : Addr} {e : Expr} {params : Arguments} {body : Expr} {scope : Scope} {a : Str} {p pos lp kp : Pos} {t te : TE} (hr : RG (k + 2) X.A) (hg : Gl X "max") (hm : X.mg "max" = none) (TB : GxR.TabB X.base X.mg c P) (hcode : X.env.code = .ref c)
    (L : LamK X.env.scope scope a) (ha : a ∉ X.N) (hdef : defaultsOf params X.env = ([], []))
    (hbind : ∀ (q : Str) (cl : List (Str × Addr)) (pm cv ctv u : Value), bindArgs (PySem.W.kla_fn "<lambda>" q params body scope cl pm cv ctv) ⟨[u], []⟩ = pure [(a, u)])
    (he : PE X e te) (hbody : ∀ (A : Around) (outer : List Env) (s : Shared) (H : Hp) (f c' : Addr), RG k (A.deeper (LamX.lamEnv X scope s.heap.objs.size f c')) → PE (lamCx1 X a A outer s H scope f c') body t)
    (hs1 : starEach [e] X.env = (false, eval e X.env) :: starEach [] X.env := by rfl) :
    PE X (.Call (.Name "max" p) [e] [⟨some "key", .Lambda params body scope lp, kp⟩] pos) (tMaxKey X P t te) := by
  refine ⟨fun pins s σ H Q I h => ?_⟩
  refine wpAny_Call_Name_kw (ld_blt I hg hm PyProof.Rows.boot_max ?_ (by decide) (by decide))
  have hargs : PA X [e] _ := pa_cons he pa_nil (hs := hs1)
  have hk : PK X [⟨some "key", .Lambda params body scope lp, kp⟩] _ := pk_cons (pe_lamK (P := P) TB hcode L hdef) pk_nil
  refine PyProof.Rows.callWith_kw (thn (hargs.run pos pins s σ H (keyQs X P t σ Q) I h) fun us s1 ⟨vs0, H1, I1, r1, q1⟩ => ?_) (by rw [hs1]; rfl) (by rw [hs1]; rfl) (by rfl) (by rfl)
  obtain ⟨v, rfl⟩ : ∃ v, vs0 = [v] := by
    match vs0, q1 with
    | [v], _ => exact ⟨v, rfl⟩
    | [], q => exact False.elim q
    | _ :: _ :: _, q => exact False.elim q
  obtain ⟨tt, vs, kf, rfl, hS, hne, lt1, ht, hq⟩ := q1
  obtain ⟨u, rfl, ru⟩ := vals1 r1
  cases ru
  refine thn (hk.run pos pins s1 σ H1 (fun ws H2 => ∃ f c', ws = [.ref f] ∧ SameX P H1 H2 ∧ LT H2 P (X.env.qual ++ "<lambda>") ∧ H2 f = some (LamO X params body scope c' f) ∧ H2 c' = some (LamX.CodeO c' (X.env.qual ++ "<lambda>"))) I1 ?_) fun ws s2 ⟨zs, H2, I2, r2, q2⟩ => ?_
  · exact ⟨lt1, fun f c' H2 sx lt hf hc => ⟨f, c', rfl, sx, lt, hf, hc⟩⟩
  obtain ⟨f, c', rfl, sx, lt2, hf, hc⟩ := q2
  obtain ⟨u, rfl, ru⟩ := vals1 r2
  cases ru
  have hS2 := seX lt1 sx hS
  show wpAny _ _ (call (.builtin "max") [.ref tt] [(Str.ofString "key", .ref f)]) _ _ s2
  refine max_keyI kf hr.room.hd I2 hS2 hne (fun i x u pins' H3 s3 hx rel I3 sm => ?_) fun i x u H3 s3 hx rel best I3 sm => ?_
  · refine wpAny_mono (call_key (k := k) I3 L ha (sm _ _ hf) (sm _ _ hc) hbind hr (fun A outer s H hr' => hbody A outer s H f c' hr') rel (ht i x H3 hx (sx.trans sm.x) (sm.lt lt2))) (fun y s4 hy => ?_) fun _ _ z => z
    obtain ⟨yv, H4, I4, ry, e, sm4⟩ := hy
    exact ⟨yv, H4, I4, ry, e, sm.trans sm4⟩
  · exact ⟨x, H3, I3, rel, hq i x H3 hx best (sx.trans sm.x) (sm.lt lt2)⟩
end
end Cl

set_option maxHeartbeats 0
namespace Cl
open PySem PySem.Spec PyProof.Rows L2
/-! ### a generator expression over one name, its element asked as it comes: told by words on states -/
theorem over_comp {A : Around} {e : Expr} {gs : List Comprehension} {sc : Scope} {p : Pos} {v o : Value} {env : Env} : A.over (.compLoop (.GeneratorExp e gs sc p) 0 v o env) [] = A.deeper env := by
  first
    | rfl
    | (obtain ⟨hd, d, fr, gs, u⟩ := A; simp [Around.over, Around.deeper, marksOver, frameCount, unitsOf, envsOf, guardsOf, pushEnvs, pushGuards, Code.envs, Code.env?, Code.isFrame, Code.guards, Code.isGuard, Code.weight, Code.frames, Code.isCreation, Code.isCaller, Code.cUnits])
theorem over_start {A : Around} {e : Expr} {gs : List Comprehension} {sc : Scope} {p : Pos} {v o : Value} {env : Env} : A.over (.compStart (.GeneratorExp e gs sc p) 0 v o env) [] = A.deeper env := by
  first
    | rfl
    | (obtain ⟨hd, d, fr, gs, u⟩ := A; simp [Around.over, Around.deeper, marksOver, frameCount, unitsOf, envsOf, guardsOf, pushEnvs, pushGuards, Code.envs, Code.env?, Code.isFrame, Code.guards, Code.isGuard, Code.weight, Code.frames, Code.isCreation, Code.isCaller, Code.cUnits])
structure GenN (prog : Program) (w : World) (A : Around) (cenv : Env) (I : Addr) (x : Str) (px : Pos) (elt : Expr) (n₀ : Nat) (bs : Nat → Bool) (ST : Nat → Shared → Prop) (M1 : Nat → Value → Shared → Prop) (M2 : Nat → Shared → Prop) (FIN : Shared → Prop) : Prop where
  item : ∀ (i : Nat) (s : Shared) (Q : Option Value → Shared → Prop) (E : Value → Shared → Prop), i < n₀ → ST i s → (∀ v s', M1 i v s' → Q (some v) s') → wpAny (model prog w) (A.deeper cenv) (pyNext (.ref I)) Q E s
  asg : ∀ (i : Nat) (v : Value) (s : Shared) (Q : Unit → Shared → Prop) (E : Value → Shared → Prop), M1 i v s → (∀ s', M2 i s' → Q () s') → wpAny (model prog w) (A.deeper cenv) (assign (.Name x px) cenv v) Q E s
  el : ∀ (i : Nat) (s : Shared) (Q : Value → Shared → Prop) (E : Value → Shared → Prop), M2 i s → (∀ s', ST (i + 1) s' → Q (.bool (bs i)) s') → wpAny (model prog w) (A.deeper cenv) (eval elt cenv) Q E s
  done : ∀ (s : Shared) (Q : Option Value → Shared → Prop) (E : Value → Shared → Prop), ST n₀ s → (∀ s', FIN s' → Q none s') → wpAny (model prog w) (A.deeper cenv) (pyNext (.ref I)) Q E s
  self : ∀ (s : Shared) (Q : Value → Shared → Prop) (E : Value → Shared → Prop), ST 0 s → Q (.ref I) s → wpAny (model prog w) (A.deeper cenv) (pyIter (.ref I)) Q E s
def protoN (n₀ : Nat) (bs : Nat → Bool) (ST : Nat → Shared → Prop) : Protocol := fun m _ v s kap =>
  ∃ i, i + m + 1 = n₀ ∧ v = .bool (bs i) ∧ ST (i + 1) s ∧ ∀ s'' : Shared, ST (i + 1) s'' → kap (.send .none) s''
abbrev endN (FIN : Shared → Prop) : GenEnd := fun n _ r s₁ => r = .ok .next ∧ (n = 0 ∧ FIN s₁)
section
variable {prog : Program} {w : World} {A : Around} {cenv : Env} {I : Addr} {x : Str} {px : Pos} {elt iter : Expr} {n₀ : Nat} {bs : Nat → Bool} {ST : Nat → Shared → Prop} {M1 : Nat → Value → Shared → Prop} {M2 : Nat → Shared → Prop} {FIN : Shared → Prop} {scope : Scope} {pos : Pos}
theorem seg_loopN (hco : cenv.scope.isCoroutine = false) (G : GenN prog w A cenv I x px elt n₀ bs ST M1 M2 FIN) :
    ∀ (k i : Nat) (s₀ s : Shared), n₀ - i = k → i ≤ n₀ → ST i s →
      Seg (model prog w) A (endN FIN) (protoN n₀ bs ST) k s₀
        (.compLoop (.GeneratorExp elt [⟨.Name x px, iter, [], 0⟩] scope pos) 0 (.ref I) .none cenv)
        ((model prog w).den (.compLoop (.GeneratorExp elt [⟨.Name x px, iter, [], 0⟩] scope pos) 0 (.ref I) .none cenv)) [] s := by
  intro k
  induction k with
  | zero =>
    intro i s₀ s hk hi hst
    have hin : i = n₀ := by omega
    subst hin
    show Seg _ A _ _ _ s₀ _ ((compTurn (.GeneratorExp elt [⟨.Name x px, iter, [], 0⟩] scope pos) 0 (.ref I) .none cenv).onRaise (leaving cenv)) [] s
    rw [compTurn_gen, Sem.onRaise_eq_wrap]
    refine seg_bind_wrap (wpAny_standAt ?_)
    refine seg_bind_wrap ?_
    rw [over_comp]
    refine G.done s _ _ hst fun s' hf => ?_
    exact seg_end (.ok .next) ⟨rfl, rfl, hf⟩
  | succ k ih =>
    intro i s₀ s hk hi hst
    have hlt : i < n₀ := by omega
    show Seg _ A _ _ _ s₀ _ ((compTurn (.GeneratorExp elt [⟨.Name x px, iter, [], 0⟩] scope pos) 0 (.ref I) .none cenv).onRaise (leaving cenv)) [] s
    rw [compTurn_gen, Sem.onRaise_eq_wrap]
    refine seg_bind_wrap (wpAny_standAt ?_)
    refine seg_bind_wrap ?_
    rw [over_comp]
    refine G.item i s _ _ hlt hst fun v s1 h1 => ?_
    refine seg_bind_wrap (wpAny_of_eq (rfl : letOwnedTupleGo (.Name x px) (.ref I) v = pure ()) ?_)
    refine seg_bind_wrap ?_
    rw [over_comp]
    refine G.asg i v s1 _ _ h1 fun s2 h2 => ?_
    refine seg_bind_wrap ?_
    simp only [List.forIn_nil]
    refine wpAny_pure ?_
    simp only [if_true]
    have hy : ∀ v, yieldOut cenv v = yieldValue v := fun v => by simp only [yieldOut, hco, Bool.false_eq_true, if_false]
    simp only [hy]
    rw [Sem.bind_eq_wrap', Sem.bind_eq_wrap', Sem.wrap_wrap, Sem.wrap_wrap]
    refine seg_wrap ?_
    rw [over_comp]
    refine G.el i s2 _ _ h2 fun s3 h3 => ?_
    refine seg_at (seg_yield rfl rfl rfl ⟨i, by omega, rfl, h3, fun s'' hal => ?_⟩)
    exact seg_again rfl (ih (i + 1) s'' s'' (by omega) hlt hal)
theorem seg_startN (hco : cenv.scope.isCoroutine = false) (G : GenN prog w A cenv I x px elt n₀ bs ST M1 M2 FIN) (s₀ s : Shared) (hst : ST 0 s) :
    Seg (model prog w) A (endN FIN) (protoN n₀ bs ST) n₀ s₀
      (.compStart (.GeneratorExp elt [⟨.Name x px, iter, [], 0⟩] scope pos) 0 (.ref I) .none cenv)
      ((model prog w).den (.compStart (.GeneratorExp elt [⟨.Name x px, iter, [], 0⟩] scope pos) 0 (.ref I) .none cenv)) [] s := by
  have loop := fun s₀ => seg_loopN (iter := iter) (scope := scope) (pos := pos) hco G n₀ 0 s₀ s (Nat.sub_zero _) (Nat.zero_le _) hst
  show Seg _ A _ _ _ s₀ _ ((compStart (.GeneratorExp elt [⟨.Name x px, iter, [], 0⟩] scope pos) 0 (.ref I) .none cenv).onRaise (leaving cenv)) [] s
  unfold compStart
  rw [Sem.onRaise_eq_wrap]
  show Seg _ A _ _ _ s₀ _ ((ask >>= _).wrap _ _ _ _) [] s
  refine seg_bind_wrap (wpAny_askSetting ?_)
  split
  · exact seg_again rfl (loop s₀)
  · refine seg_bind_wrap (wpAny_rule ?_)
    first
      | (refine seg_bind_wrap (wpAny_standAt ?_)
         refine seg_bind_wrap ?_
         rw [over_start]
         exact G.self s _ _ hst (seg_again rfl (loop s₀)))
      | (show Seg _ A _ _ _ s₀ _ ((standAt iter.pos >>= _).wrap _ _ _ _) [] s
         refine seg_bind_wrap (wpAny_standAt ?_)
         refine seg_bind_wrap ?_
         rw [over_start]
         exact G.self s _ _ hst (seg_again rfl (loop s₀)))
/-- the generator at a stands ahead of its turn i -/
structure AtN (prog : Program) (w : World) (A : Around) (a : Addr) (g n₀ : Nat) (bs : Nat → Bool) (ST : Nat → Shared → Prop) (FIN : Shared → Prop) (i : Nat) (s : Shared) : Prop where
  st : ST i s
  go : ∃ gs, s.gens[g]? = some gs ∧ ∀ s'', ST i s'' → gs.Goes (model prog w) A (endN FIN) (protoN n₀ bs ST) (n₀ - i) (.send .none) s''
/-- what a state word tells of the generator's object -/
structure SideN (a : Addr) (g : Nat) (ST : Nat → Shared → Prop) : Prop where
  gen : ∀ i s, ST i s → s.heap.IsGen a g
  lim : ∀ i s, ST i s → s.heap.NoLimit
  sz : ∀ i s, ST i s → g < s.gens.size
  set : ∀ i s y, y.bare = true → ST i s → ST i (s.setGen g y)
variable {a : Addr} {g : Nat}
theorem nextN_item {i : Nat} {s : Shared} {Q : Option Value → Shared → Prop} {E : Value → Shared → Prop} (hh : A.handled = none) (hroom : A.depth < recursionLimit) (S : SideN a g ST) (hi : i < n₀) (h : AtN prog w A.in1 a g n₀ bs ST FIN i s)
    (hQ : ∀ s', AtN prog w A.in1 a g n₀ bs ST FIN (i + 1) s' → Q (some (.bool (bs i))) s') : wpAny (model prog w) A (pyNext (.ref a)) Q E s := by
  obtain ⟨gs, hgs, hgo⟩ := h.go
  obtain ⟨m, hm⟩ : ∃ m, n₀ - i = m + 1 := ⟨n₀ - i - 1, by omega⟩
  rw [hm] at hgo
  refine wpAny_pyNext_genexpQ (P := fun n _ s₁ => n = 0 ∧ FIN s₁) hh (S.lim _ _ h.st) hroom (S.gen _ _ h.st) hgs (hgo _ (S.set _ _ _ rfl h.st)) (fun v s₁ gs' hb hv => ?_) fun s₁ hp h' hk => absurd hp.1 (Nat.succ_ne_zero m)
  obtain ⟨i', e, rfl, st1, hkap⟩ := hv
  have ei : i' = i := by omega
  subst ei
  refine hQ _ ⟨S.set _ _ _ hb st1, gs', setGen_at (S.sz _ _ st1), fun s'' hal => ?_⟩
  have e2 : n₀ - (i' + 1) = m := by omega
  rw [e2]
  exact hkap s'' hal
theorem nextN_done {s : Shared} {Q : Option Value → Shared → Prop} {E : Value → Shared → Prop} (hh : A.handled = none) (hroom : A.depth < recursionLimit) (S : SideN a g ST) (h : AtN prog w A.in1 a g n₀ bs ST FIN n₀ s)
    (hQ : ∀ s' h', FIN s' → (∀ b o, s'.heap.get? b = some o → h'.get? b = some o) → Q none { s'.setGen g .finished with heap := h' }) : wpAny (model prog w) A (pyNext (.ref a)) Q E s := by
  obtain ⟨gs, hgs, hgo⟩ := h.go
  rw [Nat.sub_self] at hgo
  refine wpAny_pyNext_genexpQ (P := fun n _ s₁ => n = 0 ∧ FIN s₁) hh (S.lim _ _ h.st) hroom (S.gen _ _ h.st) hgs (hgo _ (S.set _ _ _ rfl h.st)) (fun v s₁ gs' hb hv => ?_) fun s₁ hp h' hk => ?_
  · obtain ⟨i', e, rfl, st1, hkap⟩ := hv
    exact False.elim (hkap s₁ st1)
  · exact hQ s₁ h' hp.2 hk
end
end Cl

set_option maxHeartbeats 0
namespace Cl
open PySem PySem.Spec PyProof.Rows L2
open GxR (TabB TabG Tabbed GenS inv_tab sh_eta)
/-- a generator expression's scope: its one name, the hidden one, captured names, globals -/
structure GenK (sc scope : Scope) (x : Str) : Prop where
  kind : scope.kind = .function
  co : scope.isCoroutine = false
  nocell : ∀ y ∈ scope.names, y.2 ≠ .cell
  dot : scope.names.lookup (".0" : Str) = some .local
  own : ∀ y ∈ scope.names, y.2 = .local → y.1 = x ∨ y.1 = ".0"
  par : scope.names.lookup x = some .local
  free : ∀ y ∈ scope.names, y.2 = .free → sc.names.lookup y.1 = some .cell ∨ sc.names.lookup y.1 = some .free
def genKB (sc scope : Scope) (x : Str) : Bool :=
  decide (scope.kind = .function) && (!scope.isCoroutine && (decide (scope.names.lookup (".0" : Str) = some .local) && (decide (scope.names.lookup x = some .local) && scope.names.all fun y => !decide (y.2 = .cell) && ((!decide (y.2 = .local) || (decide (y.1 = x) || decide (y.1 = ".0"))) && (!decide (y.2 = .free) || (decide (sc.names.lookup y.1 = some .cell) || decide (sc.names.lookup y.1 = some .free)))))))
theorem genK_by {sc scope : Scope} {x : Str} (h : genKB sc scope x = true) : GenK sc scope x := by
  unfold genKB at h
  simp only [Bool.and_eq_true, Bool.or_eq_true, Bool.not_eq_true', decide_eq_true_eq, decide_eq_false_iff_not, List.all_eq_true] at h
  obtain ⟨h1, h2, h3, h4, h5⟩ := h
  refine ⟨h1, h2, fun y hy => (h5 y hy).1, h3, fun y hy e => ?_, h4, fun y hy e => ?_⟩
  · rcases (h5 y hy).2.1 with z | z
    · exact absurd e z
    · exact z
  · rcases (h5 y hy).2.2 with z | z
    · exact absurd e z
    · exact z
theorem GenK.has {X : Cx} {scope : Scope} {x : Str} (L : GenK X.env.scope scope x) (ok : X.Ok) : ∀ y ∈ scope.names, y.2 = .free → ∃ c, X.env.cells.lookup y.1 = some c := fun y hy e => by
  rcases L.free y hy e with k | k
  · exact ok.has _ (.inl k)
  · exact ok.has _ (.inr k)
/-- the context of the generator expression's element -/
def genCx (X : Cx) (x : Str) (A : Around) (s1 : Shared) (H1 : Hp) (env : Env) : Cx where
  prog := X.prog
  w := X.w
  K := X.K
  mg := X.mg
  base := X.base
  A := A.deeper env
  N := x :: X.N
  s_0 := s1
  H_0 := H1
  env := env
  outer := X.stack
  stack := env :: X.stack
  ex := []
  fn := fun _ => false
  calm := true
  pn := []
  xe := fun _ _ => False
abbrev gEnv (X : Cx) (scope : Scope) (C : Addr) (code : Value) : Env := genEnv scope (cloFrom X.env.cells scope.names []) C code builtinsNs X.env
section
variable {X : Cx} {pins : List (Addr × Obj)} {σ : L2.St}
theorem gen_start {x : Str} {A : Around} {s1 s4 : Shared} {H1 H4 : Hp} {scope : Scope} {C P : Addr} {code : Value} {pn : List (Addr × Obj)} {m : Str → Option Value} (I : Inv X pins σ H1 s1) (L : GenK X.env.scope scope x) (hf : A.frames = some X.stack) (hd : A.handled = none) (hx : x ∉ X.N) (hdot : (".0" : Str) ∉ X.N)
    (hC : s1.heap.objs.size ≤ C) (hP : ∃ ps, H1 P = some (.tbl ps)) (kp : ∀ b o, b ≠ P → s1.heap.get? b = some o → s4.heap.get? b = some o) (un : Un (frs X.stack) [] H1 H4 s1.heap s4.heap) (hok : HOk X.prog X.w H4 s4.heap) (bare : AllBare s4.gens) (hos : s4.os = s1.os)
    (hns : s4.heap.Ns C m) (hCn : H4 C = none) (hpn : ∀ p ∈ pn, s4.heap.get? p.1 = some p.2 ∧ H4 p.1 = none ∧ p.1 ≠ C ∧ p.1 ∉ frs X.stack ∧ ∀ v, p.2.data ≠ .cell v) :
    Inv (genCx X x A s1 H1 (gEnv X scope C code)) pn (none :: σ) H4 s4 := by
  have hfree := L.has I.ok
  have e0 := I.env0
  obtain ⟨ps, hP⟩ := hP
  have cm : ∀ {y c}, (cloFrom X.env.cells scope.names []).lookup y = some c → X.env.cells.lookup y = some c := fun {y c} e => by
    rcases cloFrom_mem (PySem.mem_of_lookup e) with hm | ⟨h1, h2⟩
    · cases hm
    · obtain ⟨c1, hc⟩ := hfree _ h1 rfl
      have hc : X.env.cells.lookup y = some c1 := hc
      have e2 : c = c1 := by
        rw [h2, hc] <;> rfl
      rw [e2]
      exact hc
  have look : ∀ {y}, scope.names.lookup y = some .free → ∃ c, (cloFrom X.env.cells scope.names []).lookup y = some c := fun {y} hl => by
    have hy : (y, NameKind.free) ∈ scope.names := PySem.mem_of_lookup hl
    exact mem_lookup (cloFrom_has (cells := X.env.cells) (acc := []) hy)
  have nP : ∀ b, H1 b = none → b ≠ P := fun b n z => by rw [z, hP] at n; cases n
  have cellK : ∀ {c : Addr} {v : Option Value}, H1 c = none → s1.heap.IsCell c v → s4.heap.IsCell c v := fun {c v} n ⟨o, ho, hd⟩ => ⟨_, kp _ _ (nP _ n) ho, hd⟩
  have noA : ∀ b : Addr, b ∉ (genCx X x A s1 H1 (gEnv X scope C code)).ex := fun b z => absurd (show b ∈ ([] : List Addr) from z) (by simp)
  refine ⟨⟨e0.mod, L.kind, I.ok.glob, rfl, hC, fun y z c e1 e2 => I.ok.inj y z c (cm e1) (cm e2), fun y hy => ?_, fun y c z _ => ?_, fun _ => hd, Around.frames_deeper hf, .inr ⟨rfl, rfl⟩, fun b z => absurd z (noA b), e0.bs, e0.bsz, fun b _ _ => noA b,
      fun b z => absurd z (noA b), e0.funs, e0.frf⟩,
    hos, bare, un, ⟨_, hns, fun i y v' e1 e2 e3 => ?_⟩, fun y c e => ?_, hCn, fun y c e => ?_, fun q hq => ?_, hok, ?_⟩
  · have hy : scope.names.lookup y = some .cell ∨ scope.names.lookup y = some .free := hy
    rcases hy with hy | hy
    · exact absurd rfl (L.nocell _ (PySem.mem_of_lookup hy))
    · exact look hy
  · have z : false = true := z
    cases z
  · have e3 : Vis scope y := e3
    cases i with
    | zero =>
      have e2 : some (none : Option V) = some (some v') := e2
      cases e2
    | succ i =>
      have e1 : X.N[i]? = some y := e1
      have e2 : σ[i]? = some (some v') := e2
      have hyN := List.mem_of_getElem? e1
      rcases e3 with k | k | k
      · rcases L.own _ (PySem.mem_of_lookup k) rfl with z | z
        · exact absurd (by rw [← show y = x from z]; exact hyN) hx
        · exact absurd (by rw [← show y = ".0" from z]; exact hyN) hdot
      · exact absurd rfl (L.nocell _ (PySem.mem_of_lookup k))
      · obtain ⟨m, hn, hl⟩ := I.loc
        have hvis : Vis X.env.scope y := (L.free _ (PySem.mem_of_lookup k) rfl).elim (fun k => .inr (.inl k)) (fun k => .inr (.inr k))
        obtain ⟨w', r, q⟩ := hl i y v' e1 e2 hvis
        obtain ⟨c2, h2⟩ := look k
        refine ⟨w', r, .inr ⟨.inr k, c2, h2, ?_⟩⟩
        have c1 := cm h2
        rcases q with ⟨k', _⟩ | ⟨_, c3, e', z⟩
        · have k' : X.env.scope.names.lookup y = some .local := k'
          rcases L.free _ (PySem.mem_of_lookup k) rfl with k2 | k2 <;> rw [show X.env.scope.names.lookup y = _ from k2] at k' <;> cases k'
        · rw [c1] at e'
          cases e'
          exact cellK (I.freeC y _ c1) z
  · obtain ⟨w', z⟩ := I.cell y c (cm e)
    exact ⟨w', cellK (I.freeC y c (cm e)) z⟩
  · have n1 := I.freeC y c (cm e)
    obtain ⟨w', z⟩ := I.cell y c (cm e)
    obtain ⟨o, ho, _⟩ := z
    exact un.free c o ho n1 (by simp)
  · have hq : q ∈ pn := hq
    exact hpn q hq
  · show (none :: σ).length = (x :: X.N).length
    rw [List.length_cons, List.length_cons, I.len]
end
end Cl

set_option maxHeartbeats 0
namespace Cl
open PySem PySem.Spec PyProof.Rows L2
open GxR (TabB TabG Tabbed GenS inv_tab sh_eta)
theorem Inv.setGen {X : Cx} {pins : List (Addr × Obj)} {σ : L2.St} {H : Hp} {s : Shared} {g : Nat} {y : GenState} (I : Inv X pins σ H s) (hy : y.bare = true) : Inv X pins σ H (s.setGen g y) :=
  ⟨I.ok, I.os, allBare_setGen I.bare hy, I.base, I.loc, I.cell, I.free, I.freeC, I.pin, I.hok, I.len⟩
/-! ### the states of such a generator -/
def IterO (t : Addr) (i : Nat) (o : Obj) : Prop := o.cls = .type "tuple_iterator" ∧ o.data = .fields #[.ref t, .int (i : Nat) 0]
def GenO (g : Nat) (o : Obj) : Prop := ∃ nm qn, o.cls = .type "generator" ∧ o.data = .fields #[.int (g : Nat) 0, nm, qn] ∧ o.slots = #[]
structure GW (G : Cx) (x : Str) (I a t : Addr) (g : Nat) (xs : List V) (bs : Nat → Bool) (Pv : Nat → Hp → Prop) (tel : TE) (σ : L2.St) : Prop where
  calm : G.calm = true
  nd : G.N.Nodup
  nx : G.N[0]? = some x
  loc : G.env.scope.names.lookup x = some .local
  pn : G.pn = []
  xe : ∀ u s, ¬ G.xe u s
  tup : ∀ i H, Pv i H → SqT G.K H t xs
  I1 : G.s_0.heap.objs.size ≤ I
  I2 : I ≠ G.env.locals
  I3 : ∀ y c, G.env.cells.lookup y = some c → c ≠ I
  I4 : I ∉ G.fs
  I5 : I ≠ a
  el : ∀ i v H, xs[i]? = some v → Pv i H → tel (some v :: σ) H fun y H' => y = .bl (bs i) ∧ Pv (i + 1) H'
section
variable {G : Cx} {x : Str} {I a t : Addr} {g : Nat} {xs : List V} {bs : Nat → Bool} {Pv : Nat → Hp → Prop} {tel : TE} {σ : L2.St}
def gST (G : Cx) (I a t : Addr) (g : Nat) (Pv : Nat → Hp → Prop) (σ : L2.St) (i : Nat) (s : Shared) : Prop :=
  ∃ (H : Hp) (v : Option V) (oI oA : Obj), Inv G [(I, oI), (a, oA)] (v :: σ) H s ∧ Pv i H ∧ IterO t i oI ∧ GenO g oA ∧ g < s.gens.size
def gM1 (G : Cx) (I a t : Addr) (g : Nat) (xs : List V) (Pv : Nat → Hp → Prop) (σ : L2.St) (i : Nat) (u : Value) (s : Shared) : Prop :=
  ∃ (H : Hp) (v : Option V) (w : V) (oI oA : Obj), Inv G [(I, oI), (a, oA)] (v :: σ) H s ∧ Pv i H ∧ xs[i]? = some w ∧ RelV w u ∧ IterO t (i + 1) oI ∧ GenO g oA ∧ g < s.gens.size
def gM2 (G : Cx) (I a t : Addr) (g : Nat) (xs : List V) (Pv : Nat → Hp → Prop) (σ : L2.St) (i : Nat) (s : Shared) : Prop :=
  ∃ (H : Hp) (w : V) (oI oA : Obj), Inv G [(I, oI), (a, oA)] (some w :: σ) H s ∧ Pv i H ∧ xs[i]? = some w ∧ IterO t (i + 1) oI ∧ GenO g oA ∧ g < s.gens.size
def gFIN (G : Cx) (Pv : Nat → Hp → Prop) (σ : L2.St) (n : Nat) (s : Shared) : Prop := ∃ (H : Hp) (v : Option V), Inv G [] (v :: σ) H s ∧ Pv n H
theorem gw_gen {elt : Expr} {px : Pos} {A : Around} (hA : G.A = A.deeper G.env) (hh : A.handled = none) (W : GW G x I a t g xs bs Pv tel σ) (helt : PE G elt tel) :
    GenN G.prog G.w A G.env I x px elt xs.length bs (gST G I a t g Pv σ) (gM1 G I a t g xs Pv σ) (gM2 G I a t g xs Pv σ) (gFIN G Pv σ xs.length) := by
  have pinI : ∀ {oI oA : Obj} {v : Option V} {H : Hp} {s : Shared}, Inv G [(I, oI), (a, oA)] (v :: σ) H s → (s.heap.get? I = some oI ∧ H I = none) ∧ (s.heap.get? a = some oA ∧ H a = none ∧ a ≠ G.env.locals ∧ a ∉ G.fs ∧ ∀ v, oA.data ≠ .cell v) := fun {oI oA v H s} J => by
    have p1 := J.pin (I, oI) (List.mem_append_right _ (by simp))
    have p2 := J.pin (a, oA) (List.mem_append_right _ (by simp))
    exact ⟨⟨p1.1, p1.2.1⟩, p2⟩
  have rest : ∀ {oI oA : Obj} {v : Option V} {H : Hp} {s : Shared}, Inv G [(I, oI), (a, oA)] (v :: σ) H s → Inv G [(a, oA)] (v :: σ) H s := fun {oI oA v H s} J => J.pins_of fun p hp => by
    rw [List.mem_singleton.mp hp]
    exact (pinI J).2
  have turn : ∀ {oI oA : Obj} {v : Option V} {H : Hp} {s : Shared} {h' : Heap} {tk : Nat}, Inv G [(I, oI), (a, oA)] (v :: σ) H s → (∀ b o, b ∉ [I] → s.heap.get? b = some o → h'.get? b = some o) → Inv G [(a, oA)] (v :: σ) H { s with heap := h', toks := tk } := fun {oI oA v H s h' tk} J k =>
    (rest J).turned (it := I) (fun b o hb e => k b o (by simpa using hb) e) (pinI J).1.2 W.I2 (.inr W.I1) W.I3 fun p hp => by
      rw [W.pn] at hp
      rw [List.mem_singleton.mp hp]
      exact fun z => W.I5 z.symm
  have walk : ∀ {oI oA : Obj} {v : Option V} {H : Hp} {s : Shared} {i : Nat}, Inv G [(I, oI), (a, oA)] (v :: σ) H s → Pv i H → IterO t i oI → ∃ its : List Value, Vals xs its ∧ its.toArray.size = xs.length ∧ Walks G.prog G.w (A.deeper G.env) I [I, t] [I] its.toArray.size (fun i v => its.toArray[i]? = some v) (fun i h => h.IsTupleIter I t i ∧ h.IsTuple t its.toArray) ∧ s.heap.IsTupleIter I t i ∧ s.heap.IsTuple t its.toArray := fun {oI oA v H s i} J p hI => by
    obtain ⟨its, rv, tup, hz⟩ := J.tuple (W.tup i H p)
    have e1 := (pinI J).1.1
    have ne : t ≠ I := fun z => by
      obtain ⟨o, e2, e3, _⟩ := id tup
      rw [z, e1] at e2
      cases e2
      rw [hI.1] at e3
      exact absurd (Value.type.inj e3) (by decide)
    exact ⟨its, rv, by rw [List.size_toArray]; exact rv.length.symm, Walks.tuple (prog := G.prog) (w := G.w) (A := A.deeper G.env) (show (A.deeper G.env).handled = none from hh) I t ne its.toArray, ⟨oI, e1, hI.1, hI.2⟩, tup⟩
  refine ⟨fun i s Q E hi st hQ => ?_, fun i v s Q E h hQ => ?_, fun i s Q E h hQ => ?_, fun s Q E st hQ => ?_, fun s Q E st hQ => ?_⟩
  · obtain ⟨H, v, oI, oA, J, p, hI, hA, hg⟩ := st
    obtain ⟨its, rv, sz, Wk, d1, d2⟩ := walk J p hI
    refine Wk.item i s Q E (by rw [sz]; exact hi) ⟨d1, d2⟩ fun u h' tk hP st' hk => hQ u _ ?_
    have hu : its[i]? = some u := by simpa using hP
    obtain ⟨w, hw⟩ : ∃ w, xs[i]? = some w := ⟨_, List.getElem?_eq_getElem hi⟩
    obtain ⟨u', ev, rel⟩ := rv.get hw
    obtain rfl : u' = u := Option.some.inj (ev.symm.trans hu)
    obtain ⟨oI', g1, g2, g3⟩ := st'.1
    have J1 : Inv G [(a, oA)] (v :: σ) H { s with heap := h', toks := tk } := turn J hk
    refine ⟨H, v, w, oI', oA, J1.pins_of fun q hq => ?_, p, hw, rel, ⟨g2, g3⟩, hA, hg⟩
    rcases List.mem_cons.mp hq with rfl | hq
    · exact ⟨g1, (pinI J).1.2, W.I2, W.I4, fun v z => by rw [g3] at z; cases z⟩
    · rw [List.mem_singleton.mp hq]
      exact J1.pin (a, oA) (List.mem_append_right _ (by simp))
  · obtain ⟨H, v0, w, oI, oA, J, p, hw, rel, hI, hA2, hg⟩ := h
    refine GenW.wpAny_gsz (n := g + 1) hg ?_
    rw [← hA]
    refine wpAny_mono ((pg_name (X := G) (i := 0) W.nd W.nx (.inl W.loc) (.inr W.loc)).run _ s _ H w v (fun σ' H' => σ' = some w :: σ ∧ H' = H) J rel ⟨rfl, rfl⟩) (fun _ s' hs hsz => ?_) fun u s' hs => absurd hs (W.xe u s')
    obtain ⟨σ', H', J', rfl, rfl⟩ := hs
    exact hQ s' ⟨_, w, oI, oA, J', p, hw, hI, hA2, hsz⟩
  · obtain ⟨H, w, oI, oA, J, p, hw, hI, hA2, hg⟩ := h
    refine GenW.wpAny_gsz (n := g + 1) hg ?_
    rw [← hA]
    refine wpAny_mono (helt.run _ s _ H _ J (W.el i w H hw p)) (fun u s' hs hsz => ?_) fun u s' hs => absurd hs (W.xe u s')
    obtain ⟨y, H', J', r, rfl, p'⟩ := hs
    obtain rfl : u = Value.bool (bs i) := r
    exact hQ s' ⟨H', _, oI, oA, J', p', hI, hA2, hsz⟩
  · obtain ⟨H, v, oI, oA, J, p, hI, hA2, hg⟩ := st
    obtain ⟨its, rv, sz, Wk, d1, d2⟩ := walk J p hI
    rw [← sz] at d1
    refine Wk.done s Q E ⟨d1, d2⟩ fun h' tk hk => hQ _ ⟨H, v, ?_, p⟩
    have J1 : Inv G [(a, oA)] (v :: σ) H { s with heap := h', toks := tk } := turn J hk
    exact J1.pins_of fun q hq => nomatch hq
  · obtain ⟨H, v, oI, oA, J, p, hI, hA2, hg⟩ := st
    obtain ⟨its, rv, sz, Wk, d1, d2⟩ := walk J p hI
    exact Wk.self 0 s Q E ⟨d1, d2⟩ hQ
theorem gw_side : SideN a g (gST G I a t g Pv σ) where
  gen := fun i s ⟨H, v, oI, oA, J, _, _, ⟨nm, qn, h1, h2, h3⟩, _⟩ => ⟨oA, nm, qn, (J.pin (a, oA) (List.mem_append_right _ (by simp))).1, h1, h2, h3⟩
  lim := fun i s ⟨H, v, oI, oA, J, _⟩ => J.nolimit
  sz := fun i s ⟨_, _, _, _, _, _, _, _, h⟩ => h
  set := fun i s y hy ⟨H, v, oI, oA, J, p, hI, hA, hg⟩ => ⟨H, v, oI, oA, Inv.setGen J hy, p, hI, hA, by rw [GenW.setGen_size]; exact hg⟩
end
/-! ### the loops of all and any over it -/
section
variable {prog : Program} {w : World} {A : Around} {a : Addr} {g n₀ : Nat} {bs : Nat → Bool} {ST : Nat → Shared → Prop} {FIN : Shared → Prop} {R : Result → Shared → Prop}
theorem all_loopN (hh : A.handled = none) (hroom : A.depth < recursionLimit) (S : SideN a g ST) : ∀ (k i : Nat) (s : Shared), n₀ - i = k → i ≤ n₀ → AtN prog w A.in1.in1 a g n₀ bs ST FIN i s → (∀ j, j < i → bs j = true) →
    (∀ i s', i < n₀ → bs i = false → ST (i + 1) s' → R (.ok (.ret (.bool false))) s') →
    (∀ s' h', (∀ j, j < n₀ → bs j = true) → FIN s' → (∀ b o, s'.heap.get? b = some o → h'.get? b = some o) → R (.ok (.ret (.bool true))) { s'.setGen g .finished with heap := h' }) →
    codeAny (model prog w) A (.builtin "all.loop" ⟨[.ref a], []⟩) R s := by
  intro k
  induction k with
  | zero =>
    intro i s hk hi h pre r1 r2
    have hin : i = n₀ := by omega
    subst hin
    refine codeAny_builtin F.entry_all_loop ?_
    rw [Around.under_plainId F.plain_all_loop _]
    show wpAny _ A.in1 (pyNext (.ref a) >>= _) _ _ s
    refine wpAny_bind (nextN_done (A := A.in1) hh hroom S h fun s' h' hf hk => ?_)
    exact wpAny_bind (wpAny_rule (wpAny_pure (r2 s' h' pre hf hk)))
  | succ k ih =>
    intro i s hk hi h pre r1 r2
    have hlt : i < n₀ := by omega
    refine codeAny_builtin F.entry_all_loop ?_
    rw [Around.under_plainId F.plain_all_loop _]
    show wpAny _ A.in1 (pyNext (.ref a) >>= _) _ _ s
    refine wpAny_bind (nextN_item (A := A.in1) hh hroom S hlt h fun s' h' => ?_)
    refine wpAny_bind (wpAny_holding (wpAny_truthy_bool ?_))
    refine wpAny_bind (wpAny_letGo ?_)
    cases hb : bs i with
    | true =>
      simp only [if_true]
      exact wpAny_pure ⟨plainId_quiet F.plain_all_loop _, ih (i + 1) _ (by omega) hlt h' (fun j hj => by
        by_cases e : j = i
        · rw [e, hb]
        · exact pre j (by omega)) r1 r2⟩
    | false =>
      simp only [Bool.false_eq_true, if_false]
      exact wpAny_bind (wpAny_rule (wpAny_pure (r1 i s' hlt hb h'.st)))
theorem any_loopN (hh : A.handled = none) (hroom : A.depth < recursionLimit) (S : SideN a g ST) : ∀ (k i : Nat) (s : Shared), n₀ - i = k → i ≤ n₀ → AtN prog w A.in1.in1 a g n₀ bs ST FIN i s → (∀ j, j < i → bs j = false) →
    (∀ i s', i < n₀ → bs i = true → ST (i + 1) s' → R (.ok (.ret (.bool true))) s') →
    (∀ s' h', (∀ j, j < n₀ → bs j = false) → FIN s' → (∀ b o, s'.heap.get? b = some o → h'.get? b = some o) → R (.ok (.ret (.bool false))) { s'.setGen g .finished with heap := h' }) →
    codeAny (model prog w) A (.builtin "any.loop" ⟨[.ref a], []⟩) R s := by
  intro k
  induction k with
  | zero =>
    intro i s hk hi h pre r1 r2
    have hin : i = n₀ := by omega
    subst hin
    refine codeAny_builtin F.entry_any_loop ?_
    rw [Around.under_plainId F.plain_any_loop _]
    show wpAny _ A.in1 (pyNext (.ref a) >>= _) _ _ s
    refine wpAny_bind (nextN_done (A := A.in1) hh hroom S h fun s' h' hf hk => ?_)
    exact wpAny_bind (wpAny_rule (wpAny_pure (r2 s' h' pre hf hk)))
  | succ k ih =>
    intro i s hk hi h pre r1 r2
    have hlt : i < n₀ := by omega
    refine codeAny_builtin F.entry_any_loop ?_
    rw [Around.under_plainId F.plain_any_loop _]
    show wpAny _ A.in1 (pyNext (.ref a) >>= _) _ _ s
    refine wpAny_bind (nextN_item (A := A.in1) hh hroom S hlt h fun s' h' => ?_)
    refine wpAny_bind (wpAny_holding (wpAny_truthy_bool ?_))
    refine wpAny_bind (wpAny_letGo ?_)
    cases hb : bs i with
    | false =>
      simp only [Bool.false_eq_true, if_false]
      exact wpAny_pure ⟨plainId_quiet F.plain_any_loop _, ih (i + 1) _ (by omega) hlt h' (fun j hj => by
        by_cases e : j = i
        · rw [e, hb]
        · exact pre j (by omega)) r1 r2⟩
    | true =>
      simp only [if_true]
      exact wpAny_bind (wpAny_rule (wpAny_pure (r1 i s' hlt hb h'.st)))
end
end Cl

set_option maxHeartbeats 0
namespace Cl
open PySem PySem.Spec PyProof.Rows L2
open GxR (TabB TabG Tabbed GenS inv_tab sh_eta)
/-- all(elt for x in t), any(..), t a tuple: by a word on the heaps ahead of each turn -/
def tAllN (K : PySem.W.Frag) (P : Addr) (stop : Bool) (te tel : TE) : TE := fun σ H Q => te σ H fun v H1 => ∃ (t : Addr) (xs : List V) (bs : Nat → Bool) (Pv : Nat → Hp → Prop), v = .ref t ∧ SqT K H1 t xs ∧ TabG H1 P ∧
  (∀ i H, Pv i H → SqT K H t xs) ∧ (∀ H2, Same H1 H2 → TabG H2 P → Pv 0 H2) ∧
  (∀ i x H2, xs[i]? = some x → Pv i H2 → tel (some x :: σ) H2 fun y H3 => y = .bl (bs i) ∧ Pv (i + 1) H3) ∧
  (∀ i H2, i < xs.length → bs i = stop → Pv (i + 1) H2 → Q (.bl stop) H2) ∧ (∀ H2, (∀ i, i < xs.length → bs i = !stop) → Pv xs.length H2 → Q (.bl (!stop)) H2)
section
variable {X : Cx}
theorem gen_core {c P : Addr} {elt iter : Expr} {x : Str} {px gpos : Pos} {scope : Scope} {tel : TE} {k : Nat} {pins : List (Addr × Obj)} {σ : L2.St} {s1 : Shared} {H1 : Hp} {t : Addr} {xs : List V} {bs : Nat → Bool} {Pv : Nat → Hp → Prop} {Q' : Value → Shared → Prop}
    (hr : RG (k + 2) X.A) (TB : TabB X.base X.mg c P) (hcode : X.env.code = .ref c) (L : GenK X.env.scope scope x) (hx : x ∉ X.N) (hdot : (".0" : Str) ∉ X.N) (hN : X.N.Nodup)
    (helt : ∀ (s1 : Shared) (H1 : Hp) (C : Addr) (code : Value), RG k (X.A.in1.in1.deeper (gEnv X scope C code)) → PE (genCx X x X.A.in1.in1 s1 H1 (gEnv X scope C code)) elt tel)
    (I1 : Inv X pins σ H1 s1) (hS : SqT X.K H1 t xs) (hT : TabG H1 P) (hpt : ∀ i H, Pv i H → SqT X.K H t xs) (hp0 : ∀ H2, Same H1 H2 → TabG H2 P → Pv 0 H2)
    (hpe : ∀ i x H2, xs[i]? = some x → Pv i H2 → tel (some x :: σ) H2 fun y H3 => y = .bl (bs i) ∧ Pv (i + 1) H3)
    (hQ : ∀ (a : Addr) (g : Nat) (s5 : Shared) (ST : Nat → Shared → Prop) (FIN : Shared → Prop), s5.heap.IsGen a g → SideN a g ST → AtN X.prog X.w X.A.in1.in1 a g xs.length bs ST FIN 0 s5 →
      (∀ i s', ST i s' → ∃ H', (Pv i H') ∧ ∀ (b : Bool) (Q : VK), Q (.bl b) H' → EP X pins σ Q (.bool b) s') →
      (∀ s' h', FIN s' → (∀ b o, s'.heap.get? b = some o → h'.get? b = some o) → ∃ H', (Pv xs.length H') ∧ ∀ (b : Bool) (Q : VK), Q (.bl b) H' → EP X pins σ Q (.bool b) { s'.setGen g .finished with heap := h' }) → Q' (.ref a) s5) :
    wpAny (model X.prog X.w) X.A (pyIter (.ref t)) (fun it s₂ => s₂.heap.NoLimit ∧
      wpAny (model X.prog X.w) X.A (genexprCode X.env gpos (X.env.qual ++ "<genexpr>") scope) (fun code s₃ => wpAny (model X.prog X.w) X.A (builtinsFor X.env.globals X.env.builtins) (fun bi s₄ =>
        ∀ h', h'.Ns s₄.heap.objs.size (fun y => if y = ".0" then some it else none) → Heap.SameBut s₄.heap.objs.size (s₄.heap.push { cls := .type "frame", data := .dict #[] }) h' →
          Q' (.ref h'.objs.size) { s₄ with
            gens := s₄.gens.push (.fresh (.compStart (.GeneratorExp elt [⟨.Name x px, iter, [], 0⟩] scope gpos) 0 it .none (genEnv scope (cloFrom X.env.cells scope.names []) s₄.heap.objs.size code bi X.env))),
            toks := s₄.toks + 1 + 1 + 1,
            heap := h'.push { cls := .type "generator", data := .fields #[.int s₄.gens.size 0, .str "<genexpr>" (s₄.toks + 1), .str (X.env.qual ++ "<genexpr>") (s₄.toks + 1 + 1)] } }) X.xe s₃) X.xe s₂) X.xe s1 := by
  obtain ⟨ps, hP, ht⟩ := id hT
  obtain ⟨its, rv, tup, hz⟩ := I1.tuple hS
  refine wpAny_pyIter_tuple tup ?_
  have hPs : s1.heap.get? P = some { cls := .none, data := .fields ps } := I1.hok P _ hP
  have hPlt : P < s1.heap.objs.size := Heap.lt_size hPs
  generalize hito : ({ cls := .type "tuple_iterator", data := .fields #[.ref t, .int 0 0] } : Obj) = ito
  have hP2 : (s1.heap.push ito).get? P = some { cls := .none, data := .fields ps } := Heap.get?_push_of_some _ hPs
  have cd : PySem.W.CodeHd (s1.heap.push ito) c P := TB.code.keeps fun b u e => Heap.get?_push_of_some _ (I1.bk b u e)
  have lim2 : (s1.heap.push ito).NoLimit := I1.nolimit.push ito
  have sz2 : (s1.heap.push ito).objs.size = s1.heap.objs.size + 1 := Heap.size_push ..
  have cont : ∀ (code : Value) (h3 : Heap) (tk : Nat) (ps' : Array Value), Heap.ExtBut P (s1.heap.push ito) h3 → (s1.heap.push ito).objs.size ≤ h3.objs.size → h3.get? P = some { cls := .none, data := .fields ps' } → (∃ more, ps' = ps ++ more) → TriplesOk ps'.toList →
      wpAny (model X.prog X.w) X.A (builtinsFor X.env.globals X.env.builtins) (fun bi s₄ =>
        ∀ h', h'.Ns s₄.heap.objs.size (fun y => if y = ".0" then some (.ref s1.heap.objs.size) else none) → Heap.SameBut s₄.heap.objs.size (s₄.heap.push { cls := .type "frame", data := .dict #[] }) h' →
          Q' (.ref h'.objs.size) { s₄ with
            gens := s₄.gens.push (.fresh (.compStart (.GeneratorExp elt [⟨.Name x px, iter, [], 0⟩] scope gpos) 0 (.ref s1.heap.objs.size) .none (genEnv scope (cloFrom X.env.cells scope.names []) s₄.heap.objs.size code bi X.env))),
            toks := s₄.toks + 1 + 1 + 1,
            heap := h'.push { cls := .type "generator", data := .fields #[.int s₄.gens.size 0, .str "<genexpr>" (s₄.toks + 1), .str (X.env.qual ++ "<genexpr>") (s₄.toks + 1 + 1)] } }) X.xe { s1 with heap := h3, toks := tk } := by
    intro code h3 tk ps' hx3 hsz hP3 hmore ht3
    obtain ⟨bm, ob, e1, e2, e3, e4, e5, e6, e7, e8⟩ := TB.bm
    have keep3 : ∀ b u, b ≠ P → s1.heap.get? b = some u → h3.get? b = some u := fun b u hb e => hx3 b u hb (Heap.get?_push_of_some _ e)
    refine wpAny_builtinsFor (m := X.mg) (by rw [I1.ok.glob]; exact ((I1.mod.glob.keeps I1.bk).push ito).extBut hx3 TB.gP) e1 e2 (keep3 _ _ e4 (I1.bk _ _ e5)) e6 e7 e8 ?_
    intro h4 hns4 hsb4
    show Q' (.ref h4.objs.size) _
    have hC4 : h4.objs.size = h3.objs.size + 1 := by rw [hsb4.1, Heap.size_push]
    obtain ⟨more, em⟩ := hmore
    subst em
    have nP : ∀ b, H1 b = none → b ≠ P := fun b n z => by rw [z, hP] at n; cases n
    have keep4 : ∀ b u, b ≠ P → s1.heap.get? b = some u → h4.get? b = some u := fun b u hb e => hsb4.extBut b u (Nat.ne_of_lt (Nat.lt_of_lt_of_le (Heap.lt_size e) (Nat.le_trans (by rw [sz2]; exact Nat.le_succ _) hsz))) (Heap.get?_push_of_some _ (keep3 b u hb e))
    have hP4 : h4.get? P = some { cls := .none, data := .fields (ps ++ more) } := hsb4.extBut P _ (Nat.ne_of_lt (Nat.lt_of_lt_of_le hPlt (Nat.le_trans (by rw [sz2]; exact Nat.le_succ _) hsz))) (Heap.get?_push_of_some _ hP3)
    have hI4 : h4.get? s1.heap.objs.size = some ito := hsb4.extBut _ _ (Nat.ne_of_lt (Nat.lt_of_lt_of_le (by rw [sz2]; exact Nat.lt_succ_self _) hsz)) (Heap.get?_push_of_some _ (hx3 _ _ (fun z => Nat.ne_of_lt hPlt z.symm) (Heap.get?_push_size _ (by rw [← hito]; rfl))))
    generalize hgo : ({ cls := .type "generator", data := .fields #[.int s1.gens.size 0, .str "<genexpr>" (tk + 1), .str (X.env.qual ++ "<genexpr>") (tk + 1 + 1)] } : Obj) = go
    have hA5 : (h4.push go).get? h4.objs.size = some go := Heap.get?_push_size _ (by rw [← hgo]; rfl)
    have keep5 : ∀ b u, b ≠ P → s1.heap.get? b = some u → (h4.push go).get? b = some u := fun b u hb e => Heap.get?_push_of_some _ (keep4 b u hb e)
    have hP5 : (h4.push go).get? P = some { cls := .none, data := .fields (ps ++ more) } := Heap.get?_push_of_some _ hP4
    have hI5 : (h4.push go).get? s1.heap.objs.size = some ito := Heap.get?_push_of_some _ hI4
    generalize hgs : (GenState.fresh (.compStart (.GeneratorExp elt [⟨.Name x px, iter, [], 0⟩] scope gpos) 0 (.ref s1.heap.objs.size) .none (gEnv X scope h3.objs.size code))) = gs
    have gb : gs.bare = true := by rw [← hgs]; rfl
    have J := inv_tab (more := more) (h' := h4.push go) (g' := s1.gens.push gs) (d' := s1.drawn) (t' := tk + 1 + 1 + 1) I1 hP keep5 hP5 (I1.bare.push gb)
    have fresh : ∀ b, s1.heap.objs.size ≤ b → b ≠ P → upd H1 P (.tbl (ps ++ more)) b = none := fun b hb n => by rw [upd_ne n]; exact I1.hok.fresh hb
    have neP : ∀ b, s1.heap.objs.size ≤ b → b ≠ P := fun b hb z => by rw [z] at hb; exact absurd hPlt (Nat.not_lt.mpr hb)
    have noStk : ∀ b, s1.heap.objs.size ≤ b → b ∉ frs X.stack := fun b hb z => by
      rcases List.mem_cons.mp (I1.stkSub b z) with e | z
      · rw [e] at hb; exact absurd I1.lt (Nat.not_lt.mpr hb)
      · exact I1.nofs hb z
    have lI : s1.heap.objs.size ≤ s1.heap.objs.size := Nat.le_refl _
    have lC : s1.heap.objs.size ≤ h3.objs.size := Nat.le_trans (by rw [sz2]; exact Nat.le_succ _) hsz
    have lC2 : s1.heap.objs.size < h3.objs.size := Nat.lt_of_lt_of_le (by rw [sz2]; exact Nat.lt_succ_self _) hsz
    have lA : s1.heap.objs.size ≤ h4.objs.size := by rw [hC4]; exact Nat.le_trans lC (Nat.le_succ _)
    have un : Un (frs X.stack) [] H1 (upd H1 P (.tbl (ps ++ more))) s1.heap (h4.push go) := by
      have at_ : ∀ b, b ≠ P → upd H1 P (.tbl (ps ++ more)) b = H1 b := fun b h => upd_ne h
      have nQ : ∀ b u, H1 b = some u → (∀ q, u ≠ .tbl q) → b ≠ P := fun b u e q z => by
        rw [z, hP] at e
        exact q _ (Option.some.inj e).symm
      refine ⟨fun b o e n _ _ => keep5 b o (nP b n) e, fun b o e n _ _ => ⟨o.slots, keep5 b o (nP b n) e⟩, fun b o _ n _ => by rw [at_ b (nP b n)]; exact n, fun b o e _ => ?_, fun b ys e => by rw [at_ b (nQ b _ e fun q z => nomatch z)]; exact e, fun b o u e => by rw [at_ b (nQ b _ e fun q z => nomatch z)]; exact e, fun b qs e => ?_⟩
      · by_cases hb : b = P
        · rw [hb]; exact ⟨_, hP5⟩
        · exact ⟨o, keep5 b o hb e⟩
      · by_cases hb : b = P
        · rw [hb, hP] at e
          cases e
          exact ⟨more, by rw [hb, upd_same]⟩
        · exact ⟨#[], by rw [at_ b hb, e]; simp⟩
    have St := gen_start (C := h3.objs.size) (P := P) (code := code) (m := fun y => if y = ".0" then some (.ref s1.heap.objs.size) else none) (A := X.A.in1.in1) (s4 := { s1 with heap := h4.push go, gens := s1.gens.push gs, drawn := s1.drawn, toks := tk + 1 + 1 + 1 }) (pn := [(s1.heap.objs.size, ito), (h4.objs.size, go)]) I1 L I1.ok.frames hr.room.hd hx hdot lC ⟨ps, hP⟩ keep5 un J.hok J.bare rfl
      (hns4.push _) (fresh _ lC (neP _ lC)) (fun p hp => by
        rcases List.mem_cons.mp hp with rfl | hp
        · exact ⟨hI5, fresh _ lI (neP _ lI), Nat.ne_of_lt lC2, noStk _ lI, fun v z => by rw [← hito] at z; cases z⟩
        · rw [List.mem_singleton.mp hp]
          exact ⟨hA5, fresh _ lA (neP _ lA), by show h4.objs.size ≠ h3.objs.size; rw [hC4]; exact Nat.succ_ne_self _, noStk _ lA, fun v z => by rw [← hgo] at z; cases z⟩)
    have tb : Tabbed P H1 (upd H1 P (.tbl (ps ++ more))) := ⟨⟨ps ++ more, upd_same, ht3⟩, fun b hb => upd_ne hb⟩
    have sm := Same.tabbed hT tb
    have celI : ∀ y c, (cloFrom X.env.cells scope.names []).lookup y = some c → c ≠ s1.heap.objs.size := fun y c e z => by
      have hfree := L.has I1.ok
      have e2 : X.env.cells.lookup y = some c := by
        rcases cloFrom_mem (PySem.mem_of_lookup e) with hm | ⟨h1, h2⟩
        · cases hm
        · obtain ⟨c1, hc⟩ := hfree _ h1 rfl
          have hc : X.env.cells.lookup y = some c1 := hc
          have e2 : c = c1 := by rw [h2, hc] <;> rfl
          rw [e2]
          exact hc
      obtain ⟨v, q⟩ := I1.cell y c e2
      have := q.lt
      rw [z] at this
      exact Nat.lt_irrefl _ this
    have hrG : RG k (X.A.in1.in1.deeper (gEnv X scope h3.objs.size code)) := ⟨⟨hr.room.hd, by have := hr.room.dp; show X.A.depth + 1 + 3 * k + 5 < _; omega, by have := hr.room.un; show X.A.units + 1 + 1 + 3 + 16 * k + 200 < _; omega⟩, hr.gd⟩
    have GWw : GW (genCx X x X.A.in1.in1 s1 H1 (gEnv X scope h3.objs.size code)) x s1.heap.objs.size h4.objs.size t s1.gens.size xs bs Pv tel σ := by
      refine ⟨rfl, List.nodup_cons.mpr ⟨hx, hN⟩, rfl, L.par, rfl, fun u s z => z, hpt, lI, Nat.ne_of_lt lC2, celI, noStk _ lI, Nat.ne_of_lt (by rw [hC4]; exact Nat.lt_succ_of_lt lC2), fun i v H hv p => hpe i v H hv p⟩
    have GG := gw_gen (px := px) (elt := elt) (A := X.A.in1.in1) (by rfl) hr.room.hd GWw (helt s1 H1 _ _ hrG)
    have eC : s1.gens.push gs = s1.gens.push gs := rfl
    have p0 : Pv 0 (upd H1 P (.tbl (ps ++ more))) := hp0 _ sm tb.1
    have st0 : gST (genCx X x X.A.in1.in1 s1 H1 (gEnv X scope h3.objs.size code)) s1.heap.objs.size h4.objs.size t s1.gens.size Pv σ 0 { s1 with heap := h4.push go, gens := s1.gens.push gs, drawn := s1.drawn, toks := tk + 1 + 1 + 1 } :=
      ⟨_, none, ito, go, St, p0, by rw [← hito]; exact ⟨rfl, rfl⟩, by rw [← hgo]; exact ⟨_, _, rfl, rfl, rfl⟩, by show s1.gens.size < (s1.gens.push gs).size; rw [Array.size_push]; exact Nat.lt_succ_self _⟩
    have side := gw_side (G := genCx X x X.A.in1.in1 s1 H1 (gEnv X scope h3.objs.size code)) (I := s1.heap.objs.size) (a := h4.objs.size) (t := t) (g := s1.gens.size) (Pv := Pv) (σ := σ)
    have back : ∀ {pn : List (Addr × Obj)} {v : Option V} {H : Hp} {s' : Shared}, Inv (genCx X x X.A.in1.in1 s1 H1 (gEnv X scope h3.objs.size code)) pn (v :: σ) H s' → ∀ (b : Bool) (Q : VK), Q (.bl b) H → EP X pins σ Q (.bool b) s' := fun {pn v H s'} J b Q q =>
      I1.after ⟨.bl b, H, J.os, J.bare, J.base, J.hok, rfl, q⟩
    have out1 : ∀ i s', gST (genCx X x X.A.in1.in1 s1 H1 (gEnv X scope h3.objs.size code)) s1.heap.objs.size h4.objs.size t s1.gens.size Pv σ i s' → ∃ H', (Pv i H') ∧ ∀ (b : Bool) (Q : VK), Q (.bl b) H' → EP X pins σ Q (.bool b) s' :=
      fun i s' ⟨H', v, oI, oA, J', p, _⟩ => ⟨H', p, fun b Q q => back J' b Q q⟩
    have out2 : ∀ s' h', gFIN (genCx X x X.A.in1.in1 s1 H1 (gEnv X scope h3.objs.size code)) Pv σ xs.length s' → (∀ b o, s'.heap.get? b = some o → h'.get? b = some o) → ∃ H', (Pv xs.length H') ∧ ∀ (b : Bool) (Q : VK), Q (.bl b) H' → EP X pins σ Q (.bool b) { s'.setGen s1.gens.size .finished with heap := h' } :=
      fun s' h' ⟨H', v, J', p⟩ k => ⟨H', p, fun b Q q => back (Inv.kept (t' := s'.toks) (Inv.setGen (g := s1.gens.size) (y := .finished) J' rfl) k) b Q q⟩
    refine hQ h4.objs.size s1.gens.size _ _ _ (side.gen 0 _ st0) side ⟨st0, gs, Array.getElem?_push_size .., fun s'' hal => ?_⟩ out1 out2
    rw [← hgs]
    exact ⟨rfl, by rw [Nat.sub_zero]; exact seg_startN (iter := iter) (scope := scope) (pos := gpos) L.co GG s'' s'' hal⟩
  refine ⟨lim2, ?_⟩
  cases hf : codeAmong gpos ps.toList with
  | none =>
    refine wpAny_genexprCodeX hcode (cd.code hP2 ht) (cd.tab hP2) hf fun c' h' tk hx hge hlt hco' _ htab' _ => ?_
    obtain ⟨o1, vs, f1, tf, fl, tg, inF, tx, tt, op, _, _, _, _, _, _, _, _, _, htr, _⟩ := hco'
    exact cont _ h' tk _ hx (Nat.le_trans hge (Nat.le_of_lt hlt)) htab'.2 ⟨_, rfl⟩ htr
  | some cv =>
    refine wpAny_genexprCode_hit hcode (cd.code hP2 ht) hf ?_
    exact cont cv (s1.heap.push ito) s1.toks ps (Heap.ExtBut.refl _ _) (Nat.le_refl _) hP2 ⟨#[], by simp⟩ ht
theorem pe_allN {c P : Addr} {elt iter : Expr} {x : Str} {px p pos gpos : Pos} {scope : Scope} {te tel : TE} {k : Nat}
    (hr : RG (k + 2) X.A) (hg : Gl X "all") (hm : X.mg "all" = none) (TB : TabB X.base X.mg c P) (hcode : X.env.code = .ref c) (L : GenK X.env.scope scope x) (hx : x ∉ X.N) (hdot : (".0" : Str) ∉ X.N) (hN : X.N.Nodup) (hi : PE X iter te)
    (helt : ∀ (s1 : Shared) (H1 : Hp) (C : Addr) (code : Value), RG k (X.A.in1.in1.deeper (gEnv X scope C code)) → PE (genCx X x X.A.in1.in1 s1 H1 (gEnv X scope C code)) elt tel)
    (hs : ∀ v, genFold iter X.env v = pure v := by intro _; rfl)
    (he : starEach [.GeneratorExp elt [⟨.Name x px, iter, [], 0⟩] scope gpos] X.env = (false, eval (.GeneratorExp elt [⟨.Name x px, iter, [], 0⟩] scope gpos) X.env) :: starEach [] X.env := by rfl) :
    PE X (.Call (.Name "all" p) [.GeneratorExp elt [⟨.Name x px, iter, [], 0⟩] scope gpos] [] pos) (tAllN X.K P false te tel) := by
  refine ⟨fun pins s σ H Q I h => ?_⟩
  refine wpAny_Call_Name_kw (ld_blt I hg hm PyProof.Rows.boot_all ?_)
  refine PyProof.Rows.callWith_builtin1 ?_ he (by rfl)
  rw [he]
  show wpAny _ _ (spliced ((false, eval (.GeneratorExp elt [⟨.Name x px, iter, [], 0⟩] scope gpos) X.env) :: backTo pos (starEach [] X.env))) _ _ s
  refine Calls.spliced_cons ?_
  refine wpAny_GeneratorExp_make L.co (closure_ok (L.has I.ok)) L.nocell L.dot L.kind (by have := hr.room.dp; omega) ?_ hs
  refine thn (hi.run pins s σ H _ I h) fun xv s1 ⟨v, H1, I1, r1, q1⟩ => ?_
  obtain ⟨t, xs, bs, Pv, rfl, hS, hT, hpt, hp0, hpe, q2, q3⟩ := q1
  cases r1
  refine gen_core (gpos := gpos) (px := px) (iter := iter) (x := x) (elt := elt) (scope := scope) (Q' := fun v s' => wpAny (model X.prog X.w) X.A (spliced (backTo pos (starEach [] X.env))) (fun vs s2 => wpAny (model X.prog X.w) X.A (call (.builtin "all") (v :: vs)) (EP X pins σ Q) X.xe s2) X.xe s') hr TB hcode L hx hdot hN helt I1 hS hT hpt hp0 hpe fun a g s5 ST FIN hgen side at_ out1 out2 => ?_
  refine Calls.spliced_nil ?_
  refine call_function_tree PySem.F.kind_all PySem.F.plain_all PySem.F.entry_all (PySem.F.args_all1 _) ?_
  unfold Builtin.«all»
  refine wpAny_bind (m := oneArg "all" _) (wpAny_pure ?_)
  refine wpAny_bind (wpAny_pyIter_gen hgen ?_)
  refine wpAny_pure ⟨plainId_quiet PySem.F.plain_all_loop _, all_loopN (A := X.A) hr.room.hd (by have := hr.room.dp; omega) side _ 0 s5 rfl (Nat.zero_le _) at_ (fun j hj => absurd hj (Nat.not_lt_zero _)) (fun i s' hi hb st => ?_) fun s' h' all hf hk => ?_⟩
  · obtain ⟨H', p, e⟩ := out1 (i + 1) s' st
    exact e false Q (q2 i H' hi hb p)
  · obtain ⟨H', p, e⟩ := out2 s' h' hf hk
    exact e true Q (q3 H' all p)
theorem pe_anyN {c P : Addr} {elt iter : Expr} {x : Str} {px p pos gpos : Pos} {scope : Scope} {te tel : TE} {k : Nat}
    (hr : RG (k + 2) X.A) (hg : Gl X "any") (hm : X.mg "any" = none) (TB : TabB X.base X.mg c P) (hcode : X.env.code = .ref c) (L : GenK X.env.scope scope x) (hx : x ∉ X.N) (hdot : (".0" : Str) ∉ X.N) (hN : X.N.Nodup) (hi : PE X iter te)
    (helt : ∀ (s1 : Shared) (H1 : Hp) (C : Addr) (code : Value), RG k (X.A.in1.in1.deeper (gEnv X scope C code)) → PE (genCx X x X.A.in1.in1 s1 H1 (gEnv X scope C code)) elt tel)
    (hs : ∀ v, genFold iter X.env v = pure v := by intro _; rfl)
    (he : starEach [.GeneratorExp elt [⟨.Name x px, iter, [], 0⟩] scope gpos] X.env = (false, eval (.GeneratorExp elt [⟨.Name x px, iter, [], 0⟩] scope gpos) X.env) :: starEach [] X.env := by rfl) :
    PE X (.Call (.Name "any" p) [.GeneratorExp elt [⟨.Name x px, iter, [], 0⟩] scope gpos] [] pos) (tAllN X.K P true te tel) := by
  refine ⟨fun pins s σ H Q I h => ?_⟩
  refine wpAny_Call_Name_kw (ld_blt I hg hm PyProof.Rows.boot_any ?_)
  refine PyProof.Rows.callWith_builtin1 ?_ he (by rfl)
  rw [he]
  show wpAny _ _ (spliced ((false, eval (.GeneratorExp elt [⟨.Name x px, iter, [], 0⟩] scope gpos) X.env) :: backTo pos (starEach [] X.env))) _ _ s
  refine Calls.spliced_cons ?_
  refine wpAny_GeneratorExp_make L.co (closure_ok (L.has I.ok)) L.nocell L.dot L.kind (by have := hr.room.dp; omega) ?_ hs
  refine thn (hi.run pins s σ H _ I h) fun xv s1 ⟨v, H1, I1, r1, q1⟩ => ?_
  obtain ⟨t, xs, bs, Pv, rfl, hS, hT, hpt, hp0, hpe, q2, q3⟩ := q1
  cases r1
  refine gen_core (gpos := gpos) (px := px) (iter := iter) (x := x) (elt := elt) (scope := scope) (Q' := fun v s' => wpAny (model X.prog X.w) X.A (spliced (backTo pos (starEach [] X.env))) (fun vs s2 => wpAny (model X.prog X.w) X.A (call (.builtin "any") (v :: vs)) (EP X pins σ Q) X.xe s2) X.xe s') hr TB hcode L hx hdot hN helt I1 hS hT hpt hp0 hpe fun a g s5 ST FIN hgen side at_ out1 out2 => ?_
  refine Calls.spliced_nil ?_
  refine call_function_tree PySem.F.kind_any PySem.F.plain_any PySem.F.entry_any (PySem.F.args_any1 _) ?_
  unfold Builtin.«any»
  refine wpAny_bind (m := oneArg "any" _) (wpAny_pure ?_)
  refine wpAny_bind (wpAny_pyIter_gen hgen ?_)
  refine wpAny_pure ⟨plainId_quiet PySem.F.plain_any_loop _, any_loopN (A := X.A) hr.room.hd (by have := hr.room.dp; omega) side _ 0 s5 rfl (Nat.zero_le _) at_ (fun j hj => absurd hj (Nat.not_lt_zero _)) (fun i s' hi hb st => ?_) fun s' h' all hf hk => ?_⟩
  · obtain ⟨H', p, e⟩ := out1 (i + 1) s' st
    exact e true Q (q2 i H' hi hb p)
  · obtain ⟨H', p, e⟩ := out2 s' h' hf hk
    exact e false Q (q3 H' all p)
end
end Cl

set_option maxHeartbeats 0
namespace Cl
open PySem PySem.Spec PyProof.Rows L2
def topS (i : Nat) : Stmt := PySem.Challenge.pw_cornerlines_k01_what_are_points_and_line.main.body.getD i (.Pass ⟨0, 0, 0, 0⟩)

abbrev sis_whole : Stmt := topS 1
theorem scis_whole : FnScope ["thing"] ["thing"] (defScope sis_whole) := ⟨rfl, rfl, rfl, by decide +kernel, rfl, by decide +kernel, by decide +kernel⟩
abbrev sare_wholes : Stmt := topS 2
theorem scare_wholes : FnScope ["thing", "many", "part"] ["thing", "many"] (defScope sare_wholes) := ⟨rfl, rfl, rfl, by decide +kernel, rfl, by decide +kernel, by decide +kernel⟩
abbrev sis_grain : Stmt := topS 4
theorem scis_grain : FnScope ["thing"] ["thing"] (defScope sis_grain) := ⟨rfl, rfl, rfl, by decide +kernel, rfl, by decide +kernel, by decide +kernel⟩
abbrev sis_point : Stmt := topS 5
theorem scis_point : FnScope ["thing"] ["thing"] (defScope sis_point) := ⟨rfl, rfl, rfl, by decide +kernel, rfl, by decide +kernel, by decide +kernel⟩
abbrev sis_line : Stmt := topS 6
theorem scis_line : FnScope ["thing"] ["thing"] (defScope sis_line) := ⟨rfl, rfl, rfl, by decide +kernel, rfl, by decide +kernel, by decide +kernel⟩
abbrev sare_lines : Stmt := topS 7
theorem scare_lines : FnScope ["thing"] ["thing"] (defScope sare_lines) := ⟨rfl, rfl, rfl, by decide +kernel, rfl, by decide +kernel, by decide +kernel⟩
abbrev s_law_deck : Stmt := topS 9
theorem sc_law_deck : FnScope ["_law_script", "_law_cell"] ["_law_script"] (defScope s_law_deck) := ⟨rfl, rfl, rfl, by decide +kernel, rfl, by decide +kernel, by decide +kernel⟩
abbrev s_law_draw : Stmt := topS 10
theorem sc_law_draw : FnScope ["_law_deck_here", "_law_most", "_law_cell", "_law_number"] ["_law_deck_here", "_law_most"] (defScope s_law_draw) := ⟨rfl, rfl, rfl, by decide +kernel, rfl, by decide +kernel, by decide +kernel⟩
abbrev s_law_grain : Stmt := topS 11
theorem sc_law_grain : FnScope ["_law_deck_here"] ["_law_deck_here"] (defScope s_law_grain) := ⟨rfl, rfl, rfl, by decide +kernel, rfl, by decide +kernel, by decide +kernel⟩
abbrev s_law_point : Stmt := topS 12
theorem sc_law_point : FnScope ["_law_deck_here", "_law_grain_here", "_law_way", "_law_x", "_law_y"] ["_law_deck_here", "_law_grain_here", "_law_way"] (defScope s_law_point) := ⟨rfl, rfl, rfl, by decide +kernel, rfl, by decide +kernel, by decide +kernel⟩
abbrev s_law_unlike : Stmt := topS 13
theorem sc_law_unlike : FnScope ["_law_one", "_law_other"] ["_law_one", "_law_other"] (defScope s_law_unlike) := ⟨rfl, rfl, rfl, by decide +kernel, rfl, by decide +kernel, by decide +kernel⟩
abbrev s_law_line : Stmt := topS 14
theorem sc_law_line : FnScope ["_law_deck_here", "_law_grain_here", "_law_lines_here", "_law_way", "_law_one", "_law_other", "_law_x", "_law_y", "_law_u", "_law_v", "_law_number"] ["_law_deck_here", "_law_grain_here", "_law_lines_here"] (defScope s_law_line) := ⟨rfl, rfl, rfl, by decide +kernel, rfl, by decide +kernel, by decide +kernel⟩
abbrev s_law_lines : Stmt := topS 15
theorem sc_law_lines : FnScope ["_law_deck_here", "_law_grain_here", "_law_many", "_law_lines_here", "_law_k"] ["_law_deck_here", "_law_grain_here", "_law_many"] (defScope s_law_lines) := ⟨rfl, rfl, rfl, by decide +kernel, rfl, by decide +kernel, by decide +kernel⟩
abbrev s_law_moved : Stmt := topS 16
theorem sc_law_moved : FnScope ["_law_lines_here", "_law_dx", "_law_dy", "_law_x", "_law_y", "_law_u", "_law_v"] ["_law_lines_here", "_law_dx", "_law_dy"] (defScope s_law_moved) := ⟨rfl, rfl, rfl, by decide +kernel, rfl, by decide +kernel, by decide +kernel⟩
abbrev s_law_spots : Stmt := topS 17
theorem sc_law_spots : FnScope ["_law_thing", "_law_found", "_law_k", "_law_part", "_law_spot"] ["_law_thing"] (defScope s_law_spots) := ⟨rfl, rfl, rfl, by decide +kernel, rfl, by decide +kernel, by decide +kernel⟩
abbrev s_law_put : Stmt := topS 18
theorem sc_law_put : FnScope ["_law_thing", "_law_spot", "_law_part", "_law_k"] ["_law_thing", "_law_spot", "_law_part"] (defScope s_law_put) := ⟨rfl, rfl, rfl, by decide +kernel, rfl, by decide +kernel, by decide +kernel⟩
abbrev s_law_spoilt : Stmt := topS 19
theorem sc_law_spoilt : FnScope ["_law_deck_here", "_law_thing", "_law_way", "_law_spots_here", "_law_spot", "_law_part", "_law_k", "_law_some"] ["_law_deck_here", "_law_thing"] (defScope s_law_spoilt) := ⟨rfl, rfl, rfl, by decide +kernel, rfl, by decide +kernel, by decide +kernel⟩
abbrev s_law_whole : Stmt := topS 20
theorem sc_law_whole : FnScope ["_law_thing"] ["_law_thing"] (defScope s_law_whole) := ⟨rfl, rfl, rfl, by decide +kernel, rfl, by decide +kernel, by decide +kernel⟩
abbrev s_law_are_whole : Stmt := topS 21
theorem sc_law_are_whole : FnScope ["_law_thing", "_law_many", "_law_one"] ["_law_thing", "_law_many"] (defScope s_law_are_whole) := ⟨rfl, rfl, rfl, by decide +kernel, rfl, by decide +kernel, by decide +kernel⟩
abbrev s_law_is_line : Stmt := topS 22
theorem sc_law_is_line : FnScope ["_law_thing"] ["_law_thing"] (defScope s_law_is_line) := ⟨rfl, rfl, rfl, by decide +kernel, rfl, by decide +kernel, by decide +kernel⟩
abbrev s_law_right : Stmt := topS 23
theorem sc_law_right : FnScope ["_law_thing", "_law_due", "_law_one"] ["_law_thing"] (defScope s_law_right) := ⟨rfl, rfl, rfl, by decide +kernel, rfl, by decide +kernel, by decide +kernel⟩
abbrev s_law_many_right : Stmt := topS 24
theorem sc_law_many_right : FnScope ["_law_deck_here", "_law_lines_here", "_law_at", "_law_other"] ["_law_deck_here"] (defScope s_law_many_right) := ⟨rfl, rfl, rfl, by decide +kernel, rfl, by decide +kernel, by decide +kernel⟩
abbrev s_law_far : Stmt := topS 25
theorem sc_law_far : FnScope ["_law_deck_here"] ["_law_deck_here"] (defScope s_law_far) := ⟨rfl, rfl, rfl, by decide +kernel, rfl, by decide +kernel, by decide +kernel⟩
abbrev slaw : Stmt := topS 26
theorem sclaw : FnScope ["_law_script", "_law_deck_here", "_law_odd", "_law_turn", "_law_far_here", "_law_grain_here", "_law_lines_here", "_law_things", "_law_line_here", "_law_k", "_law_bent", "_law_part", "_law_thing"] ["_law_script"] (defScope slaw) := ⟨rfl, rfl, rfl, by decide +kernel, rfl, by decide +kernel, by decide +kernel⟩
structure Bt (mg : Str → Option Value) : Prop where
  isinstance : mg "isinstance" = none
  len : mg "len" = none
  all : mg "all" = none
  list : mg "list" = none
  sum : mg "sum" = none
  abs : mg "abs" = none
  max : mg "max" = none
  tuple : mg "tuple" = none
  int : mg "int" = none
  bool : mg "bool" = none
  repr : mg "repr" = none
  enumerate : mg "enumerate" = none
  str : mg "str" = none
  range : mg "range" = none
theorem cut63 {ns : List Int} (h : ns.length ≤ 63) : cutV (ns.map V.int) none (some 63) = ns.map V.int := by
  unfold cutV
  rw [HT.sIx_none, show HT.sIx (ns.map V.int).length (ns.map V.int).length (some 63) = min 63 (ns.map V.int).length from HT.sIx_nat _ _ 63, List.length_map]
  rw [List.drop_zero, List.take_of_length_le (by rw [List.length_map]; omega)]
section
variable {P : Program} {w : World} {K : PySem.W.Frag} {mg : Str → Option Value} {base : Heap}
theorem ok_law_deck {f : Addr} {fd : FuncData} (F : Fun K "_law_deck" "_law_deck" s_law_deck f fd) (T : Bt mg) :
    FnG P w K mg base CX0 1 f fd ["_law_script"] (spDeck K) := by
  refine okG (k := 0) F sc_law_deck (fun vs H Q E h => ?_) (fun cdv A outer s H vs Q E hr h => ?_)
  · obtain ⟨a, ns, rfl, _⟩ := h
    rfl
  · obtain ⟨a, ns, rfl, hS, hlen, q⟩ := h
    refine ⟨_, (pss_one (ps_ret (lstN (pa_cons (pe_revL (pe_callTy call_list_ofN (by rfl) T.list (by decide +kernel) (pa_cons (pe_slice sl_listN (pv 0) po_none (po_some pe_int)) pa_nil))) (pa_cons (pe_op op_add (pe_callB (cr_sum rfl) (by rfl) T.sum (by decide +kernel) (pa_cons (pe_lc (own := [("_law_cell", 1)]) (g := gName 1) (tt := tYes) (by rfl) sc_law_deck.nd (pi_list (pe_slice sl_listN (pv 0) po_none (po_some pe_int))) (blkOk_by (own := [("_law_cell", 1)]) (N := ["_law_script", "_law_cell"]) (sc := defScope s_law_deck) (by decide +kernel)) (fun _ _ _ _ _ => (pg_name (i := 1) sc_law_deck.nd rfl (.inl rfl))) (fun _ _ _ _ _ => pts_nil) (fun _ _ _ _ _ => (pe_op op_mod (pv 1) pe_int))) pa_nil)) (pe_op op_mul pe_int (pe_callB call_len_seq (by rfl) T.len (by decide +kernel) (pa_cons (pe_slice sl_listN (pv 0) po_none (po_some pe_int)) pa_nil)))) (pa_cons pe_int pa_nil)))))), ?_⟩
    -- list(script[:63])[::-1]
    refine ⟨.ref a, rfl, 63, rfl, a, _, rfl, hS, fun p1 H1 n1 s1 g1 => ⟨p1, _, rfl, .inl (.inl (.inl g1)), fun p2 H2 n2 s2 g2 => ⟨p2, _, rfl, .inl (.inl g2), fun l H3 n3 s3 g3 => ?_⟩⟩⟩
    have t3 : Same H H3 := (s1.trans s2).trans s3
    rw [cut63 hlen, ← List.map_reverse] at g3
    -- sum([cell % 1000003 for cell in script[:63]])
    refine ⟨.ref a, rfl, 63, rfl, a, _, rfl, t3.seq hS, fun p4 H4 n4 s4 g4 => ⟨p4, rfl, ⟨_, .inl (.inl g4)⟩, fun p5 n5 => ?_⟩⟩
    rw [cut63 hlen] at g4
    refine lcL (K := K) (a := p4) (xs := ns.map V.int) (fun i H' => Same H4 H' ∧ H' p5 = some (.lst ((ns.take i).map fun z => V.int (z % 1000003)))) n5 (fun H' e1 e2 => ⟨e1, e2⟩) (fun i H' _ z => .inl (.inl (z.1 _ _ g4))) (fun i x H' hx z => ?_) (fun H5 z => ?_)
    · obtain ⟨e1, e2⟩ := z
      rw [List.getElem?_map] at hx
      cases hn : ns[i]? with
      | none => rw [hn] at hx; cases hx
      | some y =>
        rw [hn] at hx
        cases hx
        refine ⟨rfl, _, rfl, _, _, rfl, rfl, (by show (0 : Int) < 1000003; decide), _, e2, ?_, ?_, ?_⟩
        · rw [List.length_map, List.length_take]
          exact small1000 (by omega)
        · intro b o e
          rw [upd_ne (ne_of_none e n5)]
          exact e1 _ _ e
        · rw [upd_same, List.take_add_one, hn, List.map_append]
          rfl
    · obtain ⟨e1, e2⟩ := z
      have l1 : (ns.map V.int).length = ns.length := List.length_map _
      rw [l1, List.take_length] at e2
      have t5 : Same H H5 := (t3.trans s4).trans e1
      refine ⟨p5, ns.map fun z => z % 1000003, rfl, .inl (.inl ?_), .ref a, rfl, 63, rfl, a, _, rfl, t5.seq hS, fun p6 H6 n6 s6 g6 => ?_⟩
      · rw [e2, List.map_map]
        rfl
      refine ⟨p6, _, rfl, .inl (.inl (.inl g6)), _, _, rfl, rfl, .inl (by decide), _, _, rfl, rfl, (by show 3 ≤ sizeLine; decide), fun d H7 n7 s7 g7 => ?_⟩
      have t37 : Same H3 H7 := ((s4.trans e1).trans s6).trans s7
      have hl : H7 l = some (.lst (ns.reverse.map V.int)) := t37 _ _ g3
      exact q d l H7 (((t5.trans s6)).trans s7) ⟨ne_of g7 hl (by intro z; cases hns : ns.reverse with
        | nil => rw [hns] at z; cases z
        | cons y r => rw [hns] at z; cases z), _, _, _, g7, hl, by rw [List.length_reverse]; exact hlen⟩

theorem ok_law_draw {f : Addr} {fd : FuncData} (F : Fun K "_law_draw" "_law_draw" s_law_draw f fd) (T : Bt mg) :
    FnG P w K mg base CX0 1 f fd ["_law_deck_here", "_law_most"] spDraw := by
  refine okG (k := 0) F sc_law_draw (fun vs H Q E h => ?_) (fun cdv A outer s H vs Q E hr h => ?_)
  · obtain ⟨d, l, m, rfl, _⟩ := h
    rfl
  · obtain ⟨d, l, m, rfl, hm, hm2, D, q⟩ := h
    refine ⟨_, (pss_cons (ps_asg (pe_op op_add (pe_ix ix_list (pv 0) pe_int (fun _ _ => rfl)) pe_int) (pg_sub (pv 0) pe_int set_list))
      (pss_cons (ps_set (i := 2) sc_law_draw.nd rfl (.inl rfl) (pe_ix ix_list (pv 0) pe_int (fun _ _ => rfl)))
      (cutS (ps_if (pt_cmpR (op_neD hr.room.units) (pe_ix ix_list (pv 0) pe_int (fun _ _ => rfl)) (lstN pa_nil) (nomark _)) (pss_cons (ps_set (i := 2) sc_law_draw.nd rfl (.inl rfl) (pe_bm0 PySem.F.plainAttrs_list PySem.F.slot_list_pop PySem.F.type_list_pop mt_pop (pe_ix ix_list (pv 0) pe_int (fun _ _ => rfl))))
      (pss_one (ps_if (pt_cmpR op_ge (pv 2) (pe_op op_pow pe_int pe_int) (nomark _)) (pss_cons (ps_expr (pe_bm PySem.F.plainAttrs_list PySem.F.slot_list_append PySem.F.type_list_append mt_append (pe_ix ix_list (pv 0) pe_int (fun _ _ => rfl)) (pa_cons (pe_op op_fdivW (pv 2) (pv 1)) pa_nil)))
      (pss_one (ps_ret (pe_op op_mod (pv 2) (pv 1))))) pss_nil))) pss_nil)
      (pss_cons (ps_set (i := 3) sc_law_draw.nd rfl (.inl rfl) (pe_op op_mod (pe_op op_mul (pe_op op_add (pe_op op_add (pe_op op_mod (pv 2) pe_int) (pe_op op_mul pe_int (pe_ix ix_list (pv 0) pe_int (fun _ _ => rfl)))) pe_int) pe_int) pe_int))
      (pss_cons (ps_set (i := 3) sc_law_draw.nd rfl (.inl rfl) (pe_op op_mod (pe_op op_add (pe_op op_add (pe_op op_mul (pv 3) (pv 3)) (pe_op op_mul pe_int (pe_ix ix_list (pv 0) pe_int (fun _ _ => rfl)))) pe_int) pe_int))
      (pss_one (ps_ret (pe_op op_mod (pe_op op_fdiv (pe_op op_mod (pe_op op_add (pe_op op_mul (pv 3) (pv 3)) pe_int) pe_int) pe_int) (pv 1))))))))), ?_⟩
    obtain ⟨ns, s0, c, h1, h2, h3⟩ := D.ex
    have dl := D.ne
    -- deck[2] = deck[2] + 1
    refine ⟨.ref d, rfl, d, _, 2, .int c, rfl, rfl, .inl (.inl h1), rfl, c, 1, rfl, rfl, .ref d, rfl, d, _, 2, 2, rfl, rfl, h1, rfl, ?_⟩
    generalize hU : upd H d (.lst ([V.ref l, .int s0, .int c].set 2 ((fun i j => V.int (i + j)) c 1))) = H1
    have g1 : H1 d = some (.lst [.ref l, .int s0, .int (c + 1)]) := by rw [← hU]; exact upd_same
    have g2 : H1 l = some (.lst (ns.map V.int)) := by rw [← hU, upd_ne dl.symm]; exact h2
    have g3 : ∀ b o, b ≠ d → b ≠ l → H b = some o → H1 b = some o := fun b o e1 _ e2 => by rw [← hU, upd_ne e1]; exact e2
    clear hU
    have fin : ∀ (ms : List Int) (H2 : Hp), ms.length ≤ 63 → H2 d = some (.lst [.ref l, .int s0, .int (c + 1)]) → H2 l = some (.lst (ms.map V.int)) →
        (∀ b o, b ≠ d → b ≠ l → H b = some o → Keep (H2 b) o) → Step d l H H2 := fun ms H2 e1 e2 e3 e4 => ⟨⟨dl, ms, s0, c + 1, e2, e3, e1⟩, fun b o e => by
          obtain ⟨n1, n2, n3⟩ := hide_at e
          rw [hide_ne n1 n2]
          exact e4 b o n1 n2 n3⟩
    -- cell = deck[1]
    refine ⟨.ref d, rfl, d, _, 1, .int s0, rfl, rfl, .inl (.inl g1), rfl, ?_⟩
    refine ⟨fun σ' H' => ∃ (cell : Int) (y : Option V) (ms : List Int), σ' = [some (.ref d), some (.int m), some (.int cell), y] ∧ ms.length ≤ 63 ∧
      H' d = some (.lst [.ref l, .int s0, .int (c + 1)]) ∧ H' l = some (.lst (ms.map V.int)) ∧ (∀ b o, b ≠ d → b ≠ l → H b = some o → Keep (H' b) o), ?_, ?_⟩
    · -- if deck[0] != []
      refine ⟨.ref d, rfl, d, _, 0, .ref l, rfl, rfl, .inl (.inl g1), rfl, Nat.zero_le _, fun pe HE ne se ge => ?_⟩
      have h1E := se _ _ g1
      have h2E := se _ _ g2
      have h3E : ∀ b o, b ≠ d → b ≠ l → H b = some o → Keep (HE b) o := fun b o e1 e2 e3 => se _ _ (g3 b o e1 e2 e3)
      refine ⟨_, _, .lst (.inl (.inl h2E)) (dpInts ns), .lst (.inl (.inl ge)) .nil, shapedInts ns, rfl, _, rfl, ?_⟩
      show if (!PyData.eqv (.list (ns.map PyData.int)) (.list [])) = true then _ else _
      rw [eqvNil]
      refine ite2 (fun e => ?_) (fun e => ?_)
      · have h0 : ns ≠ [] := fun z => by subst z; exact absurd e (by decide)
        obtain ⟨z, hz⟩ : ∃ z, ns[ns.length - 1]? = some z := by
          have : ns.length - 1 < ns.length := by cases ns with
            | nil => exact absurd rfl h0
            | cons a b => simp
          exact ⟨_, List.getElem?_eq_getElem this⟩
        -- cell = deck[0].pop()
        refine ⟨.ref d, rfl, d, _, 0, .ref l, rfl, rfl, .inl (.inl h1E), rfl, .inl ⟨rfl, _, .inl (.inl h2E)⟩, l, _, .int z, rfl, rfl, h2E, ?_, ?_⟩
        · rw [List.length_map, List.getElem?_map, hz]
          rfl
        have k1 : ns.dropLast.length < 63 := by
          rw [List.length_dropLast]
          have : ns.length ≠ 0 := fun z => h0 (List.length_eq_zero_iff.mp z)
          omega
        generalize hU : upd HE l (.lst (ns.map V.int).dropLast) = H2
        have u1 : H2 d = some (.lst [.ref l, .int s0, .int (c + 1)]) := by rw [← hU, upd_ne dl]; exact h1E
        have u2 : H2 l = some (.lst (ns.dropLast.map V.int)) := by rw [← hU, upd_same, dropLast_map]
        have u3 : ∀ b o, b ≠ d → b ≠ l → H b = some o → Keep (H2 b) o := fun b o e1 e2 e3 => by rw [← hU, upd_ne e2]; exact h3E b o e1 e2 e3
        clear hU
        refine ⟨.int z, rfl, _, _, rfl, rfl, ⟨by decide, by decide, by decide⟩, _, _, rfl, rfl, _, rfl, ite2 (fun e2 => ?_) (fun e2 => ?_)⟩
        · -- deck[0].append(cell // most); return cell % most
          refine ⟨.ref d, rfl, d, _, 0, .ref l, rfl, rfl, .inl (.inl u1), rfl, .inl ⟨rfl, _, .inl (.inl u2)⟩, .int z, rfl, .int m, rfl, _, _, rfl, rfl,
            wide_div (b := 64) hm (by omega) (by decide) (by decide), l, _, _, rfl, rfl, u2, ?_, ?_⟩
          · rw [List.length_map]
            exact small1000 (by omega)
          refine ⟨.int z, rfl, .int m, rfl, _, _, rfl, rfl, hm, q _ _ (Int.emod_nonneg _ (by omega)) (Int.emod_lt_of_pos _ hm) (fin (ns.dropLast ++ [z / m]) _ ?_ ?_ ?_ ?_)⟩
          · rw [List.length_append]; show _ + 1 ≤ 63; omega
          · rw [upd_ne dl]; exact u1
          · rw [upd_same, List.map_append]; rfl
          · intro b o e1 e2 e3
            rw [upd_ne e2]; exact u3 b o e1 e2 e3
        · exact ⟨z, none, ns.dropLast, rfl, by omega, u1, u2, u3⟩
      · exact ⟨s0, none, ns, rfl, h3, h1E, h2E, h3E⟩
    · rintro σ' H' ⟨cell, y, ms, rfl, e1, e2, e3, e4⟩
      have S := fin ms H' e1 e2 e3 e4
      have eD : SqL K H' d [.ref l, .int s0, .int (c + 1)] := .inl (.inl e2)
      refine ⟨_, rfl, _, _, rfl, rfl, (by show (0 : Int) < 2147483629; decide), .ref d, rfl, d, _, 2, .int (c + 1), rfl, rfl, eD, rfl, _, _, rfl, rfl, .inl (by decide),
        _, _, rfl, rfl, _, _, rfl, rfl, _, _, rfl, rfl, .inr (by decide), _, _, rfl, rfl, (by show (0 : Int) < 2147483647; decide), ?_⟩
      refine ⟨_, rfl, _, rfl, _, _, rfl, rfl, .inl (modlt (by decide) (by decide)), .ref d, rfl, d, _, 2, .int (c + 1), rfl, rfl, eD, rfl, _, _, rfl, rfl, .inl (by decide),
        _, _, rfl, rfl, _, _, rfl, rfl, _, _, rfl, rfl, (by show (0 : Int) < 2147483587; decide), ?_⟩
      refine ⟨_, rfl, _, rfl, _, _, rfl, rfl, .inl (modlt (by decide) (by decide)), _, _, rfl, rfl, _, _, rfl, rfl, (by show (0 : Int) < 2147483563; decide),
        _, _, rfl, rfl, ⟨by decide, by decide⟩, .int m, rfl, _, _, rfl, rfl, hm, q _ _ (Int.emod_nonneg _ (by omega)) (Int.emod_lt_of_pos _ hm) S⟩

end

section
variable {P : Program} {w : World} {K : PySem.W.Frag} {mg : Str → Option Value} {base : Heap}

theorem okis_whole {f : Addr} {fd : FuncData} (F : Fun K "is_whole" "is_whole" sis_whole f fd) (T : Bt mg) :
    FnG P w K mg base CX0 1 f fd ["thing"] (spWhole K) := by
  refine okG (k := 0) F scis_whole (fun vs H Q E h => ?_) (fun cdv A outer s H vs Q E hr h => ?_)
  · obtain ⟨v, T, rfl, _⟩ := h
    rfl
  · obtain ⟨v, U, rfl, hk, q⟩ := h
    refine ⟨_, (pss_one (ps_ret (pe_and (pe_callB call_isi (by rfl) T.isinstance (by decide +kernel) (pa_cons (pv 0) (pa_cons (pe_bltn (v := .ty "int") (by rfl) T.int (by decide +kernel) rfl) pa_nil))) (pe_one (pe_not (pe_callB call_isi (by rfl) T.isinstance (by decide +kernel) (pa_cons (pv 0) (pa_cons (pe_bltn (v := .ty "bool") (by rfl) T.bool (by decide +kernel) rfl) pa_nil)))))))), ?_⟩
    refine ⟨_, rfl, _, _, _, _, _, rfl, .ty _, hk.ty, kit_ty hk.int?, _, rfl, ?_⟩
    cases hb : isB v with
    | true =>
      have e : (isI v || true) = true := by cases isI v <;> rfl
      rw [e]
      refine iteT ⟨_, rfl, _, _, _, _, _, rfl, .ty _, hk.ty, kit_ty hk.bool?, _, rfl, ?_⟩
      rw [hb]
      have e2 : isI v = false := by cases v <;> first | rfl | cases hb
      rw [e2] at q
      exact q
    | false =>
      rw [Bool.or_false]
      cases hi : isI v with
      | false =>
        rw [hi] at q
        exact iteF q
      | true =>
        rw [hi] at q
        refine iteT ⟨_, rfl, _, _, _, _, _, rfl, .ty _, hk.ty, kit_ty hk.bool?, _, rfl, ?_⟩
        rw [hb]
        exact q

theorem ok_law_whole {f : Addr} {fd : FuncData} (F : Fun K "_law_whole" "_law_whole" s_law_whole f fd) (T : Bt mg) :
    FnG P w K mg base CX0 1 f fd ["_law_thing"] (spWhole K) := by
  refine okG (k := 0) F sc_law_whole (fun vs H Q E h => ?_) (fun cdv A outer s H vs Q E hr h => ?_)
  · obtain ⟨v, T, rfl, _⟩ := h
    rfl
  · obtain ⟨v, U, rfl, hk, q⟩ := h
    refine ⟨_, (pss_one (ps_ret (pe_and (pe_callB call_isi (by rfl) T.isinstance (by decide +kernel) (pa_cons (pv 0) (pa_cons (pe_bltn (v := .ty "int") (by rfl) T.int (by decide +kernel) rfl) pa_nil))) (pe_one (pe_not (pe_callB call_isi (by rfl) T.isinstance (by decide +kernel) (pa_cons (pv 0) (pa_cons (pe_bltn (v := .ty "bool") (by rfl) T.bool (by decide +kernel) rfl) pa_nil)))))))), ?_⟩
    refine ⟨_, rfl, _, _, _, _, _, rfl, .ty _, hk.ty, kit_ty hk.int?, _, rfl, ?_⟩
    cases hb : isB v with
    | true =>
      have e : (isI v || true) = true := by cases isI v <;> rfl
      rw [e]
      refine iteT ⟨_, rfl, _, _, _, _, _, rfl, .ty _, hk.ty, kit_ty hk.bool?, _, rfl, ?_⟩
      rw [hb]
      have e2 : isI v = false := by cases v <;> first | rfl | cases hb
      rw [e2] at q
      exact q
    | false =>
      rw [Bool.or_false]
      cases hi : isI v with
      | false =>
        rw [hi] at q
        exact iteF q
      | true =>
        rw [hi] at q
        refine iteT ⟨_, rfl, _, _, _, _, _, rfl, .ty _, hk.ty, kit_ty hk.bool?, _, rfl, ?_⟩
        rw [hb]
        exact q

end
end Cl

set_option maxHeartbeats 0
namespace Cl
open PySem PySem.Spec PyProof.Rows L2
/-! ### data with dicts of one key at most -/
mutual
inductive Dq (K : PySem.W.Frag) (H : Hp) : V → PyData → Prop
  | non : Dq K H .non .none
  | bl (b : Bool) : Dq K H (.bl b) (.bool b)
  | int (i : Int) : Dq K H (.int i) (.int i)
  | str (x : Str) : Dq K H (.str x) (.str x)
  | lst {a : Addr} {xs : List V} {ds : List PyData} : a ≠ sysModules → H a = some (.lst xs) → DqAll K H xs ds → Dq K H (.ref a) (.list ds)
  | tup {a : Addr} {xs : List V} {ds : List PyData} : SqT K H a xs → DqAll K H xs ds → Dq K H (.ref a) (.tuple ds)
  | emp {a : Addr} : H a = some (.dK []) → Dq K H (.ref a) (.dict [])
  | one {a : Addr} {i : Int} {v : V} {d : PyData} : H a = some (.dK [(.inl i, v)]) → Dq K H v d → Dq K H (.ref a) (.dict [(.int i, d)])
inductive DqAll (K : PySem.W.Frag) (H : Hp) : List V → List PyData → Prop
  | nil : DqAll K H [] []
  | cons {v : V} {vs : List V} {d : PyData} {ds : List PyData} : Dq K H v d → DqAll K H vs ds → DqAll K H (v :: vs) (d :: ds)
end
section
variable {K : PySem.W.Frag} {H H' : Hp}
mutual
/-- what keeps lists, tuples and dicts keeps data -/
theorem Dq.keep (kl : ∀ a xs, H a = some (.lst xs) → H' a = some (.lst xs)) (kt : ∀ a xs, SqT K H a xs → SqT K H' a xs) (kd : ∀ a kvs, H a = some (.dK kvs) → H' a = some (.dK kvs)) : ∀ (d : PyData) (v : V), Dq K H v d → Dq K H' v d
  | .none, _, h => by cases h; exact .non
  | .bool b, _, h => by cases h; exact .bl b
  | .int i, _, h => by cases h; exact .int i
  | .str x, _, h => by cases h; exact .str x
  | .list ds, _, h => by
    cases h with
    | lst h0 h1 h2 => exact .lst h0 (kl _ _ h1) (DqAll.keep kl kt kd ds _ h2)
  | .tuple ds, _, h => by
    cases h with
    | tup h1 h2 => exact .tup (kt _ _ h1) (DqAll.keep kl kt kd ds _ h2)
  | .dict [], _, h => by
    cases h with
    | emp h1 => exact .emp (kd _ _ h1)
  | .dict [(.int i, d)], _, h => by
    cases h with
    | one h1 h2 => exact .one (kd _ _ h1) (Dq.keep kl kt kd d _ h2)
  | .dict ((.none, d) :: r), _, h => by cases h
  | .dict ((.bool _, d) :: r), _, h => by cases h
  | .dict ((.str _, d) :: r), _, h => by cases h
  | .dict ((.list _, d) :: r), _, h => by cases h
  | .dict ((.tuple _, d) :: r), _, h => by cases h
  | .dict ((.dict _, d) :: r), _, h => by cases h
  | .dict ((.int _, d) :: _ :: _), _, h => by cases h
theorem DqAll.keep (kl : ∀ a xs, H a = some (.lst xs) → H' a = some (.lst xs)) (kt : ∀ a xs, SqT K H a xs → SqT K H' a xs) (kd : ∀ a kvs, H a = some (.dK kvs) → H' a = some (.dK kvs)) : ∀ (ds : List PyData) (vs : List V), DqAll K H vs ds → DqAll K H' vs ds
  | [], _, h => by cases h; exact .nil
  | d :: ds, _, h => by
    cases h with
    | cons h1 h2 => exact .cons (Dq.keep kl kt kd d _ h1) (DqAll.keep kl kt kd ds _ h2)
end
theorem Dq.same {v : V} {d : PyData} (h : Dq K H v d) (s : Same H H') : Dq K H' v d := h.keep (fun a xs e => s _ _ e) (fun a xs e => seT s e) (fun a kvs e => s _ _ e)
theorem DqAll.same {vs : List V} {ds : List PyData} (h : DqAll K H vs ds) (s : Same H H') : DqAll K H' vs ds := DqAll.keep (fun a xs e => s _ _ e) (fun a xs e => seT s e) (fun a kvs e => s _ _ e) _ _ h
theorem Dq.sameX {P : Addr} {q : Str} {v : V} {d : PyData} (h : Dq K H v d) (t : LT H P q) (s : SameX P H H') : Dq K H' v d := by
  have ne : ∀ a u, H a = some u → (∀ φ, u ≠ .ext φ) → a ≠ P := fun a u z n y => by
    obtain ⟨cs, e, _⟩ := t
    rw [y, e] at z
    exact n _ (Option.some.inj z).symm
  exact h.keep (fun a xs e => s _ _ (ne _ _ e fun φ z => nomatch z) e) (fun a xs e => seX t s e) (fun a kvs e => s _ _ (ne _ _ e fun φ z => nomatch z) e)
theorem Dq.step {d0 l : Addr} {v : V} {d : PyData} (h : Dq K H v d) (S : Step d0 l H H') (D : Deck H d0 l) (hl : ∀ a xs, H a = some (.lst xs) → a ≠ d0 ∧ a ≠ l → H' a = some (.lst xs)) : True := trivial
end
section
variable {X : Cx} {pins : List (Addr × Obj)} {σ : L2.St} {H : Hp} {s : Shared}
mutual
theorem Dq.reads (I : Inv X pins σ H s) : ∀ (d : PyData) (v : V) (u : Value), Dq X.K H v d → RelV v u → ∃ as, Reads s.heap u d as ∧ sysModules ∉ as
  | .none, _, _, h, r => by
    cases h
    cases r
    exact ⟨_, Reads.none, by simp⟩
  | .bool b, _, _, h, r => by
    cases h
    cases r
    exact ⟨_, Reads.bool b, by simp⟩
  | .int i, _, _, h, r => by
    cases h
    obtain ⟨t, rfl⟩ := r
    exact ⟨_, Reads.int i t, by simp⟩
  | .str x, _, _, h, r => by
    cases h
    obtain ⟨t, rfl⟩ := r
    exact ⟨_, Reads.str x t, by simp⟩
  | .list ds, _, _, h, r => by
    cases h with
    | lst h0 hs ha =>
      cases r
      obtain ⟨its, rv, ⟨o, n, ho, hc, _, hd⟩, _⟩ := I.list (.inl (.inl hs))
      obtain ⟨as, hr, hn⟩ := Dq.readsAll I ds _ its ha rv
      refine ⟨_, Reads.list ho hc hd hr, fun z => ?_⟩
      rcases List.mem_cons.mp z with z | z
      · exact h0 z.symm
      · exact hn z
  | .tuple ds, _, _, h, r => by
    cases h with
    | tup hs ha =>
      cases r
      obtain ⟨its, rv, ⟨o, ho, hc, n, hd⟩, _⟩ := I.tuple hs
      obtain ⟨as, hr, hn⟩ := Dq.readsAll I ds _ its ha rv
      exact ⟨_, Reads.tuple ho hc hd hr, hn⟩
  | .dict [], _, _, h, r => by
    cases h with
    | emp e =>
      cases r
      obtain ⟨_, hsm, vs, rel, o, es, ep, h1, h2, h3, h4, h5, h6⟩ := dk_of I.hok e
      cases rel
      cases h5' : es.toList with
      | nil =>
        refine ⟨_, Reads.dict (as := []) (bs := []) h1 h2.1 h3 (by rw [h5']; exact .nil) (by rw [h5']; exact .nil), fun z => ?_⟩
        rcases List.mem_cons.mp z with z | z
        · rw [← z] at hsm
          simp at hsm
        · simp at z
      | cons _ _ => rw [h5'] at h5; cases h5
  | .dict [(.int i, d)], _, _, h, r => by
    cases h with
    | one e hd =>
      cases r
      obtain ⟨_, hsm, vs, rel, o, es, ep, h1, h2, h3, h4, h5, h6⟩ := dk_of I.hok e
      cases rel with
      | cons hk rest =>
        cases rest
        rename_i q
        obtain ⟨hk1, hk2⟩ := hk
        cases h5' : es.toList with
        | nil => rw [h5'] at h5; cases h5
        | cons e0 r0 =>
          rw [h5'] at h5
          cases h5 with
          | cons c1 c2 c3 =>
            cases c3
            obtain ⟨as, hr, hn⟩ := Dq.reads I d _ _ hd hk2
            have c1 : keyIs q.1 e0.key = true := c1
            rw [← hk1] at c1
            rcases keyIs_shape c1 with ⟨j, t, z1, z2⟩ | ⟨x, t, z1, z2⟩
            · have z1 : (Sum.inl i : Key) = Sum.inl j := z1
              cases z1
              refine ⟨_, Reads.dict (as := [] ++ []) (bs := as ++ []) h1 h2.1 h3 (by rw [h5']; show ReadsAll _ [e0.key] [.int i] _; rw [z2]; exact .cons (.int _ _) .nil) (by rw [h5']; show ReadsAll _ [e0.val] [d] _; rw [c2]; exact .cons hr .nil), fun z => ?_⟩
              rcases List.mem_cons.mp z with z | z
              · rw [← z] at hsm
                simp at hsm
              · simp at z
                exact hn z
            · cases z1
  | .dict ((.none, d) :: r), _, _, h, _ => by cases h
  | .dict ((.bool _, d) :: r), _, _, h, _ => by cases h
  | .dict ((.str _, d) :: r), _, _, h, _ => by cases h
  | .dict ((.list _, d) :: r), _, _, h, _ => by cases h
  | .dict ((.tuple _, d) :: r), _, _, h, _ => by cases h
  | .dict ((.dict _, d) :: r), _, _, h, _ => by cases h
  | .dict ((.int _, d) :: _ :: _), _, _, h, _ => by cases h
theorem Dq.readsAll (I : Inv X pins σ H s) : ∀ (ds : List PyData) (vs : List V) (us : List Value), DqAll X.K H vs ds → Vals vs us → ∃ as, ReadsAll s.heap us ds as ∧ sysModules ∉ as
  | [], _, _, h, r => by
    cases h
    cases r
    exact ⟨_, ReadsAll.nil, by simp⟩
  | d :: ds, _, _, h, r => by
    cases h with
    | cons h1 h2 =>
      cases r with
      | cons r1 r2 =>
        obtain ⟨as, q1, n1⟩ := Dq.reads I d _ _ h1 r1
        obtain ⟨bs, q2, n2⟩ := Dq.readsAll I ds _ _ h2 r2
        exact ⟨_, ReadsAll.cons q1 q2, fun z => (List.mem_append.mp z).elim n1 n2⟩
end
end
end Cl

set_option maxHeartbeats 0
namespace Cl
open PySem PySem.Spec PyProof.Rows L2
open PySem.SeqAt
theorem sub_str_dict : isSubtype (.type "str") (.type "dict") = pure false := by rw [isSubtype_type]; kernel_rfl
theorem dict_eq_declines_str (l : Addr) (es : Array DictEntry) (n : Nat) (b : Str) (u : Tok) :
    PySem.Meets (Builtin.«dict.__eq__» ⟨[.ref l, .str b u], []⟩) (fun _ R s => s.heap.get? l = some { cls := .type "dict", dict := none, data := .dict es n, slots := #[] } ∧ R (.ok (.ret .notImplemented)) s) :=
  .of_wp fun prog w A R s h => by
    obtain ⟨hp, g, d, tk, os⟩ := s
    obtain ⟨hl, h⟩ := h
    have f1 := sub_str_dict
    wp_walk using wpAny_loadPart' hl, wpAny_load hl
    exact ⟨_, rfl, h⟩
theorem str_eq_declines_dict (b : Str) (u : Tok) (l : Addr) (es : Array DictEntry) (n : Nat) :
    PySem.Meets (Builtin.«str.__eq__» ⟨[.str b u, .ref l], []⟩) (fun _ R s => s.heap.get? l = some { cls := .type "dict", dict := none, data := .dict es n, slots := #[] } ∧ R (.ok (.ret .notImplemented)) s) :=
  .of_wp fun prog w A R s h => by
    obtain ⟨hp, g, d, tk, os⟩ := s
    obtain ⟨hl, h⟩ := h
    wp_walk using wpAny_loadPart' hl, wpAny_load hl
    exact ⟨_, rfl, h⟩
theorem rc_dict_str {A : Around} {s : Shared} {l : Addr} {es : Array DictEntry} {n : Nat} (b : Str) (u : Tok) (ho : s.heap.get? l = some { cls := .type "dict", dict := none, data := .dict es n, slots := #[] }) (hu : A.units < cLine) : SeqAt.RcAt A s (.ref l) (.str b u) false := fun prog w E Q h =>
  SeqAt.rc_eq_decline_or (k := false) ⟨_, ho, rfl⟩ (typeIs_str s b u) (by decide) sub_str_dict F.slot_dict_eq F.slot_str_eq_refl
    (fun _ hq => call_meets F.slot_dict_eq ⟨_, ho, rfl⟩ F.entry_dict_eq (F.args_dict_eq_2 _ _) (dict_eq_declines_str l es n b u) ⟨ho, hq⟩)
    (fun _ hq => call_meets F.slot_str_eq_refl (typeIs_str s b u) F.entry_str_eq (F.args_str_eq_2 _ _) (str_eq_declines_dict b u l es n) ⟨ho, hq⟩)
    (fun _ hq => wpAny_of_eq (rfl : isSame (.ref l) (.str b u) = pure false) hq) (.inr hu) h
theorem eq_dict_str {A : Around} {s : Shared} {l : Addr} {es : Array DictEntry} {n : Nat} (b : Str) (u : Tok) (ho : s.heap.get? l = some { cls := .type "dict", dict := none, data := .dict es n, slots := #[] }) (hu : A.units < cLine) : SeqAt.EqAt A s (.ref l) (.str b u) false := fun prog w E Q h => by
  unfold eqBool
  refine wpAny_holding ?_
  refine wpAny_ite_split (fun hab => absurd (eq_of_beq hab) nofun) (fun _ => ?_)
  exact wpAny_bind (rc_dict_str b u ho hu prog w E _ (wpAny_truthy_bool h))
/-- the first of a datum's parts is the word -/
def firstIs (w : Str) : List PyData → Bool
  | [.str s] => s == w
  | _ => false
section
variable {X : Cx}
/-- what is compared with a text -/
theorem dq_eq_str {pins : List (Addr × Obj)} {σ : L2.St} {H : Hp} {s : Shared} {A : Around} {v : V} {d : PyData} {u : Value} {x : Str} {t : Tok} (I : Inv X pins σ H s) (h : Dq X.K H v d) (r : RelV v u) (hu : A.units < cLine) :
    SeqAt.EqAt A s u (.str x t) (firstIs x [d]) := by
  cases h with
  | non => cases r; exact SeqAt.EqAt.none_str x t
  | bl b => cases r; exact SeqAt.EqAt.bool_str b x t
  | int i => obtain ⟨t', rfl⟩ := r; exact SeqAt.EqAt.int_str i t' x t
  | str y => obtain ⟨t', rfl⟩ := r; exact SeqAt.EqAt.str_str y t' x t
  | lst h0 h1 h2 =>
    cases r
    obtain ⟨its, rv, pl, _⟩ := I.list (.inl (.inl h1))
    exact SeqAt.EqAt.list_str x t pl.isList hu
  | tup h1 h2 =>
    cases r
    obtain ⟨its, rv, tp, _⟩ := I.tuple h1
    exact SeqAt.EqAt.tuple_str x t tp hu
  | emp e =>
    cases r
    obtain ⟨_, _, vs, _, ⟨cls, dd, data, sl⟩, es, ep, h1, ⟨c1, c2, c3⟩, h3, _⟩ := dk_of I.hok e
    simp only at c1 c2 c3 h3
    subst c1 c2 c3 h3
    exact eq_dict_str x t h1 hu
  | one e _ =>
    cases r
    obtain ⟨_, _, vs, _, ⟨cls, dd, data, sl⟩, es, ep, h1, ⟨c1, c2, c3⟩, h3, _⟩ := dk_of I.hok e
    simp only at c1 c2 c3 h3
    subst c1 c2 c3 h3
    exact eq_dict_str x t h1 hu
/-- thing[:1] == (word,) -/
def rEqFirst (K : PySem.W.Frag) : R2 := fun x y H Q => ∃ (a b : Addr) (xs : List V) (ds : List PyData) (w : Str), x = .ref a ∧ y = .ref b ∧ SqT K H a xs ∧ DqAll K H xs ds ∧ xs.length ≤ 1 ∧ SqT K H b [.str w] ∧ Q (.bl (firstIs w ds)) H
theorem op_eqFirst (hu : X.A.units + 64 < cLine) : OpR X (compareOp .Eq) (rEqFirst X.K) := by
  intro pins s σ H x y v u Q I rx ry h
  obtain ⟨a, b, xs, ds, w, rfl, rfl, ha, hd, hl, hb, q⟩ := h
  cases rx
  cases ry
  obtain ⟨its, rv, ta, _⟩ := I.tuple ha
  obtain ⟨itb, rb, tb, _⟩ := I.tuple hb
  cases rb with
  | cons r1 r2 =>
    cases r2
    obtain ⟨t, rfl⟩ := r1
    cases hd with
    | nil =>
      cases rv
      refine SeqAt.eq_tupleAt (e := fun _ => true) ta tb (by omega) (fun j h1 h2 => absurd h1 (by simp)) ⟨.bl _, H, I, rfl, ?_⟩
      exact q
    | @cons v0 vs d0 ds0 hd0 hds =>
      cases hds with
      | cons _ _ => simp at hl
      | nil =>
        cases rv with
        | cons r1 r2 =>
          cases r2
          rename_i u0
          have key := dq_eq_str (A := X.A.in1) (x := w) (t := t) I hd0 r1 (by show X.A.units + 1 < _; omega)
          refine SeqAt.eq_tupleAt (e := fun _ => firstIs w [d0]) ta tb (by omega) (fun j h1 h2 => ?_) ⟨.bl _, H, I, rfl, ?_⟩
          · have hj : j = 0 := by simp at h1; omega
            subst hj
            exact key
          · have e : ((List.range (min #[u0].size #[Value.str w t].size)).all (fun _ => firstIs w [d0]) && #[u0].size == #[Value.str w t].size) = firstIs w [d0] := by
              show ((List.range 1).all (fun _ => firstIs w [d0]) && true) = _
              simp [List.range, List.range.loop]
            rw [e]
            exact q
/-- repr of such data -/
def rReprQ (K : PySem.W.Frag) : List V → Hp → VK → Prop := fun xs H Q => ∃ v d, xs = [v] ∧ Dq K H v d ∧ d.showable = true ∧ d.depth ≤ 60 ∧ d.shown.length ≤ sizeLine ∧ Q (.str d.shown) H
theorem call_reprQ (hg : X.A.guards = some []) (hu : X.A.units + 64 < cLine) : CallR X (.builtin "repr") (rReprQ X.K) := by
  intro pins s σ H xs us Q I r h
  obtain ⟨v, d, rfl, hd, hs, hdp, hl, q⟩ := h
  obtain ⟨u, rfl, ru⟩ := vals1 r
  obtain ⟨as, rd, hn⟩ := Dq.reads I d v u hd ru
  have fin : ∀ {a : Addr}, u = .ref a → wpAny (model X.prog X.w) X.A (call (.builtin "repr") [u]) (EP X pins σ Q) X.xe s := fun {a} e => by
    subst e
    exact repr_of_reads' rd hs (fun _ => hn) hg (by omega) (fun _ _ z => z) (fun h' u tk hk => ⟨.str _, H, I.kept hk, ⟨_, rfl⟩, q⟩) hl
  cases hd with
  | non => cases ru; exact PySem.P.repr_of_none ⟨.str _, H, I.tok _, ⟨_, rfl⟩, q⟩
  | bl b => cases ru; exact PySem.P.repr_of_bool ⟨.str _, H, I.tok _, ⟨_, rfl⟩, q⟩
  | int i => obtain ⟨t, rfl⟩ := ru; exact PySem.P.repr_of_int (by simpa [PyData.showable] using hs) ⟨.str _, H, I.tok _, ⟨_, rfl⟩, q⟩
  | str x => obtain ⟨t, rfl⟩ := ru; exact PySem.P.repr_of_str ⟨.str _, H, I.tok _, ⟨_, rfl⟩, q⟩ (by simpa [PyData.shown] using hl)
  | lst _ _ _ => exact fin ru
  | tup _ _ => exact fin ru
  | emp _ => exact fin ru
  | one _ _ => exact fin ru
/-! ### lists that are no module table -/
def NewM (H : Hp) (o : HO) (Q : VK) : Prop := ∀ p H', p ≠ sysModules → H p = none → Same H H' → H' p = some o → Q (.ref p) H'
def tLstM (t : TA) : TE := fun σ H Q => t σ H fun xs H1 => xs.length ≤ sizeLine ∧ NewM H1 (.lst xs) Q
theorem lstM {es : List Expr} {t : TA} {pos : Pos} (h : PA X es t) : PE X (.List es pos) (tLstM t) := by
  constructor
  intro pins s σ H Q I hq
  refine wpAny_List_spliced ?_
  refine thn (h.run pos pins s σ H _ I hq) fun us s1 ⟨xs, H1, I1, r, z, q⟩ => ⟨by rw [← r.length]; exact z, ?_⟩
  have hn := I1.hok.fresh (Nat.le_refl s1.heap.objs.size)
  refine ⟨.ref s1.heap.objs.size, _, I1.laid (t' := s1.toks) (o := .lst xs) (fun b u e => Heap.get?_push_of_some _ e) (Nat.le_refl _) ?_, rfl,
    q _ _ (Nat.ne_of_gt I1.big) hn (same_new hn) upd_same⟩
  exact ⟨z, us, 0, r, Heap.get?_push_size _ rfl⟩
theorem call_listM : CallR X (.type "list") (fun xs H Q => ∃ p ys, xs = [.ref p] ∧ SqT X.K H p ys ∧ NewM H (.lst ys) Q) := by
  intro pins s σ H xs us Q I r h
  obtain ⟨p, ys, rfl, hq, q⟩ := h
  obtain ⟨u, rfl, rx⟩ := vals1 r
  cases rx
  have hn := I.hok.fresh (Nat.le_refl s.heap.objs.size)
  have fin : ∀ (its : List Value), Vals ys its → ys.length ≤ sizeLine → ∀ (h' : Heap) (c' : Nat), (∀ b o', s.heap.get? b = some o' → h'.get? b = some o') →
      h'.get? s.heap.objs.size = some { cls := .type "list", dict := none, data := .seq its.toArray c', slots := #[] } → EP X pins σ Q (.ref s.heap.objs.size) { s with heap := h' } := fun its r' hz h' c' kp e =>
    ⟨.ref s.heap.objs.size, _, I.laid (t' := s.toks) kp (Nat.le_refl _) (show ObjOk X.prog X.w _ h' _ (.lst ys) from ⟨hz, its, c', r', e⟩), rfl, q _ _ (Nat.ne_of_gt I.big) hn (same_new hn) upd_same⟩
  obtain ⟨its, r', tp, hz⟩ := I.tuple hq
  have hlen := r'.length
  obtain ⟨o, ho, hc, n, hd⟩ := tp
  exact call_list_seq p (.inr rfl) ho hc hd (fun h' c' kp e => fin its r' hz h' c' kp e) (by simp only [List.size_toArray] <;> omega)
/-- xs != [] -/
def rNeLNil (K : PySem.W.Frag) : R2 := fun x y H Q => ∃ a b xs, x = .ref a ∧ y = .ref b ∧ SqL K H a xs ∧ SqL K H b [] ∧ Q (.bl (!xs.isEmpty)) H
theorem op_neLNil (hu : X.A.units + 64 < cLine) : OpR X (compareOp .NotEq) (rNeLNil X.K) := by
  intro pins s σ H x y v u Q I rx ry h
  obtain ⟨a, b, xs, rfl, rfl, ha, hb, q⟩ := h
  cases rx
  cases ry
  obtain ⟨its, rv, p, _⟩ := I.list ha
  obtain ⟨its2, rv2, p2, _⟩ := I.list hb
  cases rv2
  have hl := rv.length
  cases xs with
  | nil =>
    have : its = [] := List.eq_nil_of_length_eq_zero hl.symm
    subst this
    obtain ⟨o, ho, hc, n, hd⟩ := p.isList
    obtain ⟨o2, ho2, hc2, n2, hd2⟩ := p2.isList
    exact SeqAt.compareNe_shaped (Reads.list ho hc hd .nil) (Reads.list ho2 hc2 hd2 .nil) rfl rfl hu ⟨.bl _, H, I, rfl, q⟩
  | cons x xs =>
    cases its with
    | nil => simp at hl
    | cons i its => exact SeqAt.RcNeAt.lists_lengths p.isList p2.isList (by simp) (by omega) X.prog X.w _ _ ⟨.bl _, H, I, rfl, q⟩
end
end Cl

set_option maxHeartbeats 0
namespace Cl
open PySem PySem.Spec PyProof.Rows L2
open GxR (TabB TabG)


section
variable {K : PySem.W.Frag}
theorem hideT {d l a : Addr} {H : Hp} {xs : List V} (D : Deck H d l) (h : SqT K H a xs) : SqT K (hide d l H) a xs := by
  obtain ⟨ns, s, c, h1, h2, _⟩ := D.ex
  rcases h with (h | ⟨o, h⟩) | h
  · exact .inl (.inl (by rw [hide_ne (ne_of h h1 (by intro z; cases z)) (ne_of h h2 (by intro z; cases z))]; exact h))
  · exact .inl (.inr ⟨o, by rw [hide_ne (ne_of h h1 (by intro z; cases z)) (ne_of h h2 (by intro z; cases z))]; exact h⟩)
  · exact .inr h
theorem unhideT {d l a : Addr} {H : Hp} {xs : List V} (h : SqT K (hide d l H) a xs) : SqT K H a xs := by
  rcases h with (h | ⟨o, h⟩) | h
  · exact .inl (.inl (hide_at h).2.2)
  · exact .inl (.inr ⟨o, (hide_at h).2.2⟩)
  · exact .inr h
theorem unhideK {d l : Addr} {H : Hp} {v : V} {T : String} (h : Kd K (hide d l H) v T) : Kd K H v T := by
  cases h with
  | non => exact .non
  | bl b => exact .bl b
  | int i => exact .int i
  | str x => exact .str x
  | lst h => exact .lst (by
      rcases h with (h | ⟨o, h⟩) | h
      · exact .inl (.inl (hide_at h).2.2)
      · exact .inl (.inr ⟨o, (hide_at h).2.2⟩)
      · exact .inr h)
  | tup h => exact .tup (unhideT h)
  | dct h => exact .dct (hide_at h).2.2
theorem Kd.upL {d l pD : Addr} {H : Hp} {xs ys : List V} {v : V} {T : String} (h : Kd K (hide d l H) v T) (e : H pD = some (.lst xs)) : Kd K (hide d l (upd H pD (.lst ys))) v T := by
  have ne : ∀ {b : Addr} {o : HO}, hide d l H b = some o → b ≠ pD → hide d l (upd H pD (.lst ys)) b = some o := fun {b o} z n => by
    obtain ⟨z1, z2, z3⟩ := hide_at z
    rw [hide_ne z1 z2, upd_ne n]
    exact z3
  have nt : ∀ {b : Addr} {o : HO}, hide d l H b = some o → (∀ ys, o ≠ .lst ys) → b ≠ pD := fun {b o} z n q => by
    have := (hide_at z).2.2
    rw [q, e] at this
    cases this
    exact n _ rfl
  cases h with
  | non => exact .non
  | bl b => exact .bl b
  | int i => exact .int i
  | str x => exact .str x
  | @lst a zs h =>
    rcases h with (h | ⟨o, h⟩) | h
    · by_cases q : a = pD
      · subst q
        obtain ⟨z1, z2, _⟩ := hide_at h
        exact .lst (.inl (.inl (by rw [hide_ne z1 z2]; exact upd_same)))
      · exact .lst (.inl (.inl (ne h q)))
    · exact .lst (.inl (.inr ⟨o, ne h (nt h (fun _ z => nomatch z))⟩))
    · exact .lst (.inr h)
  | tup h =>
    rcases h with (h | ⟨o, h⟩) | h
    · exact .tup (.inl (.inl (ne h (nt h (fun _ z => nomatch z)))))
    · exact .tup (.inl (.inr ⟨o, ne h (nt h (fun _ z => nomatch z))⟩))
    · exact .tup (.inr h)
  | dct h => exact .dct (ne h (nt h (fun _ z => nomatch z)))
/-! ### things: whole numbers, tuples of things, all else -/
mutual
inductive Tz (K : PySem.W.Frag) (d l : Addr) (H : Hp) : V → PyData → Prop
  | int (i : Int) : Tz K d l H (.int i) (.int i)
  | oth {v : V} {T : String} : Kd K (hide d l H) v T → T ≠ "tuple" → T ≠ "int" → Tz K d l H v .none
  | tup {a : Addr} {xs : List V} {ds : List PyData} : SqT K H a xs → TzAll K d l H xs ds → Tz K d l H (.ref a) (.tuple ds)
inductive TzAll (K : PySem.W.Frag) (d l : Addr) (H : Hp) : List V → List PyData → Prop
  | nil : TzAll K d l H [] []
  | cons {v : V} {vs : List V} {t : PyData} {ds : List PyData} : Tz K d l H v t → TzAll K d l H vs ds → TzAll K d l H (v :: vs) (t :: ds)
end
section
variable {d l : Addr} {H H' : Hp}
mutual
theorem Tz.keep (kt : ∀ a xs, SqT K H a xs → SqT K H' a xs) (kk : ∀ v T, Kd K (hide d l H) v T → Kd K (hide d l H') v T) : ∀ (t : PyData) (v : V), Tz K d l H v t → Tz K d l H' v t
  | .int _, _, h => by cases h; exact .int _
  | .none, _, h => by
    cases h with
    | oth h1 h2 h3 => exact .oth (kk _ _ h1) h2 h3
  | .tuple ds, _, h => by
    cases h with
    | tup h1 h2 => exact .tup (kt _ _ h1) (TzAll.keep kt kk ds _ h2)
  | .bool _, _, h => by cases h
  | .str _, _, h => by cases h
  | .list _, _, h => by cases h
  | .dict _, _, h => by cases h
theorem TzAll.keep (kt : ∀ a xs, SqT K H a xs → SqT K H' a xs) (kk : ∀ v T, Kd K (hide d l H) v T → Kd K (hide d l H') v T) : ∀ (ds : List PyData) (vs : List V), TzAll K d l H vs ds → TzAll K d l H' vs ds
  | [], _, h => by cases h; exact .nil
  | t :: ds, _, h => by
    cases h with
    | cons h1 h2 => exact .cons (Tz.keep kt kk t _ h1) (TzAll.keep kt kk ds _ h2)
end
theorem Tz.same {v : V} {t : PyData} (h : Tz K d l H v t) (s : Same H H') : Tz K d l H' v t := h.keep (fun _ _ e => seT s e) (fun _ _ e => e.same s.hide)
theorem TzAll.same {vs : List V} {ds : List PyData} (h : TzAll K d l H vs ds) (s : Same H H') : TzAll K d l H' vs ds := TzAll.keep (fun _ _ e => seT s e) (fun _ _ e => e.same s.hide) _ _ h
theorem Tz.step {v : V} {t : PyData} (h : Tz K d l H v t) (S : Step d l H H') (D : Deck H d l) : Tz K d l H' v t := h.keep (fun _ _ e => stT S D e) (fun _ _ e => e.same S.same)
theorem TzAll.step {vs : List V} {ds : List PyData} (h : TzAll K d l H vs ds) (S : Step d l H H') (D : Deck H d l) : TzAll K d l H' vs ds := TzAll.keep (fun _ _ e => stT S D e) (fun _ _ e => e.same S.same) _ _ h
theorem Tz.upL {pD : Addr} {ws ys : List V} {v : V} {t : PyData} (h : Tz K d l H v t) (e : H pD = some (.lst ws)) : Tz K d l (upd H pD (.lst ys)) v t := h.keep (fun _ _ q => updT e q) (fun _ _ q => q.upL e)
theorem TzAll.upL {pD : Addr} {ws ys : List V} {vs : List V} {ds : List PyData} (h : TzAll K d l H vs ds) (e : H pD = some (.lst ws)) : TzAll K d l (upd H pD (.lst ys)) vs ds := TzAll.keep (fun _ _ q => updT e q) (fun _ _ q => q.upL e) _ _ h
theorem Tz.lst {p : Addr} {xs : List V} (h1 : p ≠ d) (h2 : p ≠ l) (e : H p = some (.lst xs)) : Tz K d l H (.ref p) .none := .oth (.lst (.inl (.inl (by rw [hide_ne h1 h2]; exact e)))) (by decide) (by decide)
theorem Tz.dct {p : Addr} {kvs : List (Key × V)} (h1 : p ≠ d) (h2 : p ≠ l) (e : H p = some (.dK kvs)) : Tz K d l H (.ref p) .none := .oth (.dct (by rw [hide_ne h1 h2]; exact e)) (by decide) (by decide)
theorem Tz.bl {b : Bool} : Tz K d l H (.bl b) .none := .oth (.bl b) (by decide) (by decide)
theorem Tz.non : Tz K d l H .non .none := .oth .non (by decide) (by decide)
theorem Tz.str {x : Str} : Tz K d l H (.str x) .none := .oth (.str x) (by decide) (by decide)
theorem Tz.kd {v : V} {t : PyData} (h : Tz K d l H v t) : ∃ T, Kd K H v T ∧ (T = "tuple" ↔ ∃ ds, t = .tuple ds) ∧ (T = "int" ↔ ∃ i, t = .int i) := by
  cases h with
  | int i => exact ⟨_, .int i, by simp, by simp⟩
  | oth h1 h2 h3 => exact ⟨_, unhideK h1, by simp [h2], by simp [h3]⟩
  | tup h1 h2 => exact ⟨_, .tup h1, by simp, by simp⟩
def isID : PyData → Bool
  | .int _ => true
  | _ => false
theorem Tz.isI {v : V} {t : PyData} (h : Tz K d l H v t) : Cl.isI v = isID t := by
  cases h with
  | int i => rfl
  | oth h1 h2 h3 =>
    cases h1 <;> first | rfl | exact absurd rfl h3
  | tup h1 h2 => rfl
theorem TzAll.len : ∀ {xs : List V} {ds : List PyData}, TzAll K d l H xs ds → xs.length = ds.length
  | _, _, .nil => rfl
  | _, _, .cons _ h => by rw [List.length_cons, List.length_cons, h.len]
theorem TzAll.isI : ∀ {xs : List V} {ds : List PyData}, TzAll K d l H xs ds → xs.all Cl.isI = ds.all isID
  | _, _, .nil => rfl
  | _, _, .cons h1 h2 => by rw [List.all_cons, List.all_cons, h1.isI, h2.isI]
theorem TzAll.kd : ∀ {xs : List V} {ds : List PyData}, TzAll K d l H xs ds → ∀ x ∈ xs, ∃ T, Kd K H x T
  | _, _, .nil, x, hx => nomatch hx
  | _, _, .cons h1 h2, x, hx => by
    rcases List.mem_cons.mp hx with rfl | hx
    · obtain ⟨T, h, _⟩ := h1.kd
      exact ⟨T, h⟩
    · exact h2.kd x hx
theorem TzAll.get : ∀ {xs : List V} {ds : List PyData} {k : Nat} {y : PyData}, TzAll K d l H xs ds → ds[k]? = some y → ∃ v, xs[k]? = some v ∧ Tz K d l H v y
  | _, _, k, _, .nil, e => by simp at e
  | _, _, 0, _, .cons h1 _, e => by
    cases e
    exact ⟨_, rfl, h1⟩
  | _, _, k + 1, y, .cons (vs := vs) (ds := ds) _ h2, e => by
    have e : ds[k]? = some y := e
    obtain ⟨v, e1, e2⟩ := TzAll.get (k := k) h2 e
    exact ⟨v, e1, e2⟩
theorem TzAll.at {xs : List V} {ds : List PyData} {k : Nat} {x : V} (h : TzAll K d l H xs ds) (e : xs[k]? = some x) : ∃ y, ds[k]? = some y ∧ Tz K d l H x y := by
  have hk : k < ds.length := by
    rw [← h.len]
    exact (List.getElem?_eq_some_iff.mp e).1
  obtain ⟨v, e1, e2⟩ := h.get (List.getElem?_eq_getElem hk)
  rw [e] at e1
  cases e1
  exact ⟨_, List.getElem?_eq_getElem hk, e2⟩
theorem TzAll.two {xs : List V} {ds : List PyData} (h : TzAll K d l H xs ds) (e : ds.length = 2) : ∃ x y p r, xs = [x, y] ∧ ds = [p, r] ∧ Tz K d l H x p ∧ Tz K d l H y r := by
  cases h with
  | nil => cases e
  | cons h1 h2 =>
    cases h2 with
    | nil => cases e
    | cons h3 h4 =>
      cases h4 with
      | nil => exact ⟨_, _, _, _, rfl, rfl, h1, h3⟩
      | cons _ _ =>
        simp only [List.length_cons] at e
        omega
theorem TzAll.app : ∀ {vs : List V} {xs : List PyData}, TzAll K d l H vs xs → ∀ {ws : List V} {ys : List PyData}, TzAll K d l H ws ys → TzAll K d l H (vs ++ ws) (xs ++ ys)
  | _, _, .nil, _, _, h => h
  | _, _, .cons h1 h2, _, _, h => .cons h1 (TzAll.app h2 h)
theorem TzAll.rev : ∀ {vs : List V} {xs : List PyData}, TzAll K d l H vs xs → TzAll K d l H vs.reverse xs.reverse
  | _, _, .nil => .nil
  | _, _, .cons h1 h2 => by
    rw [List.reverse_cons, List.reverse_cons]
    exact TzAll.app h2.rev (.cons h1 .nil)
theorem TzAll.take : ∀ {xs : List V} {ds : List PyData} (n : Nat), TzAll K d l H xs ds → TzAll K d l H (xs.take n) (ds.take n)
  | _, _, 0, _ => .nil
  | _, _, n + 1, .nil => .nil
  | _, _, n + 1, .cons h1 h2 => .cons h1 (h2.take n)
theorem TzAll.drop : ∀ {xs : List V} {ds : List PyData} (n : Nat), TzAll K d l H xs ds → TzAll K d l H (xs.drop n) (ds.drop n)
  | _, _, 0, h => h
  | _, _, n + 1, .nil => .nil
  | _, _, n + 1, .cons h1 h2 => h2.drop n
def wholesD : PyData → Int → Bool
  | .tuple ds, m => decide ((ds.length : Int) = m) && ds.all isID
  | _, _ => false
theorem Tz.th {v : V} {t : PyData} (h : Tz K d l H v t) : ∃ o, Th K H v o ∧ (∀ m, wholes o m = wholesD t m) ∧ ∀ xs, o = some xs → ∃ ds, t = .tuple ds ∧ xs.length = ds.length := by
  cases h with
  | int i => exact ⟨none, ⟨_, .int i, by decide⟩, fun _ => rfl, fun _ e => nomatch e⟩
  | oth h1 h2 h3 => exact ⟨none, ⟨_, unhideK h1, h2⟩, fun _ => rfl, fun _ e => nomatch e⟩
  | tup h1 h2 => exact ⟨some _, ⟨_, rfl, h1, h2.kd⟩, fun m => by
      show (decide _ && _) = (decide _ && _)
      rw [h2.isI, h2.len], fun xs e => by cases e; exact ⟨_, rfl, h2.len⟩⟩
end
def gnD : PyData → Bool
  | .int i => decide (1 ≤ i)
  | _ => false
def ptD : PyData → Bool
  | .tuple [.int _, .int _] => true
  | _ => false
def lnD : PyData → Bool
  | .tuple [.tuple [.int a, .int b], .tuple [.int c, .int e]] => !decide (a = c ∧ b = e)
  | _ => false
def lsD : PyData → Bool
  | .tuple ds => ds.all lnD
  | _ => false
theorem wholesD_tup (ds : List PyData) (m : Int) : wholesD (.tuple ds) m = (decide ((ds.length : Int) = m) && ds.all isID) := rfl
theorem wholesD_2 (t : PyData) : wholesD t 2 = ptD t := by
  unfold ptD
  split
  · rfl
  · rename_i h
    cases t with
    | tuple ds =>
      match ds with
      | [] => rfl
      | [_] => rfl
      | [a, b] =>
        show (true && (isID a && (isID b && true))) = false
        cases a <;> cases b <;> first | rfl | exact absurd rfl (h _ _)
      | _ :: _ :: _ :: r =>
        rw [wholesD_tup, decide_eq_false (by simp only [List.length_cons]; omega), Bool.false_and]
    | _ => rfl
theorem lnD_no2 {ds : List PyData} (h : ds.length ≠ 2) : lnD (.tuple ds) = false := by
  unfold lnD
  split
  · rename_i e
    cases e
    exact absurd rfl h
  · rfl
theorem lnD_no {t : PyData} (h : ∀ ds, t ≠ .tuple ds) : lnD t = false := by
  unfold lnD
  split
  · exact absurd rfl (h _)
  · rfl
theorem lnD_1 {p q : PyData} (h : ptD p = false) : lnD (.tuple [p, q]) = false := by
  unfold lnD
  split
  · rename_i e
    cases e
    cases h
  · rfl
theorem lnD_2 {p q : PyData} (h : ptD q = false) : lnD (.tuple [p, q]) = false := by
  unfold lnD
  split
  · rename_i e
    cases e
    cases h
  · rfl
theorem ptD_ints {p : PyData} (h : ptD p = true) : ∃ a b, p = .tuple [.int a, .int b] := by
  unfold ptD at h
  split at h
  · exact ⟨_, _, rfl⟩
  · cases h
theorem Tz.pt {d l : Addr} {H : Hp} {v : V} {a b : Int} (h : Tz K d l H v (.tuple [.int a, .int b])) : ∃ p, v = .ref p ∧ SqT K H p [.int a, .int b] := by
  cases h with
  | tup h1 h2 =>
    cases h2 with
    | cons h3 h4 =>
      cases h3
      cases h4 with
      | cons h5 h6 =>
        cases h5
        cases h6
        exact ⟨_, rfl, h1⟩
end
section
variable {K : PySem.W.Frag}
def spTest (K : PySem.W.Frag) (f : PyData → Bool) : Sp := fun vs H Q _ => ∃ v t d l, vs = [v] ∧ Tz K d l H v t ∧ ∀ H', Same H H' → Q (.bl (f t)) H'
def spTestP (K : PySem.W.Frag) (P : Addr) (f : PyData → Bool) : Sp := fun vs H Q _ => ∃ v t d l, vs = [v] ∧ TabG H P ∧ Tz K d l H v t ∧ ∀ H', Same H H' → Q (.bl (f t)) H'
def spTestPP (K : PySem.W.Frag) (P P2 : Addr) (f : PyData → Bool) : Sp := fun vs H Q _ => ∃ v t d l, vs = [v] ∧ TabG H P ∧ TabG H P2 ∧ Tz K d l H v t ∧ ∀ H', Same H H' → Q (.bl (f t)) H'
end
end Cl

set_option maxHeartbeats 0
namespace Cl
open PySem PySem.Spec PyProof.Rows L2
open GxR (TabB TabG)

section
variable {P : Program} {w : World} {K : PySem.W.Frag} {mg : Str → Option Value} {base : Heap}

theorem qw_is_whole {f : Addr} {fd : FuncData} (F : Fun K "is_whole" "is_whole" sis_whole f fd) (T : Bt mg) (b : Binds K fd ["thing"] []) : QW P w K mg f :=
  qw_of (k := 0) F scis_whole rfl rfl rfl rfl T.isinstance T.int T.bool rfl b

theorem okare_wholes {f c Pt : Addr} {fd : FuncData} (F : Fun K "are_wholes" "are_wholes" sare_wholes f fd) (hc : fd.code = .ref c) (TB : GxR.TabB base mg c Pt) (T : Bt mg) {fw : Addr} (W : QW P w K mg fw) (hW : mg "is_whole" = some (.ref fw)) (kW : PySem.W.keepIn K (.ref fw) = true) :
    FnG P w K mg base CX0 3 f fd ["thing", "many"] (spAre K Pt) := by
  refine okGT (k := 2) F hc scare_wholes (fun vs H Q E h => ?_) (fun A outer s H vs Q E hr h => ?_)
  · obtain ⟨v, m, u, rfl, _⟩ := h
    rfl
  · obtain ⟨v, m, u, rfl, hT, hv, q⟩ := h
    refine ⟨_, (pss_one (ps_ret (pe_and (pe_callB call_isi (by rfl) T.isinstance (by decide +kernel) (pa_cons (pv 0) (pa_cons (pe_bltn (v := .ty "tuple") (by rfl) T.tuple (by decide +kernel) rfl) pa_nil))) (pe_and (pe_cmpR op_eq (pe_callB call_len_seq (by rfl) T.len (by decide +kernel) (pa_cons (pv 0) pa_nil)) (pv 1) (nomark _)) (pe_one (pe_allW hr.room (roomD hr.room) (by rfl) T.all TB rfl W hW kW (pv 0) (genS rfl rfl (by decide +kernel) rfl rfl) rfl)))))), ?_⟩
    cases u with
    | none =>
      obtain ⟨U, hk, nt⟩ := hv
      refine ⟨_, rfl, _, _, _, _, _, rfl, .ty _, hk.ty, kit_ty hk.tuple?, _, rfl, ?_⟩
      rw [decide_eq_false nt]
      exact iteF (q _ (.refl _))
    | some xs =>
      obtain ⟨a, rfl, hS, hp⟩ := hv
      refine ⟨_, rfl, _, _, _, _, _, rfl, .ty _, (Kd.tup hS).ty, kit_ty (Kd.tup hS).tuple?, _, rfl, iteT ?_⟩
      refine ⟨_, rfl, a, _, rfl, .inr hS, _, rfl, rfl, _, rfl, ite2 (fun e => ?_) (fun e => ?_)⟩
      · have hw : wholes (some xs) m = (xs.map isI).all id := by
          show (decide ((xs.length : Int) = m) && xs.all isI) = _
          rw [show decide ((xs.length : Int) = m) = true from decide_eq_true (V.int.inj (of_decide_eq_true e)), Bool.true_and, List.all_map]
          rfl
        refine ⟨_, rfl, a, xs, xs.map isI, rfl, hS, by simp, fun i x b hx hb => ?_, trivial, hT, fun H2 s t => ?_⟩
        · obtain ⟨U, hk⟩ := hp x (List.mem_of_getElem? hx)
          refine ⟨U, hk, ?_⟩
          rw [List.getElem?_map, hx] at hb
          exact (Option.some.inj hb).symm
        · have := q H2 s
          rw [hw] at this
          exact this
      · have hw : wholes (some xs) m = false := by
          show (decide ((xs.length : Int) = m) && xs.all isI) = _
          rw [show decide ((xs.length : Int) = m) = false from decide_eq_false fun z => e (decide_eq_true (by rw [z])), Bool.false_and]
        have := q H (.refl _)
        rw [hw] at this
        exact this

theorem okis_grain {f : Addr} {fd : FuncData} (F : Fun K "is_grain" "is_grain" sis_grain f fd) (T : Bt mg) (Dis_whole : Def P w K mg base 1 "is_whole" ["thing"] (spWhole K)) :
    FnG P w K mg base CX0 2 f fd ["thing"] (spTest K gnD) := by
  refine okG (k := 1) F scis_grain (fun vs H Q E h => ?_) (fun cdv A outer s H vs Q E hr h => ?_)
  · obtain ⟨v, t, d, l, rfl, _⟩ := h
    rfl
  · obtain ⟨v, t, d, l, rfl, hv, q⟩ := h
    refine ⟨_, (pss_one (ps_ret (pe_and (callD Dis_whole (hr.mono (by decide)) (pa_cons (pv 0) pa_nil)) (pe_one (pe_cmpR op_ge (pv 0) pe_int (nomark _)))))), ?_⟩
    obtain ⟨U, hk, _, _⟩ := hv.kd
    refine ⟨_, rfl, v, U, rfl, hk, _, rfl, ?_⟩
    rw [hv.isI]
    cases hv with
    | int i => exact iteT ⟨_, rfl, _, _, rfl, rfl, q H (.refl _)⟩
    | oth => exact iteF (q H (.refl _))
    | tup => exact iteF (q H (.refl _))

theorem okis_point {f Pt : Addr} {fd : FuncData} (F : Fun K "is_point" "is_point" sis_point f fd) (T : Bt mg) (Dare_wholes : Def P w K mg base 3 "are_wholes" ["thing", "many"] (spAre K Pt)) :
    FnG P w K mg base CX0 4 f fd ["thing"] (spTestP K Pt ptD) := by
  refine okG (k := 3) F scis_point (fun vs H Q E h => ?_) (fun cdv A outer s H vs Q E hr h => ?_)
  · obtain ⟨v, t, d, l, rfl, _⟩ := h
    rfl
  · obtain ⟨v, t, d, l, rfl, hT, hv, q⟩ := h
    refine ⟨_, (pss_one (ps_ret (callD Dare_wholes (hr.mono (by decide)) (pa_cons (pv 0) (pa_cons pe_int pa_nil))))), ?_⟩
    obtain ⟨o, ho, hw, _⟩ := hv.th
    refine ⟨_, rfl, v, 2, o, rfl, hT, ho, fun H1 s1 => ?_⟩
    rw [hw, wholesD_2]
    exact q H1 s1

theorem okis_line {f Pt : Addr} {fd : FuncData} (F : Fun K "is_line" "is_line" sis_line f fd) (T : Bt mg) (Dis_point : Def P w K mg base 4 "is_point" ["thing"] (spTestP K Pt ptD)) :
    FnG P w K mg base CX0 5 f fd ["thing"] (spTestP K Pt lnD) := by
  refine okG (k := 4) F scis_line (fun vs H Q E h => ?_) (fun cdv A outer s H vs Q E hr h => ?_)
  · obtain ⟨v, t, d, l, rfl, _⟩ := h
    rfl
  · obtain ⟨v, t, d, l, rfl, hT, hv, q⟩ := h
    refine ⟨_, (cutS (ps_if (PW.pt (pw_or (pt_not (pt_val (pe_callB call_isi (by rfl) T.isinstance (by decide +kernel) (pa_cons (pv 0) (pa_cons (pe_bltn (v := .ty "tuple") (by rfl) T.tuple (by decide +kernel) rfl) pa_nil))))) (pw_or1 (pt_cmpR op_ne (pe_callB call_len_seq (by rfl) T.len (by decide +kernel) (pa_cons (pv 0) pa_nil)) pe_int (nomark _))))) (pss_one (ps_ret pe_bl)) pss_nil)
      (pss_one (ps_ret (pe_and (callD Dis_point (hr.mono (by decide)) (pa_cons (pe_ix ix_tup (pv 0) pe_int (fun _ _ => rfl)) pa_nil)) (pe_and (callD Dis_point (hr.mono (by decide)) (pa_cons (pe_ix ix_tup (pv 0) pe_int (fun _ _ => rfl)) pa_nil)) (pe_one (pe_cmpR (op_neD hr.room.units) (pe_ix ix_tup (pv 0) pe_int (fun _ _ => rfl)) (pe_ix ix_tup (pv 0) pe_int (fun _ _ => rfl)) (nomark _)))))))), ?_⟩
    obtain ⟨U, hk, ht, _⟩ := hv.kd
    refine ⟨fun σ' H' => σ' = [some v] ∧ H' = H ∧ ∃ a x y p q, v = .ref a ∧ SqT K H a [x, y] ∧ t = .tuple [p, q] ∧ Tz K d l H x p ∧ Tz K d l H y q, ?_, ?_⟩
    · refine ⟨_, rfl, _, _, _, _, _, rfl, .ty _, hk.ty, kit_ty hk.tuple?, _, rfl, ?_⟩
      by_cases e0 : U = "tuple"
      · rw [decide_eq_true e0]
        obtain ⟨ds, rfl⟩ := ht.mp e0
        cases hv with
        | @tup a xs _ hS hall =>
        have lx := hall.len
        refine iteF ⟨_, rfl, a, xs, rfl, .inr hS, rfl, _, rfl, ite2 (fun e => ?_) (fun e => ?_)⟩
        · have ne : ds.length ≠ 2 := fun z => by
            rw [show xs.length = 2 from lx.trans z] at e
            exact absurd e (by decide)
          have := q H (.refl _)
          rw [lnD_no2 ne] at this
          exact this
        · have el : ds.length = 2 := Decidable.by_contra fun z => e (by
            have : ¬ V.int ((xs.length : Nat) : Int) = .int 2 := fun y => by
              have := V.int.inj y
              omega
            simp [this])
          obtain ⟨x, y, p, r, rfl, rfl, hx, hy⟩ := hall.two el
          exact ⟨rfl, rfl, a, x, y, p, r, rfl, hS, rfl, hx, hy⟩
      · rw [decide_eq_false e0]
        have := q H (.refl _)
        rw [lnD_no fun ds e => e0 (ht.mpr ⟨ds, e⟩)] at this
        exact iteT (iteT this)
    · rintro σ' H' ⟨rfl, rfl, a, x, y, p, r, rfl, hS, rfl, hx, hy⟩
      have hv := hv
      refine ⟨_, rfl, a, _, 0, x, rfl, rfl, hS, rfl, x, p, d, l, rfl, hT, hx, fun H1 s1 => ⟨_, rfl, ?_⟩⟩
      cases hp : ptD p with
      | false =>
        have := q H1 s1
        rw [lnD_1 hp] at this
        exact iteF this
      | true =>
        refine iteT ⟨_, rfl, a, _, 1, y, rfl, rfl, seT s1 hS, rfl, y, r, d, l, rfl, s1.tab hT, hy.same s1, fun H2 s2 => ⟨_, rfl, ?_⟩⟩
        have s12 := s1.trans s2
        cases hr2 : ptD r with
        | false =>
          have := q H2 s12
          rw [lnD_2 hr2] at this
          exact iteF this
        | true =>
          obtain ⟨i, j, rfl⟩ := ptD_ints hp
          obtain ⟨m, n, rfl⟩ := ptD_ints hr2
          obtain ⟨u1, rfl, h1⟩ := (hx.same s12).pt
          obtain ⟨u2, rfl, h2⟩ := (hy.same s12).pt
          refine iteT ⟨_, rfl, a, _, 0, _, rfl, rfl, seT s12 hS, rfl, _, rfl, a, _, 1, _, rfl, rfl, seT s12 hS, rfl, ?_⟩
          have := q H2 s12
          refine ⟨_, _, At2.dp (p := (i, j)) ⟨u1, rfl, h1⟩, At2.dp (p := (m, n)) ⟨u2, rfl, h2⟩, rfl, rfl, ?_⟩
          rw [show PyData.eqv (pd (i, j)) (pd (m, n)) = decide (i = m ∧ j = n) from eqv_pair _ _ _ _]
          exact this

end
end Cl

set_option maxHeartbeats 0
namespace Cl
open PySem PySem.Spec PyProof.Rows L2
open GxR (TabB TabG)

section
variable {P : Program} {w : World} {K : PySem.W.Frag} {mg : Str → Option Value} {base : Heap}

theorem okare_lines {f c Pt Pa : Addr} {fd : FuncData} (F : Fun K "are_lines" "are_lines" sare_lines f fd) (hc : fd.code = .ref c) (TB : GxR.TabB base mg c Pt) (T : Bt mg) (Dis_line : Def P w K mg base 5 "is_line" ["thing"] (spTestP K Pa lnD)) :
    FnG P w K mg base CX0 8 f fd ["thing"] (spTestPP K Pa Pt lsD) := by
  refine okGT (k := 7) F hc scare_lines (fun vs H Q E h => ?_) (fun A outer s H vs Q E hr h => ?_)
  · obtain ⟨v, t, d, l, rfl, _⟩ := h
    rfl
  · obtain ⟨v, t, d, l, rfl, hTa, hT, hv, q⟩ := h
    refine ⟨_, (pss_one (ps_ret (pe_and (pe_callB call_isi (by rfl) T.isinstance (by decide +kernel) (pa_cons (pv 0) (pa_cons (pe_bltn (v := .ty "tuple") (by rfl) T.tuple (by decide +kernel) rfl) pa_nil))) (pe_one (pe_allN (k := 5) (c := c) (P := Pt) hr (by rfl) T.all TB rfl (genK_by (sc := defScope sare_lines) (by decide +kernel)) (show ¬ ("part" : Str) ∈ (["thing"] : List Str) from by decide) (show ¬ (".0" : Str) ∈ (["thing"] : List Str) from by decide) scare_lines.nd (pv 0) (fun s1 H1 C code hr2 => callD Dis_line (hr2.mono (by decide)) (pa_cons (pe_var (i := 0) rfl (.inl rfl)) pa_nil))))))), ?_⟩
    obtain ⟨U, hk, ht, _⟩ := hv.kd
    refine ⟨_, rfl, _, _, _, _, _, rfl, .ty _, hk.ty, kit_ty hk.tuple?, _, rfl, ?_⟩
    by_cases e0 : U = "tuple"
    · rw [decide_eq_true e0]
      obtain ⟨ds, rfl⟩ := ht.mp e0
      cases hv with
      | @tup a xs _ hS hall =>
      have lx := hall.len
      refine iteT ⟨_, rfl, a, xs, fun i => lnD (ds.getD i .none), fun i H' => Same H H' ∧ TabG H' Pt, rfl, hS, hT, fun i H' z => seT z.1 hS, fun H2 s2 t2 => ⟨s2, t2⟩, fun i x H2 hx z => ?_, fun i H2 hi hb z => ?_, fun H2 hb z => ?_⟩
      · obtain ⟨y, ey, hy⟩ := hall.at hx
        refine ⟨_, rfl, x, y, d, l, rfl, z.1.tab hTa, hy.same z.1, fun H3 s3 => ⟨?_, z.1.trans s3, s3.tab z.2⟩⟩
        show V.bl (lnD y) = V.bl (lnD (ds.getD i .none))
        rw [List.getD_eq_getElem?_getD, ey]
        rfl
      · have := q H2 z.1
        rw [show lsD (.tuple ds) = false from Bool.eq_false_iff.mpr fun e => by
          have := List.all_eq_true.mp e (ds.getD i .none) (by rw [List.getD_eq_getElem?_getD, List.getElem?_eq_getElem (by omega : i < ds.length)]; exact List.getElem_mem _)
          have hb : lnD (ds.getD i .none) = false := hb
          rw [this] at hb
          cases hb] at this
        exact this
      · have := q H2 z.1
        rw [show lsD (.tuple ds) = true from List.all_eq_true.mpr fun y hy => by
          obtain ⟨i, hi, e⟩ := List.getElem_of_mem hy
          have : lnD (ds.getD i .none) = true := hb i (by omega)
          rw [List.getD_eq_getElem?_getD, List.getElem?_eq_getElem hi] at this
          rw [← e]
          exact this] at this
        exact this
    · rw [decide_eq_false e0]
      have := q H (.refl _)
      rw [show lsD t = false from by
        unfold lsD
        split
        · exact absurd (ht.mpr ⟨_, rfl⟩) e0
        · rfl] at this
      exact iteF this

end
end Cl

set_option maxHeartbeats 0
namespace Cl
open PySem PySem.Spec PyProof.Rows L2
open GxR (TabB TabG)


def spLAre (K : PySem.W.Frag) : Sp := fun vs H Q _ => ∃ v m u, vs = [v, .int m] ∧ m ≤ 900 ∧ Th K H v u ∧ ∀ H', Same H H' → Q (.bl (wholes u m)) H'

section
variable {P : Program} {w : World} {K : PySem.W.Frag} {mg : Str → Option Value} {base : Heap}

theorem ok_law_are_whole {f : Addr} {fd : FuncData} (F : Fun K "_law_are_whole" "_law_are_whole" s_law_are_whole f fd) (T : Bt mg) (D_law_whole : Def P w K mg base 1 "_law_whole" ["_law_thing"] (spWhole K)) :
    FnG P w K mg base CX0 2 f fd ["_law_thing", "_law_many"] (spLAre K) := by
  refine okG (k := 1) F sc_law_are_whole (fun vs H Q E h => ?_) (fun cdv A outer s H vs Q E hr h => ?_)
  · obtain ⟨v, m, u, rfl, _⟩ := h
    rfl
  · obtain ⟨v, m, u, rfl, hm, hv, q⟩ := h
    refine ⟨_, (pss_one (ps_ret (pe_and (pe_callB call_isi (by rfl) T.isinstance (by decide +kernel) (pa_cons (pv 0) (pa_cons (pe_bltn (v := .ty "tuple") (by rfl) T.tuple (by decide +kernel) rfl) pa_nil))) (pe_and (pe_cmpR op_eq (pe_callB call_len_seq (by rfl) T.len (by decide +kernel) (pa_cons (pv 0) pa_nil)) (pv 1) (nomark _)) (pe_one (pe_cmpR (op_eqNil hr.room.units) (pe_lc (own := [("_law_one", 2)]) (g := gName 2) (by rfl) sc_law_are_whole.nd (pi_tup (pv 0)) (blkOk_by (own := [("_law_one", 2)]) (N := ["_law_thing", "_law_many", "_law_one"]) (sc := defScope s_law_are_whole) (by decide +kernel)) (fun _ _ _ _ _ => (pg_name (i := 2) sc_law_are_whole.nd rfl (.inl rfl))) (fun _ _ _ _ _ => (pts_one (pt_not (pt_val (callD D_law_whole (hr.mono (by decide)) (pa_cons (pv 2) pa_nil)))))) (fun _ _ _ _ _ => (pv 2))) (lstN pa_nil) (nomark _))))))), ?_⟩
    cases u with
    | none =>
      obtain ⟨U, hk, nt⟩ := hv
      refine ⟨_, rfl, _, _, _, _, _, rfl, .ty _, hk.ty, kit_ty hk.tuple?, _, rfl, ?_⟩
      rw [decide_eq_false nt]
      exact iteF (q _ (.refl _))
    | some xs =>
      obtain ⟨a, rfl, hS, hp⟩ := hv
      refine ⟨_, rfl, _, _, _, _, _, rfl, .ty _, (Kd.tup hS).ty, kit_ty (Kd.tup hS).tuple?, _, rfl, iteT ?_⟩
      refine ⟨_, rfl, a, _, rfl, .inr hS, _, rfl, rfl, _, rfl, ite2 (fun e => ?_) (fun e => ?_)⟩
      · have hl : xs.length ≤ 900 := by
          have := V.int.inj (of_decide_eq_true e)
          omega
        have hw : wholes (some xs) m = (xs.filter fun x => !isI x).isEmpty := by
          show (decide ((xs.length : Int) = m) && xs.all isI) = _
          rw [show decide ((xs.length : Int) = m) = true from decide_eq_true (V.int.inj (of_decide_eq_true e)), Bool.true_and, Bool.eq_iff_iff, List.all_eq_true, List.isEmpty_iff, List.filter_eq_nil_iff]
          simp
        refine ⟨_, rfl, a, rfl, ⟨_, hS⟩, fun p1 n1 => ?_⟩
        refine lcT (K := K) (a := a) (xs := xs) (fun i H' => Same H H' ∧ H' p1 = some (.lst ((xs.take i).filter fun x => !isI x))) n1 (fun H' e1 e2 => ⟨e1, e2⟩) (fun i H' _ z => seT z.1 hS) (fun i x H' hx z => ?_) (fun H5 z => ?_)
        · obtain ⟨U, hk⟩ := hp x (List.mem_of_getElem? hx)
          obtain ⟨z1, z2⟩ := z
          have ht : xs.take (i + 1) = xs.take i ++ [x] := by
            rw [List.take_add_one, hx]
            rfl
          refine ⟨rfl, _, rfl, x, U, rfl, hk.same z1, _, rfl, ?_⟩
          cases hi : isI x with
          | true =>
            refine iteF ⟨z1, ?_⟩
            rw [ht, List.filter_append, show List.filter (fun x => !isI x) [x] = [] by simp [hi], List.append_nil]
            exact z2
          | false =>
            have hlen : ((xs.take i).filter fun x => !isI x).length ≤ 900 := Nat.le_trans (List.length_filter_le _ _) (by rw [List.length_take]; omega)
            obtain ⟨acc, a1, a2, a3, a4⟩ := acc_new (y := x) n1 z1 z2 hlen
            refine iteT ⟨_, rfl, acc, a1, a2, a3, ?_⟩
            rw [ht, List.filter_append, show List.filter (fun x => !isI x) [x] = [x] by simp [hi]]
            exact a4
        · obtain ⟨z1, z2⟩ := z
          rw [List.take_of_length_le (Nat.le_refl _)] at z2
          refine ⟨Nat.zero_le _, fun p6 H6 n6 s6 g6 => ⟨p1, p6, _, rfl, rfl, .inl (.inl (s6 _ _ z2)), .inl (.inl g6), ?_⟩⟩
          have := q H6 (z1.trans s6)
          rw [hw] at this
          exact this
      · have hw : wholes (some xs) m = false := by
          show (decide ((xs.length : Int) = m) && xs.all isI) = _
          rw [show decide ((xs.length : Int) = m) = false from decide_eq_false fun z => e (decide_eq_true (by rw [z])), Bool.false_and]
        have := q H (.refl _)
        rw [hw] at this
        exact this

theorem ok_law_is_line {f : Addr} {fd : FuncData} (F : Fun K "_law_is_line" "_law_is_line" s_law_is_line f fd) (T : Bt mg) (D_law_are_whole : Def P w K mg base 2 "_law_are_whole" ["_law_thing", "_law_many"] (spLAre K)) :
    FnG P w K mg base CX0 3 f fd ["_law_thing"] (spTest K lnD) := by
  refine okG (k := 2) F sc_law_is_line (fun vs H Q E h => ?_) (fun cdv A outer s H vs Q E hr h => ?_)
  · obtain ⟨v, t, d, l, rfl, _⟩ := h
    rfl
  · obtain ⟨v, t, d, l, rfl, hv, q⟩ := h
    refine ⟨_, (cutS (ps_if (PW.pt (pw_or (pt_not (pt_val (pe_callB call_isi (by rfl) T.isinstance (by decide +kernel) (pa_cons (pv 0) (pa_cons (pe_bltn (v := .ty "tuple") (by rfl) T.tuple (by decide +kernel) rfl) pa_nil))))) (pw_or1 (pt_cmpR op_ne (pe_callB call_len_seq (by rfl) T.len (by decide +kernel) (pa_cons (pv 0) pa_nil)) pe_int (nomark _))))) (pss_one (ps_ret pe_bl)) pss_nil)
      (pss_one (ps_ret (pe_and (callD D_law_are_whole (hr.mono (by decide)) (pa_cons (pe_ix ix_tup (pv 0) pe_int (fun _ _ => rfl)) (pa_cons pe_int pa_nil))) (pe_and (callD D_law_are_whole (hr.mono (by decide)) (pa_cons (pe_ix ix_tup (pv 0) pe_int (fun _ _ => rfl)) (pa_cons pe_int pa_nil))) (pe_one (pe_cmpR (op_neD hr.room.units) (pe_ix ix_tup (pv 0) pe_int (fun _ _ => rfl)) (pe_ix ix_tup (pv 0) pe_int (fun _ _ => rfl)) (nomark _)))))))), ?_⟩
    obtain ⟨U, hk, ht, _⟩ := hv.kd
    refine ⟨fun σ' H' => σ' = [some v] ∧ H' = H ∧ ∃ a x y p q, v = .ref a ∧ SqT K H a [x, y] ∧ t = .tuple [p, q] ∧ Tz K d l H x p ∧ Tz K d l H y q, ?_, ?_⟩
    · refine ⟨_, rfl, _, _, _, _, _, rfl, .ty _, hk.ty, kit_ty hk.tuple?, _, rfl, ?_⟩
      by_cases e0 : U = "tuple"
      · rw [decide_eq_true e0]
        obtain ⟨ds, rfl⟩ := ht.mp e0
        cases hv with
        | @tup a xs _ hS hall =>
        have lx := hall.len
        refine iteF ⟨_, rfl, a, xs, rfl, .inr hS, rfl, _, rfl, ite2 (fun e => ?_) (fun e => ?_)⟩
        · have ne : ds.length ≠ 2 := fun z => by
            rw [show xs.length = 2 from lx.trans z] at e
            exact absurd e (by decide)
          have := q H (.refl _)
          rw [lnD_no2 ne] at this
          exact this
        · have el : ds.length = 2 := Decidable.by_contra fun z => e (by
            have : ¬ V.int ((xs.length : Nat) : Int) = .int 2 := fun y => by
              have := V.int.inj y
              omega
            simp [this])
          obtain ⟨x, y, p, r, rfl, rfl, hx, hy⟩ := hall.two el
          exact ⟨rfl, rfl, a, x, y, p, r, rfl, hS, rfl, hx, hy⟩
      · rw [decide_eq_false e0]
        have := q H (.refl _)
        rw [lnD_no fun ds e => e0 (ht.mpr ⟨ds, e⟩)] at this
        exact iteT (iteT this)
    · rintro σ' H' ⟨rfl, rfl, a, x, y, p, r, rfl, hS, rfl, hx, hy⟩
      obtain ⟨ox, hox, hwx, _⟩ := hx.th
      obtain ⟨oy, hoy, hwy, _⟩ := hy.th
      refine ⟨_, rfl, a, _, 0, x, rfl, rfl, hS, rfl, x, 2, ox, rfl, by decide, hox, fun H1 s1 => ⟨_, rfl, ?_⟩⟩
      rw [hwx, wholesD_2]
      cases hp : ptD p with
      | false =>
        have := q H1 s1
        rw [lnD_1 hp] at this
        exact iteF this
      | true =>
        refine iteT ⟨_, rfl, a, _, 1, y, rfl, rfl, seT s1 hS, rfl, y, 2, oy, rfl, by decide, hoy.same s1, fun H2 s2 => ⟨_, rfl, ?_⟩⟩
        rw [hwy, wholesD_2]
        have s12 := s1.trans s2
        cases hr2 : ptD r with
        | false =>
          have := q H2 s12
          rw [lnD_2 hr2] at this
          exact iteF this
        | true =>
          obtain ⟨i, j, rfl⟩ := ptD_ints hp
          obtain ⟨m, n, rfl⟩ := ptD_ints hr2
          obtain ⟨u1, rfl, h1⟩ := (hx.same s12).pt
          obtain ⟨u2, rfl, h2⟩ := (hy.same s12).pt
          refine iteT ⟨_, rfl, a, _, 0, _, rfl, rfl, seT s12 hS, rfl, _, rfl, a, _, 1, _, rfl, rfl, seT s12 hS, rfl, ?_⟩
          have := q H2 s12
          refine ⟨_, _, At2.dp (p := (i, j)) ⟨u1, rfl, h1⟩, At2.dp (p := (m, n)) ⟨u2, rfl, h2⟩, rfl, rfl, ?_⟩
          rw [show PyData.eqv (pd (i, j)) (pd (m, n)) = decide (i = m ∧ j = n) from eqv_pair _ _ _ _]
          exact this

end
end Cl

set_option maxHeartbeats 0
namespace Cl
open PySem PySem.Spec PyProof.Rows L2
open GxR (TabB TabG)


theorem fineB (b : Bool) : Fine (.bool b) := by cases b <;> constructor <;> decide
theorem neSame {x : V} {a b : Prop} (h : b) : (if (!decide (x = x)) = true then a else b) := by rw [if_neg (by simp)]; exact h
theorem eqSame (x : V) : decide (x = x) = true := decide_eq_true rfl
def spRightT (K : PySem.W.Frag) (P P2 : Addr) : Sp := fun vs H Q _ => ∃ v t d l, vs = [v] ∧ TabG H P ∧ TabG H P2 ∧ Tz K d l H v t ∧ (∀ ds, t = .tuple ds → ds.length ≤ 900) ∧ ∀ H', Same H H' → Q (.bl true) H'

section
variable {P : Program} {w : World} {K : PySem.W.Frag} {mg : Str → Option Value} {base : Heap}

theorem ok_law_right {f Pa Pb : Addr} {fd : FuncData} (F : Fun K "_law_right" "_law_right" s_law_right f fd) (T : Bt mg) (Dis_grain : Def P w K mg base 2 "is_grain" ["thing"] (spTest K gnD)) (Dis_point : Def P w K mg base 4 "is_point" ["thing"] (spTestP K Pa ptD)) (Dis_line : Def P w K mg base 5 "is_line" ["thing"] (spTestP K Pa lnD)) (Dare_lines : Def P w K mg base 8 "are_lines" ["thing"] (spTestPP K Pa Pb lsD)) (D_law_whole : Def P w K mg base 1 "_law_whole" ["_law_thing"] (spWhole K)) (D_law_are_whole : Def P w K mg base 2 "_law_are_whole" ["_law_thing", "_law_many"] (spLAre K)) (D_law_is_line : Def P w K mg base 3 "_law_is_line" ["_law_thing"] (spTest K lnD)) :
    FnG P w K mg base CX0 9 f fd ["_law_thing"] (spRightT K Pa Pb) := by
  refine okG (k := 8) F sc_law_right (fun vs H Q E h => ?_) (fun cdv A outer s H vs Q E hr h => ?_)
  · obtain ⟨v, t, d, l, rfl, _⟩ := h
    rfl
  · obtain ⟨v, t, d, l, rfl, hTa, hTb, hv, hl, q⟩ := h
    refine ⟨_, (cutS (ps_if (pt_cmpR op_ne (pe_callB (call_repr hr.gd hr.room.units) (by rfl) T.repr (by decide +kernel) (pa_cons (callD Dis_grain (hr.mono (by decide)) (pa_cons (pv 0) pa_nil)) pa_nil)) (pe_callB (call_repr hr.gd hr.room.units) (by rfl) T.repr (by decide +kernel) (pa_cons (pe_and (callD D_law_whole (hr.mono (by decide)) (pa_cons (pv 0) pa_nil)) (pe_one (pe_cmpR op_gt (pv 0) pe_int (nomark _)))) pa_nil)) (nomark _)) (pss_one (ps_ret pe_bl)) pss_nil)
      (cutS (ps_if (PW.pt (pw_or (pt_cmpR op_ne (pe_callB (call_repr hr.gd hr.room.units) (by rfl) T.repr (by decide +kernel) (pa_cons (callD Dis_point (hr.mono (by decide)) (pa_cons (pv 0) pa_nil)) pa_nil)) (pe_callB (call_repr hr.gd hr.room.units) (by rfl) T.repr (by decide +kernel) (pa_cons (callD D_law_are_whole (hr.mono (by decide)) (pa_cons (pv 0) (pa_cons pe_int pa_nil))) pa_nil)) (nomark _)) (pw_or1 (pt_cmpR op_ne (pe_callB (call_repr hr.gd hr.room.units) (by rfl) T.repr (by decide +kernel) (pa_cons (callD Dis_line (hr.mono (by decide)) (pa_cons (pv 0) pa_nil)) pa_nil)) (pe_callB (call_repr hr.gd hr.room.units) (by rfl) T.repr (by decide +kernel) (pa_cons (callD D_law_is_line (hr.mono (by decide)) (pa_cons (pv 0) pa_nil)) pa_nil)) (nomark _))))) (pss_one (ps_ret pe_bl)) pss_nil)
      (pss_cons (ps_set (i := 1) sc_law_right.nd rfl (.inl rfl) (pe_and (pe_callB call_isi (by rfl) T.isinstance (by decide +kernel) (pa_cons (pv 0) (pa_cons (pe_bltn (v := .ty "tuple") (by rfl) T.tuple (by decide +kernel) rfl) pa_nil))) (pe_one (pe_cmpR (op_eqNil hr.room.units) (pe_lc (own := [("_law_one", 2)]) (g := gName 2) (by rfl) sc_law_right.nd (pi_tup (pv 0)) (blkOk_by (own := [("_law_one", 2)]) (N := ["_law_thing", "_law_due", "_law_one"]) (sc := defScope s_law_right) (by decide +kernel)) (fun _ _ _ _ _ => (pg_name (i := 2) sc_law_right.nd rfl (.inl rfl))) (fun _ _ _ _ _ => (pts_one (pt_not (pt_val (callD D_law_is_line (hr.mono (by decide)) (pa_cons (pv 2) pa_nil)))))) (fun _ _ _ _ _ => (pv 2))) (lstN pa_nil) (nomark _)))))
      (pss_one (ps_ret (pe_cmpR op_eq (pe_callB (call_repr hr.gd hr.room.units) (by rfl) T.repr (by decide +kernel) (pa_cons (callD Dare_lines (hr.mono (by decide)) (pa_cons (pv 0) pa_nil)) pa_nil)) (pe_callB (call_repr hr.gd hr.room.units) (by rfl) T.repr (by decide +kernel) (pa_cons (pv 1) pa_nil)) (nomark _))))))), ?_⟩
    obtain ⟨U, hk, ht, hi⟩ := hv.kd
    refine ⟨fun σ' H' => σ' = [some v, none, none] ∧ Same H H', ?_, ?_⟩
    · refine ⟨_, rfl, v, t, d, l, rfl, hv, fun H1 s1 => ⟨_, .bool _, rfl, .bl _, fineB _, ?_⟩⟩
      refine ⟨_, rfl, v, U, rfl, hk.same s1, _, rfl, ?_⟩
      rw [hv.isI]
      cases hv with
      | int i => exact iteT ⟨_, rfl, _, _, rfl, rfl, ⟨_, .bool _, rfl, .bl _, fineB _, rfl, _, rfl, neSame ⟨rfl, s1⟩⟩⟩
      | oth => exact iteF ⟨_, .bool _, rfl, .bl _, fineB _, rfl, _, rfl, neSame ⟨rfl, s1⟩⟩
      | tup => exact iteF ⟨_, .bool _, rfl, .bl _, fineB _, rfl, _, rfl, neSame ⟨rfl, s1⟩⟩
    · rintro σ' H1 ⟨rfl, s1⟩
      refine ⟨fun σ' H' => σ' = [some v, none, none] ∧ Same H H', ?_, ?_⟩
      · obtain ⟨o, ho, hw, _⟩ := (hv.same s1).th
        refine ⟨_, rfl, v, t, d, l, rfl, s1.tab hTa, hv.same s1, fun H2 s2 => ⟨_, .bool _, rfl, .bl _, fineB _, ?_⟩⟩
        have s12 := s1.trans s2
        refine ⟨_, rfl, v, 2, o, rfl, by decide, ho.same s2, fun H3 s3 => ⟨_, .bool _, rfl, .bl _, fineB _, rfl, _, rfl, ?_⟩⟩
        have s13 := s12.trans s3
        rw [hw, wholesD_2]
        refine neSame ?_
        refine ⟨_, rfl, v, t, d, l, rfl, s13.tab hTa, hv.same s13, fun H4 s4 => ⟨_, .bool _, rfl, .bl _, fineB _, ?_⟩⟩
        have s14 := s13.trans s4
        refine ⟨_, rfl, v, t, d, l, rfl, hv.same s14, fun H5 s5 => ⟨_, .bool _, rfl, .bl _, fineB _, rfl, _, rfl, neSame ⟨rfl, s14.trans s5⟩⟩⟩
      · rintro σ' H2 ⟨rfl, s2⟩
        obtain ⟨U, hk, ht, hi⟩ := (hv.same s2).kd
        have fin : ∀ {H3 : Hp} {σ3 : L2.St}, Same H2 H3 → σ3 = [some v, some (.bl (lsD t)), none] → (tRet (tOp rEq (tCB (rReprF K) (tCons (tCall (spTestPP K Pa Pb lsD) [] E0 (tCons (tVar 0) tNil)) tNil)) (tCB (rReprF K) (tCons (tVar 1) tNil)))) { nx := fun x H' => Q V.non H', rt := Q } σ3 H3 := fun {H3 σ3} s3 e => by
          subst e
          have s23 := s2.trans s3
          refine ⟨_, rfl, v, t, d, l, rfl, s23.tab hTa, s23.tab hTb, hv.same s23, fun H4 s4 => ⟨_, .bool _, rfl, .bl _, fineB _, ?_⟩⟩
          refine ⟨_, rfl, _, .bool _, rfl, .bl _, fineB _, rfl, ?_⟩
          have := q H4 (s23.trans s4)
          rw [eqSame]
          exact this
        refine ⟨_, rfl, _, _, _, _, _, rfl, .ty _, hk.ty, kit_ty hk.tuple?, _, rfl, ?_⟩
        by_cases e0 : U = "tuple"
        · rw [decide_eq_true e0]
          obtain ⟨ds, rfl⟩ := ht.mp e0
          cases hv.same s2 with
          | @tup a xs _ hS hall =>
          have lx := hall.len
          have hl := hl ds rfl
          refine iteT ⟨_, rfl, a, rfl, ⟨_, hS⟩, fun p1 n1 => ?_⟩
          refine lcT (K := K) (a := a) (xs := xs) (fun i H' => Same H2 H' ∧ ∃ ws, H' p1 = some (.lst ws) ∧ ws.length ≤ i ∧ ws.isEmpty = (ds.take i).all lnD) n1 (fun H' e1 e2 => ⟨e1, [], e2, Nat.le_refl _, rfl⟩) (fun i H' _ z => seT z.1 hS) (fun i x H' hx z => ?_) (fun H5 z => ?_)
          · obtain ⟨z1, ws, z2, z3, z4⟩ := z
            obtain ⟨y, ey, hy⟩ := hall.at hx
            have hi : i < xs.length := (List.getElem?_eq_some_iff.mp hx).1
            have tk : (ds.take (i + 1)).all lnD = ((ds.take i).all lnD && lnD y) := by
              rw [List.take_add_one, ey, List.all_append]
              simp
            refine ⟨rfl, _, rfl, x, y, d, l, rfl, hy.same z1, fun H4 s4 => ⟨_, rfl, ?_⟩⟩
            cases hn : lnD y with
            | true =>
              refine iteF ⟨z1.trans s4, ws, s4 _ _ z2, by omega, ?_⟩
              rw [tk, hn, z4, Bool.and_true]
            | false =>
              obtain ⟨acc, a1, a2, a3, a4⟩ := acc_new (y := x) n1 (z1.trans s4) (s4 _ _ z2) (by omega)
              refine iteT ⟨_, rfl, acc, a1, a2, a3, _, a4, by simp; omega, ?_⟩
              rw [tk, hn, Bool.and_false]
              simp
          · obtain ⟨z1, ws, z2, z3, z4⟩ := z
            rw [List.take_of_length_le (by omega)] at z4
            refine ⟨Nat.zero_le _, fun p6 H6 n6 s6 g6 => ⟨p1, p6, _, rfl, rfl, .inl (.inl (s6 _ _ z2)), .inl (.inl g6), ?_⟩⟩
            rw [z4]
            exact fin (z1.trans s6) rfl
        · rw [decide_eq_false e0]
          refine iteF (fin (.refl _) ?_)
          rw [show lsD t = false from by
            unfold lsD
            split
            · exact absurd (ht.mpr ⟨_, rfl⟩) e0
            · rfl]
          rfl

end
end Cl

set_option maxHeartbeats 0
namespace Cl
open PySem PySem.Spec PyProof.Rows L2
open GxR (TabB TabG)


def spLine1 (K : PySem.W.Frag) : Sp := fun vs H Q _ => ∃ (d l : Addr) (g : Int) (L : Addr) (ws : List V) (ls : List Ln), vs = [.ref d, .int g, .ref L] ∧ 0 < g ∧ g ≤ 1000 ∧ Deck H d l ∧
  L ≠ d ∧ L ≠ l ∧ H L = some (.lst ws) ∧ AllAt (AtL K H) ws ls ∧ ls.length ≤ 200 ∧
  ∀ w H' r', Step d l H H' → AtL K H' w r' → BdR 60000 r' → Q w H'
def spLines1 (K : PySem.W.Frag) : Sp := fun vs H Q _ => ∃ (d l : Addr) (g : Int) (n : Nat), vs = [.ref d, .int g, .int n] ∧ 0 < g ∧ g ≤ 1000 ∧ 0 ≤ n ∧ n ≤ 200 ∧ Deck H d l ∧
  ∀ w H' ls, Step d l H H' → AtT K H' w ls → ls.length = n → (∀ r ∈ ls, BdR 60000 r) → Q w H'

section
variable {P : Program} {w : World} {K : PySem.W.Frag} {mg : Str → Option Value} {base : Heap}

theorem ok_law_grain {f : Addr} {fd : FuncData} (F : Fun K "_law_grain" "_law_grain" s_law_grain f fd) (T : Bt mg) (D_law_draw : Def P w K mg base 1 "_law_draw" ["_law_deck_here", "_law_most"] spDraw) :
    FnG P w K mg base CX0 2 f fd ["_law_deck_here"] spGrainW := by
  refine okG (k := 1) F sc_law_grain (fun vs H Q E h => ?_) (fun cdv A outer s H vs Q E hr h => ?_)
  · obtain ⟨d, l, rfl, _⟩ := h
    rfl
  · obtain ⟨d, l, rfl, D, q⟩ := h
    refine ⟨_, (pss_one (ps_ret (pe_ix ix_list (lstN (pa_cons pe_int (pa_cons pe_int (pa_cons pe_int (pa_cons pe_int (pa_cons pe_int (pa_cons pe_int (pa_cons pe_int (pa_cons pe_int pa_nil))))))))) (callD D_law_draw (hr.mono (by decide)) (pa_cons (pv 0) (pa_cons pe_int pa_nil))) (fun _ _ => rfl)))), ?_⟩
    refine ⟨(by show 8 ≤ sizeLine; decide), fun p1 H1 n1 s1 g1 => ⟨.ref d, rfl, d, l, 8, rfl, by decide, by decide, (Step.of D s1).deck, fun i H2 i0 i1 S2 => ?_⟩⟩
    have np := D.nd n1
    have e2 := S2.at np.1 np.2 g1
    have S := (Step.of D s1).trans S2
    obtain rfl | rfl | rfl | rfl | rfl | rfl | rfl | rfl : i = 0 ∨ i = 1 ∨ i = 2 ∨ i = 3 ∨ i = 4 ∨ i = 5 ∨ i = 6 ∨ i = 7 := by omega
    all_goals exact ⟨p1, _, _, _, rfl, rfl, .inl (.inl e2), rfl, q _ _ (by decide) (by decide) S⟩

theorem ok_law_point {f : Addr} {fd : FuncData} (F : Fun K "_law_point" "_law_point" s_law_point f fd) (T : Bt mg) (D_law_draw : Def P w K mg base 1 "_law_draw" ["_law_deck_here", "_law_most"] spDraw) :
    FnG P w K mg base CX0 2 f fd ["_law_deck_here", "_law_grain_here", "_law_way"] (spPointW K) := by
  refine okG (k := 1) F sc_law_point (fun vs H Q E h => ?_) (fun cdv A outer s H vs Q E hr h => ?_)
  · obtain ⟨d, l, g, way, rfl, _⟩ := h
    rfl
  · obtain ⟨d, l, g, way, rfl, h0, h1, D, q⟩ := h
    refine ⟨_, (pss_cons (ps_par (i := 3) (j := 4) (by rfl) sc_law_point.nd rfl rfl (by decide) rfl rfl (pa_cons (callD D_law_draw (hr.mono (by decide)) (pa_cons (pv 0) (pa_cons (pe_op op_add (pe_op op_mul pe_int (pv 1)) pe_int) pa_nil))) (pa_cons (callD D_law_draw (hr.mono (by decide)) (pa_cons (pv 0) (pa_cons (pe_op op_add (pe_op op_mul pe_int (pv 1)) pe_int) pa_nil))) pa_nil)) (by rfl))
      (pss_cons (ps_if (pt_cmpR op_eq (pv 2) pe_int (nomark _)) (pss_one (ps_ret (tupN (pa_cons (pe_op op_fdiv (pe_op op_add (pe_op op_mul (pe_op op_fdivW (pe_op op_mul pe_int (pv 3)) (pv 1)) (pv 1)) pe_int) pe_int) (pa_cons (pe_op op_fdiv (pe_op op_add (pe_op op_mul (pe_op op_fdivW (pe_op op_mul pe_int (pv 4)) (pv 1)) (pv 1)) pe_int) pe_int) pa_nil))))) pss_nil)
      (pss_cons (ps_if (pt_cmpR op_eq (pv 2) pe_int (nomark _)) (pss_one (ps_ret (tupN (pa_cons (pe_op op_mul (pe_op op_fdivW (pv 3) (pv 1)) (pv 1)) (pa_cons (pe_op op_mul (pe_op op_fdivW (pv 4) (pv 1)) (pv 1)) pa_nil))))) pss_nil)
      (pss_cons (ps_if (pt_cmpR op_eq (pv 2) pe_int (nomark _)) (pss_one (ps_ret (tupN (pa_cons (pe_op op_add (pe_op op_mul (pe_op op_fdivW (pv 3) (pv 1)) (pv 1)) (pe_op op_fdiv (pv 1) pe_int)) (pa_cons (pv 4) pa_nil))))) pss_nil)
      (pss_one (ps_ret (tupN (pa_cons (pv 3) (pa_cons (pv 4) pa_nil))))))))), ?_⟩
    refine ⟨.ref d, rfl, _, rfl, _, _, rfl, rfl, .inl (by decide), _, _, rfl, rfl, d, l, _, rfl, by omega, by omega, D, fun x H2 x0 x1 S2 => ⟨.ref d, rfl, _, rfl, _, _, rfl, rfl, .inl (by decide), _, _, rfl, rfl, d, l, _, rfl, by omega, by omega, S2.deck, fun y H3 y0 y1 S3 => ⟨_, _, rfl, ?_⟩⟩⟩
    have S := S2.trans S3
    have dv : ∀ n : Int, CDivW n g := fun n => wide_div (b := 64) h0 (by omega) (by decide) (by decide)
    have mg : ∀ n : Int, CMul n g := fun n => .inr (by omega)
    have fin : ∀ {p : Pt} {pp : Addr} {H4 : Hp}, Same H3 H4 → H4 pp = some (.tup [.int p.1, .int p.2]) → BdN 5000 p → Q (.ref pp) H4 := fun {p pp H4} s e b => q _ _ p (S.trans (Step.of S3.deck s)) ⟨pp, rfl, .inl (.inl e)⟩ b
    have fl : ∀ n : Int, 0 ≤ n → 0 ≤ n / g * g ∧ n / g * g ≤ n := fun n hn => ⟨Int.mul_nonneg (Int.ediv_nonneg hn (by omega)) (by omega), Int.ediv_mul_le n (by omega)⟩
    refine ⟨_, rfl, rfl, _, rfl, ite2 (fun e => ?_) (fun e => ?_)⟩
    · refine ⟨_, rfl, _, _, rfl, rfl, .inl (by decide), _, rfl, _, _, rfl, rfl, dv _, _, rfl, _, _, rfl, rfl, mg _, _, _, rfl, rfl, _, _, rfl, rfl, ⟨by decide, by decide⟩,
        _, rfl, _, _, rfl, rfl, .inl (by decide), _, rfl, _, _, rfl, rfl, dv _, _, rfl, _, _, rfl, rfl, mg _, _, _, rfl, rfl, _, _, rfl, rfl, ⟨by decide, by decide⟩, (by show 2 ≤ sizeLine; decide), fun p6 H6 n6 s6 g6 => ?_⟩
      have a1 := fl (2 * x) (by omega)
      have a2 := fl (2 * y) (by omega)
      exact fin (p := ((2 * x / g * g + 1) / 2, (2 * y / g * g + 1) / 2)) s6 g6 (by unfold BdN; simp only; omega)
    refine ⟨_, rfl, rfl, _, rfl, ite2 (fun e => ?_) (fun e => ?_)⟩
    · refine ⟨_, rfl, _, rfl, _, _, rfl, rfl, dv _, _, rfl, _, _, rfl, rfl, mg _, _, rfl, _, rfl, _, _, rfl, rfl, dv _, _, rfl, _, _, rfl, rfl, mg _, (by show 2 ≤ sizeLine; decide), fun p6 H6 n6 s6 g6 => ?_⟩
      have a1 := fl x (by omega)
      have a2 := fl y (by omega)
      exact fin (p := (x / g * g, y / g * g)) s6 g6 (by unfold BdN; simp only; omega)
    refine ⟨_, rfl, rfl, _, rfl, ite2 (fun e => ?_) (fun e => ?_)⟩
    · refine ⟨_, rfl, _, rfl, _, _, rfl, rfl, dv _, _, rfl, _, _, rfl, rfl, mg _, _, rfl, _, _, rfl, rfl, ⟨by decide, by decide⟩, _, _, rfl, rfl, _, rfl, (by show 2 ≤ sizeLine; decide), fun p6 H6 n6 s6 g6 => ?_⟩
      have a1 := fl x (by omega)
      exact fin (p := (x / g * g + g / 2, y)) s6 g6 (by unfold BdN; simp only; omega)
    · exact ⟨_, rfl, _, rfl, (by show 2 ≤ sizeLine; decide), fun p6 H6 n6 s6 g6 => fin (p := (x, y)) s6 g6 (by unfold BdN; simp only; omega)⟩

theorem ok_law_unlike {f : Addr} {fd : FuncData} (F : Fun K "_law_unlike" "_law_unlike" s_law_unlike f fd) (T : Bt mg) :
    FnG P w K mg base CX0 1 f fd ["_law_one", "_law_other"] (spUnlike K) := by
  refine okG (k := 0) F sc_law_unlike (fun vs H Q E h => ?_) (fun cdv A outer s H vs Q E hr h => ?_)
  · obtain ⟨u, v, p, q, rfl, _⟩ := h
    rfl
  · obtain ⟨u, v, p, p2, rfl, hp, hq, q⟩ := h
    refine ⟨_, (pss_one (ps_ret (tupN (pa_cons (pv 0) (pa_cons (pe_ix ix_list (lstN (pa_cons (pv 1) (pa_cons (tupN (pa_cons (pe_op op_add (pe_ix ix_tup (pv 0) pe_int (fun _ _ => rfl)) pe_int) (pa_cons (pe_ix ix_tup (pv 0) pe_int (fun _ _ => rfl)) pa_nil))) pa_nil))) (pe_callTy call_int1 (by rfl) T.int (by decide +kernel) (pa_cons (pe_cmpR (op_eqD hr.room.units) (pv 0) (pv 1) (nomark _)) pa_nil)) (fun _ _ => rfl)) pa_nil))))), ?_⟩
    obtain ⟨a, rfl, ha⟩ := id hp
    refine ⟨_, rfl, _, rfl, _, rfl, a, _, 0, _, rfl, rfl, ha, rfl, _, _, rfl, rfl, _, rfl, a, _, 1, _, rfl, rfl, ha, rfl, (by show 2 ≤ sizeLine; decide), fun p6 H6 n6 s6 g6 => ⟨(by show 2 ≤ sizeLine; decide), fun p7 H7 n7 s7 g7 => ?_⟩⟩
    have s67 := s6.trans s7
    refine ⟨_, rfl, _, rfl, _, _, (hp.same s67).dp, (hq.same s67).dp, rfl, rfl, .inr ⟨_, rfl, ?_⟩⟩
    by_cases e : p = p2
    · subst e
      rw [SeqAt.eqv_refl _ rfl]
      refine ⟨p7, _, 1, _, rfl, rfl, .inl (.inl g7), rfl, (by show 2 ≤ sizeLine; decide), fun p8 H8 n8 s8 g8 => ?_⟩
      exact q _ _ (p, (p.1 + 1, p.2)) (s67.trans s8) ⟨p8, _, _, rfl, .inl (.inl g8), hp.same (s67.trans s8), ⟨p6, rfl, .inl (.inl ((s7.trans s8) _ _ g6))⟩⟩ rfl (fun z => by have := congrArg Prod.fst z; simp only at this; omega) (.inr rfl)
    · have hne : PyData.eqv (pd p) (pd p2) = false := by
        cases hz : PyData.eqv (pd p) (pd p2) with
        | false => rfl
        | true =>
          exfalso
          apply e
          simp [pd, PyData.eqv, PyData.eqvAll] at hz
          exact Prod.ext hz.1 hz.2
      rw [hne]
      refine ⟨p7, _, 0, _, rfl, rfl, .inl (.inl g7), rfl, (by show 2 ≤ sizeLine; decide), fun p8 H8 n8 s8 g8 => ?_⟩
      exact q _ _ (p, p2) (s67.trans s8) ⟨p8, _, _, rfl, .inl (.inl g8), hp.same (s67.trans s8), hq.same (s67.trans s8)⟩ rfl e (.inl rfl)

theorem ok_law_moved {f : Addr} {fd : FuncData} (F : Fun K "_law_moved" "_law_moved" s_law_moved f fd) (T : Bt mg) :
    FnG P w K mg base CX0 1 f fd ["_law_lines_here", "_law_dx", "_law_dy"] (spMovedW K) := by
  refine okG (k := 0) F sc_law_moved (fun vs H Q E h => ?_) (fun cdv A outer s H vs Q E hr h => ?_)
  · obtain ⟨v, ls, dx, dy, rfl, _⟩ := h
    rfl
  · obtain ⟨v, ls, dx, dy, rfl, ⟨L, ws, rfl, eL, hall⟩, hlen, q⟩ := h
    refine ⟨_, (pss_one (ps_ret (pe_callTy call_tuple_ofN (by rfl) T.tuple (by decide +kernel) (pa_cons (pe_lc (own := [("_law_x", 3), ("_law_y", 4), ("_law_u", 5), ("_law_v", 6)]) (g := gTup K 2 (gCons (gTup K 2 (gCons (gName 3) (gCons (gName 4) gNil))) (gCons (gTup K 2 (gCons (gName 5) (gCons (gName 6) gNil))) gNil))) (tt := tYes) (by rfl) sc_law_moved.nd (pi_tup (pv 0)) (blkOk_by (own := [("_law_x", 3), ("_law_y", 4), ("_law_u", 5), ("_law_v", 6)]) (N := ["_law_lines_here", "_law_dx", "_law_dy", "_law_x", "_law_y", "_law_u", "_law_v"]) (sc := defScope s_law_moved) (by decide +kernel)) (fun _ _ _ _ _ => (pg_tup (by rfl) (pgs_cons (pg_tup (by rfl) (pgs_cons (pg_name (i := 3) sc_law_moved.nd rfl (.inl rfl)) (pgs_cons (pg_name (i := 4) sc_law_moved.nd rfl (.inl rfl)) pgs_nil))) (pgs_cons (pg_tup (by rfl) (pgs_cons (pg_name (i := 5) sc_law_moved.nd rfl (.inl rfl)) (pgs_cons (pg_name (i := 6) sc_law_moved.nd rfl (.inl rfl)) pgs_nil))) pgs_nil)))) (fun _ _ _ _ _ => pts_nil) (fun _ _ _ _ _ => (tupN (pa_cons (tupN (pa_cons (pe_op op_add (pv 3) (pv 1)) (pa_cons (pe_op op_add (pv 4) (pv 2)) pa_nil))) (pa_cons (tupN (pa_cons (pe_op op_add (pv 5) (pv 1)) (pa_cons (pe_op op_add (pv 6) (pv 2)) pa_nil))) pa_nil))))) pa_nil)))), ?_⟩
    refine ⟨_, rfl, L, rfl, ⟨_, eL⟩, fun pD nD => ?_⟩
    refine lcT (K := K) (a := L) (xs := ws) (fun i H' => Same H H' ∧ ∃ vs, H' pD = some (.lst vs) ∧ AllAt (AtL K H') vs ((ls.take i).map (mvL dx dy))) nD (fun H' e1 e2 => ⟨e1, [], e2, .nil⟩) (fun i H' _ z => seT z.1 eL) (fun i z H' hz w => ?_) (fun H6 z => ?_)
    · obtain ⟨t1, vs, t2, t3⟩ := w
      obtain ⟨r, hr_, a, _, _, rfl, hS, ⟨b, rfl, hb⟩, ⟨c, rfl, hc⟩⟩ := hall.get hz
      refine ⟨a, _, rfl, seT t1 hS, rfl, _, _, rfl, b, _, rfl, seT t1 hb, rfl, _, _, rfl, _, _, rfl, rfl, _, _, rfl, c, _, rfl, seT t1 hc, rfl, _, _, rfl, _, _, rfl, rfl, rfl, ?_⟩
      refine ⟨rfl, _, rfl, _, rfl, _, _, rfl, rfl, _, rfl, _, rfl, _, _, rfl, rfl, (by show 2 ≤ sizeLine; decide), fun p7 H7 n7 s7 g7 => ?_⟩
      refine ⟨_, rfl, _, rfl, _, _, rfl, rfl, _, rfl, _, rfl, _, _, rfl, rfl, (by show 2 ≤ sizeLine; decide), fun p8 H8 n8 s8 g8 => ⟨(by show 2 ≤ sizeLine; decide), fun p9 H9 n9 s9 g9 => ?_⟩⟩
      have s79 := (s7.trans s8).trans s9
      have k9 := s79 _ _ t2
      refine ⟨vs, k9, by rw [t3.length, List.length_map, List.length_take]; exact small1000 (by omega), fun b o z => ?_, vs ++ [.ref p9], upd_same, ?_⟩
      · rw [upd_ne (ne_of_none z nD)]; exact (t1.trans s79) _ _ z
      · rw [List.take_add_one, hr_, List.map_append]
        exact AllAt.app (t3.map fun _ _ z => AtL.upd (z.same s79) k9) (.cons (AtL.upd ⟨p9, _, _, rfl, .inl (.inl g9), ⟨p7, rfl, .inl (.inl ((s8.trans s9) _ _ g7))⟩, ⟨p8, rfl, .inl (.inl (s9 _ _ g8))⟩⟩ k9) .nil)
    · obtain ⟨t1, vs, t2, t3⟩ := z
      rw [hall.length, List.take_length] at t3
      exact ⟨pD, vs, rfl, .inl (.inl t2), fun p8 H8 n8 s8 g8 => q _ _ (t1.trans s8) ⟨p8, vs, rfl, .inl (.inl g8), t3.map fun _ _ z => z.same s8⟩⟩

theorem ok_law_far {f : Addr} {fd : FuncData} (F : Fun K "_law_far" "_law_far" s_law_far f fd) (T : Bt mg) (D_law_draw : Def P w K mg base 1 "_law_draw" ["_law_deck_here", "_law_most"] spDraw) :
    FnG P w K mg base CX0 2 f fd ["_law_deck_here"] spFarW := by
  refine okG (k := 1) F sc_law_far (fun vs H Q E h => ?_) (fun cdv A outer s H vs Q E hr h => ?_)
  · obtain ⟨d, l, rfl, _⟩ := h
    rfl
  · obtain ⟨d, l, rfl, D, q⟩ := h
    refine ⟨_, (pss_one (ps_ret (pe_op op_sub (callD D_law_draw (hr.mono (by decide)) (pa_cons (pv 0) (pa_cons pe_int pa_nil))) pe_int))), ?_⟩
    exact ⟨.ref d, rfl, d, l, 2000001, rfl, by decide, by decide, D, fun x H1 x0 x1 S1 => ⟨_, _, rfl, rfl, q _ _ (by omega) (by omega) S1⟩⟩

end
end Cl

set_option maxHeartbeats 0
namespace Cl
open PySem PySem.Spec PyProof.Rows L2
open GxR (TabB TabG)

section
variable {P : Program} {w : World} {K : PySem.W.Frag} {mg : Str → Option Value} {base : Heap}

theorem ok_law_line {f : Addr} {fd : FuncData} (F : Fun K "_law_line" "_law_line" s_law_line f fd) (T : Bt mg) (D_law_draw : Def P w K mg base 1 "_law_draw" ["_law_deck_here", "_law_most"] spDraw) (D_law_unlike : Def P w K mg base 1 "_law_unlike" ["_law_one", "_law_other"] (spUnlike K)) (D_law_point : Def P w K mg base 2 "_law_point" ["_law_deck_here", "_law_grain_here", "_law_way"] (spPointW K)) :
    FnG P w K mg base CX0 3 f fd ["_law_deck_here", "_law_grain_here", "_law_lines_here"] (spLine1 K) := by
  refine okG (k := 2) F sc_law_line (fun vs H Q E h => ?_) (fun cdv A outer s H vs Q E hr h => ?_)
  · obtain ⟨d, l, g, L, ws, ls, rfl, _⟩ := h
    rfl
  · obtain ⟨d, l, g, L, ws, ls, rfl, h0, h1, D, nd_, nl_, hL, hall, hlen, q⟩ := h
    refine ⟨_, (pss_cons (ps_set (i := 3) sc_law_line.nd rfl (.inl rfl) (callD D_law_draw (hr.mono (by decide)) (pa_cons (pv 0) (pa_cons pe_int pa_nil))))
      (pss_cons (ps_set (i := 4) sc_law_line.nd rfl (.inl rfl) (callD D_law_point (hr.mono (by decide)) (pa_cons (pv 0) (pa_cons (pv 1) (pa_cons (pe_op op_mod (pv 3) pe_int) pa_nil)))))
      (pss_cons (ps_set (i := 5) sc_law_line.nd rfl (.inl rfl) (callD D_law_point (hr.mono (by decide)) (pa_cons (pv 0) (pa_cons (pv 1) (pa_cons (callD D_law_draw (hr.mono (by decide)) (pa_cons (pv 0) (pa_cons pe_int pa_nil))) pa_nil)))))
      (pss_cons (ps_if (PW.pt (pw_or (pt_cmpR (op_eqD hr.room.units) (pv 2) (lstN pa_nil) (nomark _)) (pw_or1 (pt_cmpR op_lt (pv 3) pe_int (nomark _))))) (pss_one (ps_ret (callD D_law_unlike (hr.mono (by decide)) (pa_cons (pv 4) (pa_cons (pv 5) pa_nil))))) pss_nil)
      (pss_cons (ps_asg (pe_ix ix_list (pv 2) (callD D_law_draw (hr.mono (by decide)) (pa_cons (pv 0) (pa_cons (pe_callB call_len_seq (by rfl) T.len (by decide +kernel) (pa_cons (pv 2) pa_nil)) pa_nil))) (fun _ _ => rfl)) (pg_tup (by rfl) (pgs_cons (pg_tup (by rfl) (pgs_cons (pg_name (i := 6) sc_law_line.nd rfl (.inl rfl)) (pgs_cons (pg_name (i := 7) sc_law_line.nd rfl (.inl rfl)) pgs_nil))) (pgs_cons (pg_tup (by rfl) (pgs_cons (pg_name (i := 8) sc_law_line.nd rfl (.inl rfl)) (pgs_cons (pg_name (i := 9) sc_law_line.nd rfl (.inl rfl)) pgs_nil))) pgs_nil))))
      (pss_cons (ps_if (pt_cmpR op_gt (pe_callB (cr_max rfl) (by rfl) T.max (by decide +kernel) (pa_cons (pe_lc (own := [("_law_number", 10)]) (g := gName 10) (tt := tYes) (by rfl) sc_law_line.nd (pi_tup (tupN (pa_cons (pv 6) (pa_cons (pv 7) (pa_cons (pv 8) (pa_cons (pv 9) pa_nil)))))) (blkOk_by (own := [("_law_number", 10)]) (N := ["_law_deck_here", "_law_grain_here", "_law_lines_here", "_law_way", "_law_one", "_law_other", "_law_x", "_law_y", "_law_u", "_law_v", "_law_number"]) (sc := defScope s_law_line) (by decide +kernel)) (fun _ _ _ _ _ => (pg_name (i := 10) sc_law_line.nd rfl (.inl rfl))) (fun _ _ _ _ _ => pts_nil) (fun _ _ _ _ _ => (pe_callB call_abs (by rfl) T.abs (by decide +kernel) (pa_cons (pv 10) pa_nil)))) pa_nil)) (pe_op op_mul pe_int (pv 1)) (nomark _)) (pss_one (ps_ret (callD D_law_unlike (hr.mono (by decide)) (pa_cons (pv 4) (pa_cons (pv 5) pa_nil))))) pss_nil)
      (pss_cons (ps_if (pt_cmpR op_eq (pv 3) pe_int (nomark _)) (pss_one (ps_ret (callD D_law_unlike (hr.mono (by decide)) (pa_cons (tupN (pa_cons (pv 8) (pa_cons (pv 9) pa_nil))) (pa_cons (pv 5) pa_nil))))) pss_nil)
      (pss_cons (ps_if (pt_cmpR op_eq (pv 3) pe_int (nomark _)) (pss_one (ps_ret (callD D_law_unlike (hr.mono (by decide)) (pa_cons (pv 4) (pa_cons (tupN (pa_cons (pe_op op_sub (pe_op op_add (pv 6) (pv 8)) (pe_ix ix_tup (pv 4) pe_int (fun _ _ => rfl))) (pa_cons (pe_op op_sub (pe_op op_add (pv 7) (pv 9)) (pe_ix ix_tup (pv 4) pe_int (fun _ _ => rfl))) pa_nil))) pa_nil))))) pss_nil)
      (pss_cons (ps_if (pt_cmpR op_eq (pv 3) pe_int (nomark _)) (pss_one (ps_ret (tupN (pa_cons (tupN (pa_cons (pv 8) (pa_cons (pv 9) pa_nil))) (pa_cons (tupN (pa_cons (pe_op op_sub (pe_op op_mul pe_int (pv 8)) (pv 6)) (pa_cons (pe_op op_sub (pe_op op_mul pe_int (pv 9)) (pv 7)) pa_nil))) pa_nil))))) pss_nil)
      (pss_one (ps_ret (pe_ix ix_list (lstN (pa_cons (tupN (pa_cons (tupN (pa_cons (pv 6) (pa_cons (pv 7) pa_nil))) (pa_cons (tupN (pa_cons (pv 8) (pa_cons (pv 9) pa_nil))) pa_nil))) (pa_cons (tupN (pa_cons (tupN (pa_cons (pv 8) (pa_cons (pv 9) pa_nil))) (pa_cons (tupN (pa_cons (pv 6) (pa_cons (pv 7) pa_nil))) pa_nil))) (pa_cons (tupN (pa_cons (tupN (pa_cons (pv 6) (pa_cons (pv 7) pa_nil))) (pa_cons (tupN (pa_cons (pe_op op_sub (pe_op op_mul pe_int (pv 8)) (pv 6)) (pa_cons (pe_op op_sub (pe_op op_mul pe_int (pv 9)) (pv 7)) pa_nil))) pa_nil))) pa_nil)))) (callD D_law_draw (hr.mono (by decide)) (pa_cons (pv 0) (pa_cons pe_int pa_nil))) (fun _ _ => rfl))))))))))))), ?_⟩
    have lw := hall.length
    refine ⟨.ref d, rfl, d, l, 9, rfl, by decide, by decide, D, fun way H1 w0 w1 S1 => ?_⟩
    refine ⟨.ref d, rfl, _, rfl, _, rfl, _, _, rfl, rfl, (by show (0 : Int) < 4; decide), d, l, g, _, rfl, h0, h1, S1.deck, fun m1 H2 p S2 e2 b2 => ?_⟩
    refine ⟨.ref d, rfl, _, rfl, .ref d, rfl, d, l, 4, rfl, by decide, by decide, S2.deck, fun w2 Hw w20 w21 Sw => ⟨d, l, g, w2, rfl, h0, h1, Sw.deck, fun m2 H3 p2 S3 e3 b3 => ?_⟩⟩
    have S := ((S1.trans S2).trans Sw).trans S3
    have D3 := S3.deck
    have f2 := e2.step (Sw.trans S3) S2.deck
    have hL3 := S.at nd_ nl_ hL
    unfold BdN at b2 b3
    have all3 : AllAt (AtL K H3) ws ls := hall.map fun _ _ z => z.step S D
    have un : ∀ {H4 : Hp} {m n : V} {p p2 : Pt}, Step d l H3 H4 → At2 K H4 m p → At2 K H4 n p2 → BdN 50000 p → BdN 50000 p2 → spUnlike K [m, n] H4 Q E0 := fun {H4 m n p p2} S4 a1 a2 b1 b2 =>
      ⟨m, n, p, p2, rfl, a1, a2, fun w H5 r' s5 e5 r1 r2 r3 => q _ _ _ ((S.trans S4).trans (Step.of S4.deck s5)) e5 ⟨by rw [r1]; unfold BdN at *; omega, by rcases r3 with z | z <;> rw [z] <;> unfold BdN at * <;> (try simp only) <;> omega⟩⟩
    have un0 : ∀ {H4 : Hp}, Step d l H3 H4 → spUnlike K [m1, m2] H4 Q E0 := fun {H4} S4 => un S4 (f2.step S4 D3) (e3.step S4 D3) (by unfold BdN; omega) (by unfold BdN; omega)
    have ln : ∀ {m n : V} {p p3 : Pt} {pp : Addr} {H4 H5 : Hp}, Step d l H3 H4 → Same H4 H5 → H5 pp = some (.tup [m, n]) → At2 K H5 m p → At2 K H5 n p3 → BdR 60000 (p, p3) → Q (.ref pp) H5 := fun {m n p p3 pp H4 H5} S4 s e h1 h2 gd =>
      q _ _ (p, p3) ((S.trans S4).trans (Step.of S4.deck s)) ⟨pp, m, n, rfl, .inl (.inl e), h1, h2⟩ gd
    refine ⟨_, rfl, Nat.zero_le _, fun pe He ne se ge => ?_⟩
    have Se := Step.of D3 se
    refine ⟨_, _, .lst (.inl (.inl (se _ _ hL3))) (lines_dp (all3.map fun _ _ z => z.same se)), .lst (.inl (.inl ge)) .nil, shapedLines ls, rfl, _, rfl, ?_⟩
    show if PyData.eqv (.list (ls.map dl)) (.list []) = true then _ else _
    rw [eqvNilL]
    refine ite2 (fun e => iteT ⟨_, rfl, _, rfl, un0 Se⟩) (fun e => ?_)
    have npos : 0 < ls.length := by
      cases ls with
      | nil => exact absurd rfl e
      | cons a b => simp
    refine ⟨_, rfl, _, _, rfl, rfl, _, rfl, ite2 (fun e => ⟨_, rfl, _, rfl, un0 Se⟩) (fun e => ?_)⟩
    -- line = lines[draw(len(lines))]
    refine ⟨_, rfl, .ref d, rfl, _, rfl, L, _, rfl, .inl (.inl (.inl (se _ _ hL3))), d, l, _, rfl, by omega, by omega, Se.deck, fun i H4 i0 i1 S4 => ?_⟩
    have Sx := Se.trans S4
    have hL4 := S4.at nd_ nl_ (se _ _ hL3)
    have i2 : i.toNat < ws.length := by omega
    obtain ⟨v, hv⟩ : ∃ v, ws[i.toNat]? = some v := ⟨_, List.getElem?_eq_getElem i2⟩
    obtain ⟨r, hr_, hvr⟩ := (all3.map fun _ _ z => z.step Sx D3).get hv
    have ei : i = (i.toNat : Int) := by omega
    refine ⟨L, ws, i, v, rfl, rfl, .inl (.inl hL4), by rw [ei]; exact atI_nat hv, ?_⟩
    obtain ⟨a, _, _, ea, hS, ⟨b, rfl, hb⟩, ⟨c, rfl, hc⟩⟩ := id hvr
    subst ea
    refine ⟨a, _, rfl, hS, rfl, _, _, rfl, b, _, rfl, hb, rfl, _, _, rfl, _, _, rfl, rfl, _, _, rfl, c, _, rfl, hc, rfl, _, _, rfl, _, _, rfl, rfl, rfl, ?_⟩
    -- max(abs ..)
    refine ⟨_, rfl, _, rfl, _, rfl, _, rfl, (by show 4 ≤ sizeLine; decide), fun p5 H5 n5 s5 g5 => ⟨p5, rfl, ⟨_, .inl (.inl g5)⟩, fun pD nD => ?_⟩⟩
    refine lcT (K := K) (a := p5) (xs := [.int r.1.1, .int r.1.2, .int r.2.1, .int r.2.2]) (fun i H' => Same H5 H' ∧ H' pD = some (.lst ((([r.1.1, r.1.2, r.2.1, r.2.2].take i).map fun z : Int => if z < 0 then -z else z).map V.int))) nD (fun H' e1 e2 => ⟨e1, e2⟩) (fun i H' _ z => seT z.1 (.inl (.inl g5))) (fun i z H' hz w => ?_) (fun H6 z => ?_)
    · obtain ⟨t1, t2⟩ := w
      have hk : ∃ k : Int, z = .int k ∧ [r.1.1, r.1.2, r.2.1, r.2.2][i]? = some k := by
        match i, hz with
        | 0, hz => exact ⟨_, (Option.some.inj hz).symm, rfl⟩
        | 1, hz => exact ⟨_, (Option.some.inj hz).symm, rfl⟩
        | 2, hz => exact ⟨_, (Option.some.inj hz).symm, rfl⟩
        | 3, hz => exact ⟨_, (Option.some.inj hz).symm, rfl⟩
        | i + 4, hz => cases hz
      obtain ⟨k, rfl, hk⟩ := hk
      refine ⟨rfl, _, rfl, _, rfl, _, t2, ?_, ?_, ?_⟩
      · rw [List.length_map, List.length_map, List.length_take]; exact small1000 (by show min i 4 ≤ 1000; omega)
      · intro b o e
        rw [upd_ne (ne_of_none e nD)]
        exact t1 _ _ e
      · rw [upd_same, List.take_add_one, hk, List.map_append, List.map_append]
        rfl
    · obtain ⟨t1, t2⟩ := z
      refine ⟨pD, _, rfl, .inl (.inl t2), by simp, fun m hm hle => ?_⟩
      have S6 := Sx.trans (Step.of S4.deck (s5.trans t1))
      have s46 := s5.trans t1
      refine ⟨_, rfl, _, _, rfl, rfl, .inl (by decide), _, _, rfl, rfl, _, rfl, ite2 (fun e => ⟨_, rfl, _, rfl, un0 S6⟩) (fun e => ?_)⟩
      have em : ¬ (12 * g < m) := fun z => e (decide_eq_true z)
      have bd : ∀ z ∈ [r.1.1, r.1.2, r.2.1, r.2.2], -12000 ≤ z ∧ z ≤ 12000 := fun z hz => by
        have := hle _ (List.mem_map.mpr ⟨z, hz, rfl⟩)
        split at this <;> omega
      have c1 := bd r.1.1 (by simp)
      have c2 := bd r.1.2 (by simp)
      have c3 := bd r.2.1 (by simp)
      have c4 := bd r.2.2 (by simp)
      refine ⟨_, rfl, rfl, _, rfl, ite2 (fun e => ?_) (fun e => ?_)⟩
      · refine ⟨_, rfl, _, rfl, (by show 2 ≤ sizeLine; decide), fun p7 H7 n7 s7 g7 => ⟨_, rfl, ?_⟩⟩
        have S7 := S6.trans (Step.of S6.deck s7)
        exact un (p := r.2) S7 ⟨p7, rfl, .inl (.inl g7)⟩ (e3.step S7 D3) (by unfold BdN; omega) (by unfold BdN; omega)
      refine ⟨_, rfl, rfl, _, rfl, ite2 (fun e => ?_) (fun e => ?_)⟩
      · obtain ⟨a2, ea2, ha2⟩ := f2.step S6 D3
        subst ea2
        refine ⟨_, rfl, _, rfl, _, rfl, _, _, rfl, rfl, _, rfl, a2, _, 0, _, rfl, rfl, ha2, rfl, _, _, rfl, rfl, _, rfl, _, rfl, _, _, rfl, rfl, _, rfl, a2, _, 1, _, rfl, rfl, ha2, rfl, _, _, rfl, rfl, (by show 2 ≤ sizeLine; decide), fun p7 H7 n7 s7 g7 => ?_⟩
        have S7 := S6.trans (Step.of S6.deck s7)
        exact un (p2 := (r.1.1 + r.2.1 - p.1, r.1.2 + r.2.2 - p.2)) S7 ⟨a2, rfl, seT s7 ha2⟩ ⟨p7, rfl, .inl (.inl g7)⟩ (by unfold BdN; omega) (by unfold BdN; simp only; omega)
      refine ⟨_, rfl, rfl, _, rfl, ite2 (fun e => ?_) (fun e => ?_)⟩
      · refine ⟨_, rfl, _, rfl, (by show 2 ≤ sizeLine; decide), fun p7 H7 n7 s7 g7 => ?_⟩
        refine ⟨_, rfl, _, _, rfl, rfl, .inl (by decide), _, rfl, _, _, rfl, rfl, _, rfl, _, _, rfl, rfl, .inl (by decide), _, rfl, _, _, rfl, rfl, (by show 2 ≤ sizeLine; decide), fun p8 H8 n8 s8 g8 => ⟨(by show 2 ≤ sizeLine; decide), fun p9 H9 n9 s9 g9 => ?_⟩⟩
        exact ln (p := r.2) (p3 := (2 * r.2.1 - r.1.1, 2 * r.2.2 - r.1.2)) S6 ((s7.trans s8).trans s9) g9 ⟨p7, rfl, .inl (.inl ((s8.trans s9) _ _ g7))⟩ ⟨p8, rfl, .inl (.inl (s9 _ _ g8))⟩ ⟨by unfold BdN; simp only; omega, by unfold BdN; simp only; omega⟩
      · refine ⟨_, rfl, _, rfl, (by show 2 ≤ sizeLine; decide), fun q1 G1 m1_ t1_ k1 => ⟨_, rfl, _, rfl, (by show 2 ≤ sizeLine; decide), fun q2 G2 m2_ t2_ k2 => ⟨(by show 2 ≤ sizeLine; decide), fun q3 G3 m3_ t3_ k3 => ?_⟩⟩⟩
        refine ⟨_, rfl, _, rfl, (by show 2 ≤ sizeLine; decide), fun q4 G4 m4_ t4_ k4 => ⟨_, rfl, _, rfl, (by show 2 ≤ sizeLine; decide), fun q5 G5 m5_ t5_ k5 => ⟨(by show 2 ≤ sizeLine; decide), fun q6 G6 m6_ t6_ k6 => ?_⟩⟩⟩
        refine ⟨_, rfl, _, rfl, (by show 2 ≤ sizeLine; decide), fun q7 G7 m7_ t7_ k7 => ?_⟩
        refine ⟨_, rfl, _, _, rfl, rfl, .inl (by decide), _, rfl, _, _, rfl, rfl, _, rfl, _, _, rfl, rfl, .inl (by decide), _, rfl, _, _, rfl, rfl, (by show 2 ≤ sizeLine; decide), fun q8 G8 m8_ t8_ k8 => ⟨(by show 2 ≤ sizeLine; decide), fun q9 G9 m9_ t9_ k9 => ⟨(by show 3 ≤ sizeLine; decide), fun q0 G0 m0_ t0_ k0 => ?_⟩⟩⟩
        have u90 := t0_
        have u80 := t9_.trans u90
        have u70 := t8_.trans u80
        have u60 := t7_.trans u70
        have u50 := t6_.trans u60
        have u40 := t5_.trans u50
        have u30 := t4_.trans u40
        have u20 := t3_.trans u30
        have u10 := t2_.trans u20
        have u00 := t1_.trans u10
        have S0 := S6.trans (Step.of S6.deck u00)
        refine ⟨.ref d, rfl, d, l, 3, rfl, by decide, by decide, S0.deck, fun j Hj j0 j1 Sj => ?_⟩
        have np := (S6.trans (Step.of S6.deck (((((((((t1_.trans t2_).trans t3_).trans t4_).trans t5_).trans t6_).trans t7_).trans t8_).trans t9_)))).deck.nd m0_
        have k0' := Sj.at np.1 np.2 k0
        have D0 := S0.deck
        have Sfin := S.trans (S0.trans Sj)
        obtain rfl | rfl | rfl : j = 0 ∨ j = 1 ∨ j = 2 := by omega
        · refine ⟨q0, _, 0, _, rfl, rfl, .inl (.inl k0'), rfl, q _ _ r Sfin (AtL.step ⟨q3, _, _, rfl, .inl (.inl (u30 _ _ k3)), ⟨q1, rfl, .inl (.inl (u10 _ _ k1))⟩, ⟨q2, rfl, .inl (.inl (u20 _ _ k2))⟩⟩ Sj D0) ⟨by unfold BdN; omega, by unfold BdN; omega⟩⟩
        · refine ⟨q0, _, 1, _, rfl, rfl, .inl (.inl k0'), rfl, q _ _ (r.2, r.1) Sfin (AtL.step ⟨q6, _, _, rfl, .inl (.inl (u60 _ _ k6)), ⟨q4, rfl, .inl (.inl (u40 _ _ k4))⟩, ⟨q5, rfl, .inl (.inl (u50 _ _ k5))⟩⟩ Sj D0) ⟨by unfold BdN; simp only; omega, by unfold BdN; simp only; omega⟩⟩
        · refine ⟨q0, _, 2, _, rfl, rfl, .inl (.inl k0'), rfl, q _ _ (r.1, (2 * r.2.1 - r.1.1, 2 * r.2.2 - r.1.2)) Sfin (AtL.step ⟨q9, _, _, rfl, .inl (.inl (u90 _ _ k9)), ⟨q7, rfl, .inl (.inl (u70 _ _ k7))⟩, ⟨q8, rfl, .inl (.inl (u80 _ _ k8))⟩⟩ Sj D0) ⟨by unfold BdN; simp only; omega, by unfold BdN; simp only; omega⟩⟩

theorem ok_law_lines {f : Addr} {fd : FuncData} (F : Fun K "_law_lines" "_law_lines" s_law_lines f fd) (T : Bt mg) (D_law_draw : Def P w K mg base 1 "_law_draw" ["_law_deck_here", "_law_most"] spDraw) (D_law_line : Def P w K mg base 3 "_law_line" ["_law_deck_here", "_law_grain_here", "_law_lines_here"] (spLine1 K)) :
    FnG P w K mg base CX0 4 f fd ["_law_deck_here", "_law_grain_here", "_law_many"] (spLines1 K) := by
  refine okG (k := 3) F sc_law_lines (fun vs H Q E h => ?_) (fun cdv A outer s H vs Q E hr h => ?_)
  · obtain ⟨d, l, g, n, rfl, _⟩ := h
    rfl
  · obtain ⟨d, l, g, n, rfl, h0, h1, hn0, hn1, D, q⟩ := h
    refine ⟨_, (pss_cons (ps_set (i := 3) sc_law_lines.nd rfl (.inl rfl) (lstN pa_nil))
      (pss_cons (ps_for PassesOwn.never rfl (pi_range1 (by rfl) T.range (pa_cons (pv 2) pa_nil)) (pg_name (i := 4) sc_law_lines.nd rfl (.inl rfl)) (pss_one (ps_expr (pe_bm PySem.F.plainAttrs_list PySem.F.slot_list_append PySem.F.type_list_append mt_append (pv 3) (pa_cons (callD D_law_line (hr.mono (by decide)) (pa_cons (pv 0) (pa_cons (pv 1) (pa_cons (pv 3) pa_nil)))) pa_nil)))))
      (pss_one (ps_ret (pe_callTy call_tuple_ofN (by rfl) T.tuple (by decide +kernel) (pa_cons (pv 3) pa_nil)))))), ?_⟩
    refine ⟨Nat.zero_le _, fun L H4 n4 s4 g4 => ?_⟩
    have nL := D.nd n4
    refine ⟨_, rfl, n, rfl, by omega, by omega, for_range (n := n) (fun i σ H' => ∃ y4, σ = [some (.ref d), some (.int g), some (.int n), some (.ref L), y4] ∧ Step d l H H' ∧
        ∃ ws ls, H' L = some (.lst ws) ∧ AllAt (AtL K H') ws ls ∧ ls.length = i ∧ ∀ r ∈ ls, BdR 60000 r) ?_ ?_ ?_⟩
    · exact ⟨_, rfl, Step.of D s4, [], [], g4, .nil, rfl, fun r hr => nomatch hr⟩
    · rintro i σ H5 hi ⟨y4, rfl, S5, ws, ls, eL, hall, hlen, hgood⟩
      refine ⟨.ref L, rfl, .inl ⟨rfl, _, .inl (.inl eL)⟩, .ref d, rfl, _, rfl, _, rfl, d, l, g, L, ws, ls, rfl, h0, h1, S5.deck, nL.1, nL.2, eL, hall, by omega, fun w H6 r S6 e6 g6 => ?_⟩
      have eL6 := S6.at nL.1 nL.2 eL
      refine ⟨L, _, w, rfl, rfl, eL6, by rw [hall.length, hlen]; exact small1000 (by omega), ?_⟩
      refine ⟨_, rfl, (S5.trans S6).updN nL.1 nL.2 n4, ws ++ [w], ls ++ [r], upd_same, AllAt.app (hall.map fun _ _ z => AtL.upd (z.step S6 S5.deck) eL6) (.cons (AtL.upd e6 eL6) .nil), by rw [List.length_append, hlen]; rfl, fun r' hr => ?_⟩
      rcases List.mem_append.mp hr with z | z
      · exact hgood r' z
      · rw [List.mem_singleton.mp z]; exact g6
    · rintro σ H5 ⟨y4, rfl, S5, ws, ls, eL, hall, hlen, hgood⟩
      refine ⟨_, rfl, L, _, rfl, .inl (.inl eL), fun p6 H6 n6 s6 g6 => ?_⟩
      exact q _ _ ls (S5.trans (Step.of S5.deck s6)) ⟨p6, ws, rfl, .inl (.inl g6), hall.map fun _ _ z => z.same s6⟩ hlen hgood

end
end Cl

set_option maxHeartbeats 0
namespace Cl
open PySem PySem.Spec PyProof.Rows L2
/-! ### truths in sums -/
def b01 (b : Bool) : Int := if b = true then 1 else 0
section
variable {X : Cx}
theorem op_add_bi : OpR X (binaryOp .Add) (fun x y H Q => ∃ b j, x = .bl b ∧ y = .int j ∧ Q (.int (b01 b + j)) H) := by
  intro pins s σ H x y v u Q I rx ry h
  obtain ⟨b, j, rfl, rfl, q⟩ := h
  cases rx
  obtain ⟨t, rfl⟩ := ry
  exact PySem.IntBool.add_bool_int ⟨.int _, H, I.tok _, ⟨_, rfl⟩, q⟩
theorem op_sub_bi : OpR X (binaryOp .Sub) (fun x y H Q => ∃ b j, x = .bl b ∧ y = .int j ∧ Q (.int (b01 b - j)) H) := by
  intro pins s σ H x y v u Q I rx ry h
  obtain ⟨b, j, rfl, rfl, q⟩ := h
  cases rx
  obtain ⟨t, rfl⟩ := ry
  exact PySem.IntBool.sub_bool_int ⟨.int _, H, I.tok _, ⟨_, rfl⟩, q⟩
theorem op_sub_ib : OpR X (binaryOp .Sub) (fun x y H Q => ∃ j b, x = .int j ∧ y = .bl b ∧ Q (.int (j - b01 b)) H) := by
  intro pins s σ H x y v u Q I rx ry h
  obtain ⟨j, b, rfl, rfl, q⟩ := h
  cases ry
  obtain ⟨t, rfl⟩ := rx
  exact PySem.IntBool.sub_int_bool ⟨.int _, H, I.tok _, ⟨_, rfl⟩, q⟩
theorem op_mul_ib : OpR X (binaryOp .Mult) (fun x y H Q => ∃ j b, x = .int j ∧ y = .bl b ∧ Q (.int (j * b01 b)) H) := by
  intro pins s σ H x y v u Q I rx ry h
  obtain ⟨j, b, rfl, rfl, q⟩ := h
  cases ry
  obtain ⟨t, rfl⟩ := rx
  exact PySem.IntBool.mul_int_bool ⟨.int _, H, I.tok _, ⟨_, rfl⟩, q⟩
theorem op_eq_bi : OpR X (compareOp .Eq) (fun x y H Q => ∃ b j, x = .bl b ∧ y = .int j ∧ Q (.bl (b01 b == j)) H) := by
  intro pins s σ H x y v u Q I rx ry h
  obtain ⟨b, j, rfl, rfl, q⟩ := h
  cases rx
  obtain ⟨t, rfl⟩ := ry
  exact SeqAt.RcAt.bool_int b j t X.prog X.w _ _ ⟨.bl _, H, I, rfl, q⟩
theorem call_str_bool : CallR X (.type "str") (fun xs H Q => ∃ b : Bool, xs = [.bl b] ∧ Q (.str (if b then "True" else "False")) H) := by
  intro pins s σ H xs us Q I r h
  obtain ⟨b, rfl, q⟩ := h
  obtain ⟨u, rfl, r1⟩ := vals1 r
  cases r1
  exact PySem.P.str_of_bool ⟨.str _, H, I.tok _, ⟨_, rfl⟩, q⟩
end
/-! ### bounds of data -/
def Lf (p : Nat) : PyData → Prop
  | .none => True
  | .bool _ => True
  | .int i => i.natAbs < 2 ^ (130 + p)
  | .str x => x.cps.size ≤ 15 * 3 ^ p ∧ ∀ c ∈ x.cps.toList, c < 128
  | _ => False
inductive Gd (p : Nat) : Nat → PyData → Prop
  | lf {n : Nat} {d : PyData} : Lf p d → Gd p n d
  | lst {n : Nat} {ds : List PyData} : ds.length ≤ 5 + p → (∀ x ∈ ds, Gd p n x) → Gd p (n + 1) (.list ds)
  | tup {n : Nat} {ds : List PyData} : ds.length ≤ 5 + p → (∀ x ∈ ds, Gd p n x) → Gd p (n + 1) (.tuple ds)
  | emp {n : Nat} : Gd p (n + 1) (.dict [])
  | one {n : Nat} {i : Int} {x : PyData} : i.natAbs < 2 ^ 130 → Gd p n x → Gd p (n + 1) (.dict [(.int i, x)])
theorem Lf.up {p : Nat} {d : PyData} (h : Lf p d) : Lf (p + 1) d := by
  cases d with
  | int i =>
    have h : i.natAbs < 2 ^ (130 + p) := h
    show i.natAbs < 2 ^ (130 + p + 1)
    rw [Nat.pow_succ]
    omega
  | str x =>
    obtain ⟨h1, h2⟩ := h
    refine ⟨?_, h2⟩
    rw [Nat.pow_succ]
    omega
  | _ => exact h
theorem Gd.up {p n : Nat} {d : PyData} (h : Gd p n d) : Gd (p + 1) n d := by
  induction h with
  | lf h => exact .lf h.up
  | lst h _ ih => exact .lst (by omega) ih
  | tup h _ ih => exact .tup (by omega) ih
  | emp => exact .emp
  | one h _ ih => exact .one h ih
theorem Gd.deep {p n : Nat} {d : PyData} (h : Gd p n d) : Gd p (n + 1) d := by
  induction h with
  | lf h => exact .lf h
  | lst h _ ih => exact .lst h ih
  | tup h _ ih => exact .tup h ih
  | emp => exact .emp
  | one h _ ih => exact .one h ih
def bk : Nat → Nat
  | 0 => 135
  | n + 1 => 7 * (bk n + 1)
/-- data of which repr can be asked, and which the checkers can be asked -/
structure RepOk (d : PyData) : Prop where
  lv : d.leavesShort 200 = true
  sh : d.showable = true
  dp : d.depth ≤ 40
  bk : d.bulk ≤ 60000
theorem alls {m n : Nat} : ∀ {ds : List PyData}, (∀ x ∈ ds, x.leavesShort 200 = true ∧ x.showable = true ∧ x.depth ≤ n ∧ x.bulk ≤ m) →
    PyData.leavesShortAll 200 ds = true ∧ PyData.showableAll ds = true ∧ PyData.depthAll ds ≤ n ∧ PyData.bulkAll ds ≤ ds.length * (m + 1)
  | [], _ => ⟨rfl, rfl, Nat.zero_le _, Nat.zero_le _⟩
  | d :: ds, h => by
    obtain ⟨a1, a2, a3, a4⟩ := h d (List.mem_cons_self ..)
    obtain ⟨b1, b2, b3, b4⟩ := alls fun x hx => h x (List.mem_cons_of_mem _ hx)
    refine ⟨?_, ?_, ?_, ?_⟩
    · simp only [PyData.leavesShortAll, a1, b1, Bool.and_self]
    · simp only [PyData.showableAll, a2, b2, Bool.and_self]
    · simp only [PyData.depthAll]
      omega
    · simp only [PyData.bulkAll, List.length_cons]
      rw [Nat.succ_mul]
      omega
theorem bk_ge (n : Nat) : 135 ≤ bk n := by
  induction n with
  | zero => exact Nat.le_refl _
  | succ n ih => show 135 ≤ 7 * (bk n + 1); omega
theorem Gd.fine {p n : Nat} {d : PyData} (hp : p ≤ 2) (h : Gd p n d) : d.leavesShort 200 = true ∧ d.showable = true ∧ d.depth ≤ n ∧ d.bulk ≤ bk n := by
  induction h with
  | @lf n d h =>
    have hb := bk_ge n
    cases d with
    | none => exact ⟨rfl, rfl, Nat.zero_le _, Nat.zero_le _⟩
    | bool _ => exact ⟨rfl, rfl, Nat.zero_le _, Nat.zero_le _⟩
    | int i =>
      have h : i.natAbs < 2 ^ (130 + p) := h
      have h : okI i := Nat.lt_of_lt_of_le h (Nat.pow_le_pow_right (by omega) (by omega))
      have h1 := h.len
      have h2 := h.log
      refine ⟨?_, ?_, Nat.zero_le _, Nat.zero_le _⟩
      · simp only [PyData.leavesShort, decide_eq_true_iff]
        exact h1
      · simp only [PyData.showable, decide_eq_true_iff]
        omega
    | str x =>
      obtain ⟨h1, h2⟩ := h
      refine ⟨?_, rfl, Nat.zero_le _, ?_⟩
      · simp only [PyData.leavesShort, List.all_eq_true, decide_eq_true_iff]
        intro c hc
        exact Nat.lt_trans (h2 c hc) (by decide)
      · show x.cps.size ≤ bk n
        have : p = 0 ∨ p = 1 ∨ p = 2 := by omega
        rcases this with rfl | rfl | rfl <;> simp at h1 <;> omega
    | list _ => exact h.elim
    | tuple _ => exact h.elim
    | dict _ => exact h.elim
  | @lst n ds hl _ ih =>
    obtain ⟨a1, a2, a3, a4⟩ := alls ih
    refine ⟨a1, a2, Nat.succ_le_succ a3, Nat.le_trans a4 ?_⟩
    show _ ≤ 7 * (bk n + 1)
    exact Nat.mul_le_mul_right _ (by omega)
  | @tup n ds hl _ ih =>
    obtain ⟨a1, a2, a3, a4⟩ := alls ih
    refine ⟨a1, a2, Nat.succ_le_succ a3, Nat.le_trans a4 ?_⟩
    show _ ≤ 7 * (bk n + 1)
    exact Nat.mul_le_mul_right _ (by omega)
  | emp => exact ⟨rfl, rfl, by simp [PyData.depth, PyData.depthKv], by simp [PyData.bulk, PyData.bulkKv]⟩
  | @one n i x hi _ ih =>
    obtain ⟨a1, a2, a3, a4⟩ := ih
    have h : okI i := Nat.lt_of_lt_of_le hi (Nat.pow_le_pow_right (by omega) (by omega))
    have h1 := h.len
    have h2 := h.log
    refine ⟨?_, ?_, ?_, ?_⟩
    · simp only [PyData.leavesShort, PyData.leavesShortKv, a1, Bool.and_true, decide_eq_true_iff]
      exact h1
    · simp only [PyData.showable, PyData.showableKv, a2, Bool.and_true, decide_eq_true_iff]
      omega
    · simp only [PyData.depth, PyData.depthKv]
      omega
    · simp only [PyData.bulk, PyData.bulkKv]
      show _ ≤ 7 * (bk n + 1)
      omega
theorem Gd.rep {p n : Nat} {d : PyData} (hp : p ≤ 2) (hn : n ≤ 3) (h : Gd p n d) : RepOk d := by
  obtain ⟨a1, a2, a3, a4⟩ := h.fine hp
  refine ⟨a1, a2, by omega, Nat.le_trans a4 ?_⟩
  have : n = 0 ∨ n = 1 ∨ n = 2 ∨ n = 3 := by omega
  rcases this with rfl | rfl | rfl | rfl <;> decide
theorem asciiU : ∀ c < 128, ∀ x ∈ Unicode.upperOf c, x < 128 := by decide +kernel
theorem upper_lf {p : Nat} {x : Str} (h : Lf p (.str x)) : Lf (p + 1) (.str (Txt.upper x)) := by
  obtain ⟨h1, h2⟩ := h
  refine ⟨?_, ?_⟩
  · show (placed x fun _ c => Unicode.upperOf c).size ≤ _
    have := placed_le3 x (fun _ c => Unicode.upperOf c) (fun i c => StrLaws.upperOf_le3 c)
    have e : x.length = x.cps.size := rfl
    rw [Nat.pow_succ]
    omega
  · intro c hc
    have hc : c ∈ (placed x fun _ c => Unicode.upperOf c) := Array.mem_toList_iff.mp hc
    unfold placed at hc
    rw [Array.mem_flatten] at hc
    obtain ⟨as, h3, h4⟩ := hc
    rw [Array.mem_mapIdx] at h3
    obtain ⟨i, hi, rfl⟩ := h3
    have h4 : c ∈ Unicode.upperOf x.cps[i] := by simpa using h4
    exact asciiU _ (h2 _ (by simp)) _ h4
theorem int_lf {p : Nat} {i : Int} (hp : p ≤ 1) (h : i.natAbs < 2 ^ (130 + p)) : Lf (p + 1) (.str (Str.ofString (toString i))) := by
  refine ⟨?_, ?_⟩
  · have h : i.natAbs < 10 ^ 40 := Nat.lt_of_lt_of_le h (Nat.le_trans (Nat.pow_le_pow_right (n := 2) (by omega) (show 130 + p ≤ 131 by omega)) (by decide))
    have h1 := int_text_length_le10 (by decide) h
    have e : (Str.ofString (toString i)).length = (Str.ofString (toString i)).cps.size := rfl
    have e2 := PySem.ofString_length (toString i)
    have hk : 45 ≤ 15 * 3 ^ (p + 1) := by
      have : p = 0 ∨ p = 1 := by omega
      rcases this with rfl | rfl <;> decide
    show (Str.ofString (toString i)).cps.size ≤ 15 * 3 ^ (p + 1)
    omega
  · intro c hc
    by_cases h3 : c ≠ 45 ∧ (c < 48 ∨ 57 < c)
    · exact absurd hc (int_text_free' c h3 i)
    · omega
end Cl

set_option maxHeartbeats 0
namespace Cl
open PySem PySem.Spec PyProof.Rows L2
open GxR (TabB TabG)

theorem FnG_im {P : Program} {w : World} {K : PySem.W.Frag} {mg : Str → Option Value} {base : Heap} {k : Nat} {f : Addr} {fd : FuncData} {ps : List Str} {A B : Sp} (h1 : FnG P w K mg base CX0 k f fd ps A) (h : ∀ vs H Q E, B vs H Q E → A vs H Q E) :
    FnG P w K mg base CX0 k f fd ps B :=
  ⟨fun a b c d z => h1.1 a b c d (h _ _ _ _ z), fun a b c d e f g h' i j k l m z => h1.2 a b c d e f g h' i j k l m (h _ _ _ _ z)⟩
theorem gInt {p n : Nat} {i : Int} (h : i.natAbs < 2 ^ (130 + p)) : Gd p n (.int i) := .lf h
theorem gStr {p n : Nat} {x : Str} (h : x.cps.size ≤ 15) (h2 : ∀ c ∈ x.cps.toList, c < 128) : Gd p n (.str x) := .lf ⟨by
  have : 1 ≤ 3 ^ p := Nat.one_le_pow _ _ (by decide)
  omega, h2⟩
theorem gInt0 {p n : Nat} {i : Int} (h : i.natAbs < 2 ^ 130) : Gd p n (.int i) := .lf (Nat.lt_of_lt_of_le h (Nat.pow_le_pow_right (by omega) (by omega)))
theorem cutV_take (xs : List V) (k : Nat) : cutV xs none (some (k : Nat)) = xs.take k := by
  unfold cutV
  rw [HT.sIx_none, show HT.sIx xs.length xs.length (some ((k : Nat) : Int)) = min k xs.length from HT.sIx_nat _ _ k, List.drop_zero, Nat.sub_zero]
  by_cases h : k ≤ xs.length
  · rw [Nat.min_eq_left h]
  · rw [Nat.min_eq_right (by omega), List.take_of_length_le (Nat.le_refl _), List.take_of_length_le (by omega)]
theorem cutV_drop (xs : List V) (k : Nat) : cutV xs (some (k : Nat)) none = xs.drop k := by
  unfold cutV
  rw [HT.sIx_none, show HT.sIx xs.length 0 (some ((k : Nat) : Int)) = min k xs.length from HT.sIx_nat _ _ k]
  by_cases h : k ≤ xs.length
  · rw [Nat.min_eq_left h, List.take_of_length_le (by rw [List.length_drop]; exact Nat.le_refl _)]
  · rw [Nat.min_eq_right (by omega), Nat.sub_self, List.take_zero, List.drop_eq_nil_of_le (by omega)]
theorem cutV_mid (xs : List V) (i k : Nat) (h : i ≤ xs.length) : cutV xs (some (i : Nat)) (some ((i + k : Nat) : Int)) = (xs.drop i).take k := by
  unfold cutV
  rw [show HT.sIx xs.length 0 (some ((i : Nat) : Int)) = min i xs.length from HT.sIx_nat _ _ i, show HT.sIx xs.length xs.length (some ((i + k : Nat) : Int)) = min (i + k) xs.length from HT.sIx_nat _ _ (i + k), Nat.min_eq_left h]
  by_cases h2 : i + k ≤ xs.length
  · rw [Nat.min_eq_left h2, Nat.add_sub_cancel_left]
  · rw [Nat.min_eq_right (by omega), List.take_of_length_le (by rw [List.length_drop]; exact Nat.le_refl _), List.take_of_length_le (by rw [List.length_drop]; omega)]

inductive At : PyData → List Nat → PyData → Prop
  | here {x : PyData} : At x [] x
  | sub {ds : List PyData} {k : Nat} {y z : PyData} {q : List Nat} : ds[k]? = some y → At y q z → At (.tuple ds) (k :: q) z
def putD : List Nat → PyData → PyData → PyData
  | [], _, y => y
  | k :: q, .tuple ds, y => .tuple (ds.take k ++ [putD q (ds.getD k .none) y] ++ ds.drop (k + 1))
  | _ :: _, x, _ => x
theorem Gd.deepTo {p m n : Nat} {d : PyData} (h : Gd p m d) (l : m ≤ n) : Gd p n d := by
  induction l with
  | refl => exact h
  | step _ ih => exact ih.deep
theorem At.gd {x z : PyData} {q : List Nat} {p : Nat} (a : At x q z) : ∀ {n : Nat}, Gd p n x → ∃ m, m + q.length = n ∧ Gd p m z := by
  induction a with
  | here => exact fun {n} h => ⟨n, rfl, h⟩
  | sub e _ ih =>
    intro n h
    cases h with
    | lf h => exact h.elim
    | tup hl hx =>
      obtain ⟨m, h1, h2⟩ := ih (hx _ (List.mem_of_getElem? e))
      exact ⟨m, by rw [List.length_cons]; omega, h2⟩
theorem At.put {x z y : PyData} {q : List Nat} {p m : Nat} (a : At x q z) : ∀ {n : Nat}, Gd p n x → Gd (p + 1) m y → m + q.length ≤ n + 1 → Gd (p + 1) (n + 1) (putD q x y) := by
  induction a with
  | here => exact fun {n} _ h l => h.deepTo (by simpa using l)
  | @sub ds k y0 z0 q0 e _ ih =>
    intro n h hy l
    cases h with
    | lf h => exact h.elim
    | @tup n _ hl hx =>
      have hk : k < ds.length := (List.getElem?_eq_some_iff.mp e).1
      have eg : ds.getD k .none = y0 := by rw [List.getD_eq_getElem?_getD, e]; rfl
      show Gd (p + 1) (n + 1 + 1) (.tuple (ds.take k ++ [putD q0 (ds.getD k .none) y] ++ ds.drop (k + 1)))
      rw [eg]
      rw [List.length_cons] at l
      have h1 := ih (hx _ (List.mem_of_getElem? e)) hy (by omega)
      refine .tup ?_ fun w hw => ?_
      · simp only [List.length_append, List.length_take, List.length_drop, List.length_cons, List.length_nil]
        omega
      · rcases List.mem_append.mp hw with hw | hw
        · rcases List.mem_append.mp hw with hw | hw
          · exact (hx _ (List.mem_of_mem_take hw)).up.deep
          · rw [List.mem_singleton.mp hw]
            exact h1
        · exact (hx _ (List.mem_of_mem_drop hw)).up.deep
def ki (k : Nat) : V := .int k
def AtQ (K : PySem.W.Frag) (H : Hp) (u : V) (q : List Nat) : Prop := ∃ a, u = .ref a ∧ SqT K H a (q.map ki)
theorem AtQ.same {K : PySem.W.Frag} {H H' : Hp} {u : V} {q : List Nat} (h : AtQ K H u q) (s : Same H H') : AtQ K H' u q := by
  obtain ⟨a, e, h⟩ := h
  exact ⟨a, e, seT s h⟩
theorem at_nil {x : PyData} : ∀ q ∈ [([] : List Nat)], ∃ z, At x q z := fun q hq => by
  rw [List.mem_singleton.mp hq]
  exact ⟨x, .here⟩

def spPut (K : PySem.W.Frag) (m : Nat) : Sp := fun vs H Q _ => ∃ v u w x q z y p n d l, vs = [v, u, w] ∧ Tz K d l H v x ∧ AtQ K H u q ∧ At x q z ∧ Gd p n x ∧ p ≤ 2 ∧ q.length < m ∧ Tz K d l H w y ∧
  ∀ w' H', Same H H' → Tz K d l H' w' (putD q x y) → Q w' H'
def szS : Nat → Nat
  | 0 => 1
  | n + 1 => 1 + 7 * szS n

def spSpots (K : PySem.W.Frag) (m : Nat) : Sp := fun vs H Q _ => ∃ v x p n d l, vs = [v] ∧ Tz K d l H v x ∧ Gd p n x ∧ p ≤ 2 ∧ n ≤ 3 ∧ n < m ∧
  ∀ L H' us ps, Same H H' → H' L = some (.lst us) → AllAt (AtQ K H') us ps → ps ≠ [] → ps.length ≤ szS n → (∀ q ∈ ps, ∃ z, At x q z) → Q (.ref L) H'
theorem spots_zero {P : Program} {w : World} {K : PySem.W.Frag} {mg : Str → Option Value} {base : Heap} {k : Nat} {f : Addr} {fd : FuncData} {ps : List Str} : FnG P w K mg base CX0 k f fd ps (spSpots K 0) :=
  FnG_im never fun _ _ _ _ ⟨_, _, _, _, _, _, _, _, _, _, _, h, _⟩ => absurd h (Nat.not_lt_zero _)
theorem put_zero {P : Program} {w : World} {K : PySem.W.Frag} {mg : Str → Option Value} {base : Heap} {k : Nat} {f : Addr} {fd : FuncData} {ps : List Str} : FnG P w K mg base CX0 k f fd ps (spPut K 0) :=
  FnG_im never fun _ _ _ _ ⟨_, _, _, _, _, _, _, _, _, _, _, _, _, _, _, _, _, h, _⟩ => absurd h (Nat.not_lt_zero _)

section
variable {P : Program} {w : World} {K : PySem.W.Frag} {mg : Str → Option Value} {base : Heap}

theorem dummyH : True := trivial
end
end Cl

set_option maxHeartbeats 0
namespace Cl
open PySem PySem.Spec PyProof.Rows L2
open GxR (TabB TabG)


inductive Pu : PyData → Prop
  | int {i : Int} : i.natAbs < 2 ^ 130 → Pu (.int i)
  | tup {ds : List PyData} : (∀ y ∈ ds, Pu y) → Pu (.tuple ds)
theorem At.pu {x z : PyData} {q : List Nat} (a : At x q z) : Pu x → Pu z := by
  induction a with
  | here => exact id
  | sub e _ ih =>
    intro h
    cases h with
    | tup h => exact ih (h _ (List.mem_of_getElem? e))
theorem Gd.up5 {n : Nat} {d : PyData} (h : Gd 0 n d) : Gd 5 n d := h.up.up.up.up.up
theorem tupG5 {n : Nat} {es : List PyData} (hl : es.length ≤ 10) (h : ∀ e ∈ es, Gd 0 n e) : Gd 5 (n + 2) (.tuple es) := .tup (by omega) fun e m => (h e m).up5.deep
theorem TzAll.ati {K : PySem.W.Frag} {d l : Addr} {H : Hp} {vs : List V} {xs : List PyData} (h : TzAll K d l H vs xs) {j : Int} (h0 : 0 ≤ j) (h1 : j < (vs.length : Nat)) : ∃ w y, atI vs j = some w ∧ y ∈ xs ∧ Tz K d l H w y := by
  obtain ⟨k, rfl⟩ : ∃ k : Nat, j = (k : Nat) := ⟨j.toNat, by omega⟩
  have hk : k < xs.length := by rw [← h.len]; omega
  obtain ⟨v, e, q⟩ := h.get (List.getElem?_eq_getElem hk)
  exact ⟨v, _, atI_nat e, List.getElem_mem hk, q⟩
theorem spots_nd {K : PySem.W.Frag} {d l L : Addr} {H : Hp} {us : List V} {ps : List (List Nat)} (D : Deck H d l) (e : H L = some (.lst us)) (all : AllAt (AtQ K H) us ps) (ne : ps ≠ []) : L ≠ d ∧ L ≠ l := by
  obtain ⟨ns, s, c, h1, h2, _⟩ := D.ex
  refine ⟨fun z => ?_, fun z => ?_⟩
  · rw [z, h1] at e
    cases e
    cases all with
    | cons _ r =>
      cases r with
      | cons h _ =>
        obtain ⟨_, z, _⟩ := h
        cases z
  · rw [z, h2] at e
    cases e
    cases ns with
    | nil =>
      cases all
      exact ne rfl
    | cons a r =>
      cases all with
      | cons h _ =>
        obtain ⟨_, z, _⟩ := h
        cases z
def spSpoilt (K : PySem.W.Frag) : Sp := fun vs H Q _ => ∃ d l v x n, vs = [.ref d, v] ∧ Deck H d l ∧ Tz K d l H v x ∧ Gd 0 n x ∧ Pu x ∧ n ≤ 3 ∧
  ∀ w H' y, Step d l H H' → Tz K d l H' w y → Gd 5 (n + 1) y → Q w H'

section
variable {P : Program} {w : World} {K : PySem.W.Frag} {mg : Str → Option Value} {base : Heap}

theorem ok_law_spoilt {f : Addr} {fd : FuncData} (F : Fun K "_law_spoilt" "_law_spoilt" s_law_spoilt f fd) (T : Bt mg) (D_law_draw : Def P w K mg base 1 "_law_draw" ["_law_deck_here", "_law_most"] spDraw) (D_law_spots : Def P w K mg base 5 "_law_spots" ["_law_thing"] (spSpots K 4)) (D_law_put : Def P w K mg base 5 "_law_put" ["_law_thing", "_law_spot", "_law_part"] (spPut K 4)) :
    FnG P w K mg base CX0 6 f fd ["_law_deck_here", "_law_thing"] (spSpoilt K) := by
  refine okG (k := 5) F sc_law_spoilt (fun vs H Q E h => ?_) (fun cdv A outer s H vs Q E hr h => ?_)
  · obtain ⟨d, l, v, x, n, rfl, _⟩ := h
    rfl
  · obtain ⟨d, l, v, x, n, rfl, D, hv, gd, pu, hn3, q⟩ := h
    refine ⟨_, (pss_cons (ps_set (i := 2) sc_law_spoilt.nd rfl (.inl rfl) (callD D_law_draw (hr.mono (by decide)) (pa_cons (pv 0) (pa_cons pe_int pa_nil))))
      (pss_cons (ps_set (i := 3) sc_law_spoilt.nd rfl (.inl rfl) (callD D_law_spots (hr.mono (by decide)) (pa_cons (pv 1) pa_nil)))
      (pss_cons (ps_set (i := 4) sc_law_spoilt.nd rfl (.inl rfl) (pe_ix ix_list (pv 3) (callD D_law_draw (hr.mono (by decide)) (pa_cons (pv 0) (pa_cons (pe_callB call_len_seq (by rfl) T.len (by decide +kernel) (pa_cons (pv 3) pa_nil)) pa_nil))) (fun _ _ => rfl)))
      (pss_cons (ps_set (i := 5) sc_law_spoilt.nd rfl (.inl rfl) (pv 1))
      (cutS (ps_for PassesOwn.never rfl (pi_tup (pv 4)) (pg_name (i := 6) sc_law_spoilt.nd rfl (.inl rfl)) (pss_one (ps_set (i := 5) sc_law_spoilt.nd rfl (.inl rfl) (pe_ix ix_tup (pv 5) (pv 6) (fun _ _ => rfl)))))
      (pss_cons (ps_if (pt_val (pe_callB call_isi (by rfl) T.isinstance (by decide +kernel) (pa_cons (pv 5) (pa_cons (pe_bltn (v := .ty "tuple") (by rfl) T.tuple (by decide +kernel) rfl) pa_nil)))) (pss_cons (ps_set (i := 7) sc_law_spoilt.nd rfl (.inl rfl) (lstN (pa_cons (pe_callTy call_list_ofN (by rfl) T.list (by decide +kernel) (pa_cons (pv 5) pa_nil)) (pa_cons (pe_op op_catTB (pv 5) (tupN (pa_cons pe_int pa_nil))) (pa_cons (pe_slice sl_tupB (pv 5) po_none (po_some (pe_un un_neg pe_int))) (pa_cons (pe_slice sl_tupB (pv 5) (po_some pe_int) po_none) (pa_cons (pe_op op_catTB (pv 5) (pv 5)) (pa_cons (tupN pa_nil) (pa_cons pe_non (pa_cons pe_dnewK (pa_cons (pe_revT (pv 5)) (pa_cons (pe_op op_catTB (pv 5) (pe_slice sl_tupB (pv 5) po_none (po_some pe_int))) pa_nil))))))))))))
      (pss_one (ps_ret (callD D_law_put (hr.mono (by decide)) (pa_cons (pv 1) (pa_cons (pv 4) (pa_cons (pe_ix ix_list (pe_op op_catLN (pv 7) (lstN (pa_cons (lstN (pa_cons (pv 5) pa_nil)) (pa_cons pe_str (pa_cons (tupN (pa_cons (pv 5) pa_nil)) pa_nil))))) (pv 2) (fun _ _ => rfl)) pa_nil))))))) pss_nil)
      (pss_cons (ps_set (i := 7) sc_law_spoilt.nd rfl (.inl rfl) (lstN (pa_cons (pe_op op_add (pv 5) pe_int) (pa_cons (pe_op op_sub (pv 5) pe_int) (pa_cons (pe_op op_sub pe_int (pv 5)) (pa_cons pe_int (pa_cons (pe_cmpR op_eq (pe_op op_mod (pv 5) pe_int) pe_int (nomark _)) (pa_cons pe_bl (pa_cons pe_non (pa_cons (pe_callTy call_str_int (by rfl) T.str (by decide +kernel) (pa_cons (pv 5) pa_nil)) (pa_cons (tupN (pa_cons (pv 5) pa_nil)) (pa_cons (lstN (pa_cons (pv 5) pa_nil)) (pa_cons (pe_disp (pps_cons (pv 5) pe_int pps_nil) rfl rfl (by simp) (by decide)) (pa_cons pe_int pa_nil))))))))))))))
      (pss_one (ps_ret (callD D_law_put (hr.mono (by decide)) (pa_cons (pv 1) (pa_cons (pv 4) (pa_cons (pe_ix ix_list (pe_op op_catLN (pv 7) (lstN (pa_cons (pe_op op_pow pe_int pe_int) pa_nil))) (pv 2) (fun _ _ => rfl)) pa_nil))))))))))))), ?_⟩
    refine ⟨.ref d, rfl, d, l, 13, rfl, by decide, by decide, D, fun way H1 w0 w1 S1 => ?_⟩
    have hv1 := hv.step S1 D
    refine ⟨_, rfl, v, x, 0, n, d, l, rfl, hv1, gd, by decide, hn3, by omega, fun L H2 us ps s2 eL all ne len good => ?_⟩
    have D2 := (Step.of S1.deck s2).deck
    have nd := spots_nd D2 eL all ne
    have lu := all.length
    have lp : 0 < us.length := by rw [lu]; exact List.length_pos_iff.mpr ne
    have sz : szS n ≤ 400 := by
      have : n = 0 ∨ n = 1 ∨ n = 2 ∨ n = 3 := by omega
      rcases this with rfl | rfl | rfl | rfl <;> decide
    refine ⟨_, rfl, .ref d, rfl, _, rfl, L, us, rfl, .inl (.inl (.inl eL)), d, l, us.length, rfl, by omega, by omega, D2, fun j H3 j0 j1 S3 => ?_⟩
    have e3 := S3.at nd.1 nd.2 eL
    obtain ⟨jn, rfl⟩ := Int.eq_ofNat_of_zero_le j0
    have hj : jn < us.length := by omega
    have eu : us[jn]? = some us[jn] := List.getElem?_eq_getElem hj
    obtain ⟨qq, hqq, b, eb, hb⟩ := all.get eu
    obtain ⟨z, hz⟩ := good qq (List.mem_of_getElem? hqq)
    obtain ⟨mz, emz, gz⟩ := hz.gd gd
    have puz := hz.pu pu
    have hb3 : SqT K H3 b (qq.map ki) := stT S3 D2 hb
    have S03 := (S1.trans (Step.of S1.deck s2)).trans S3
    have hv3 := hv.step S03 D
    have D3 := S3.deck
    refine ⟨L, us, _, .ref b, rfl, rfl, .inl (.inl e3), (by rw [← eb]; exact atI_nat eu), _, rfl, ?_⟩
    refine ⟨fun σ' H' => ∃ u y6 y7, σ' = [some (.ref d), some v, some (.int way), some (.ref L), some (.ref b), some u, y6, y7] ∧ H' = H3 ∧ Tz K d l H3 u z, ?_, ?_⟩
    · refine ⟨_, rfl, b, rfl, ⟨_, hb3⟩, for_tup (K := K) (a := b) (xs := qq.map ki) (fun i σ' H' => ∃ u y6 y7 py, σ' = [some (.ref d), some v, some (.int way), some (.ref L), some (.ref b), some u, y6, y7] ∧ H' = H3 ∧ Tz K d l H3 u py ∧ At py (qq.drop i) z) ⟨v, _, _, x, rfl, rfl, hv3, hz⟩ (fun i σ' H' _ z => by obtain ⟨_, _, _, _, _, rfl, _⟩ := z; exact hb3) (fun i k σ' H' hk z0 => ?_) (fun σ' H' z0 => ?_)⟩
      · obtain ⟨u, y6, y7, py, rfl, rfl, hpy, hat⟩ := z0
        rw [List.getElem?_map] at hk
        cases e : qq[i]? with
        | none => rw [e] at hk; cases hk
        | some kk =>
          rw [e] at hk
          cases hk
          have ed : qq.drop i = kk :: qq.drop (i + 1) := by
            obtain ⟨h1, h2⟩ := List.getElem?_eq_some_iff.mp e
            rw [← h2]
            exact (List.drop_eq_getElem_cons h1)
          rw [ed] at hat
          cases hat with
          | @sub ds k y0 _ _ e0 hat0 =>
            cases hpy with
            | @tup a2 xs _ hT2 hall2 =>
              obtain ⟨w0, ew, hw⟩ := hall2.get e0
              exact ⟨_, rfl, _, rfl, a2, xs, _, w0, rfl, rfl, hT2, atI_nat ew, _, _, _, _, rfl, rfl, hw, hat0⟩
      · obtain ⟨u, y6, y7, py, rfl, rfl, hpy, hat⟩ := z0
        rw [List.length_map, List.drop_length] at hat
        cases hat
        exact ⟨_, _, _, rfl, rfl, hpy⟩
    · rintro σ' H' ⟨u, y6, y7, rfl, rfl, hu⟩
      have gd4 : Gd 4 n x := gd.up.up.up.up
      cases puz with
      | @tup ds hp =>
        cases hu with
        | @tup a xs _ hS3 hall =>
        cases gz with
        | lf h => exact h.elim
        | @tup m0 _ hl hx =>
        have lx := hall.len
        refine ⟨_, rfl, _, _, _, _, _, rfl, .ty _, (Kd.tup hS3).ty, kit_ty (Kd.tup hS3).tuple?, _, rfl, iteT ?_⟩
        refine ⟨_, rfl, a, _, rfl, .inr hS3, fun p1 A1 m1 t1 g1 => ?_⟩
        refine ⟨_, rfl, (by show 1 ≤ sizeLine; decide), fun p2 A2 m2 t2 g2 => ⟨a, p2, _, _, rfl, rfl, seT (t1.trans t2) hS3, .inl (.inl g2), small64' (by simp only [List.length_append, List.length_cons, List.length_nil]; omega), fun p3 A3 t3 g3 => ?_⟩⟩
        have T3 := t1.trans (t2.trans t3)
        refine ⟨_, rfl, _, rfl, _, rfl, a, _, rfl, seT T3 hS3, fun p4 A4 t4 g4 => ?_⟩
        have T4 := T3.trans t4
        refine ⟨_, rfl, _, rfl, a, _, rfl, seT T4 hS3, fun p5 A5 t5 g5 => ?_⟩
        have T5 := T4.trans t5
        refine ⟨_, rfl, _, rfl, a, a, _, _, rfl, rfl, seT T5 hS3, seT T5 hS3, small64' (by omega), fun p6 A6 t6 g6 => ?_⟩
        have T6 := T5.trans t6
        refine ⟨Nat.zero_le _, fun p7 A7 m7 t7 g7 => ?_⟩
        have T7 := T6.trans t7
        intro p8 m8
        have t8 : Same A7 (upd A7 p8 (.dK [])) := same_new m8
        have g8 : (upd A7 p8 (.dK [])) p8 = some (.dK []) := upd_same
        generalize (upd A7 p8 (.dK [])) = A8 at t8 g8
        have T8 := T7.trans t8
        refine ⟨_, rfl, a, _, rfl, seT T8 hS3, fun p9 A9 m9 t9 g9 => ?_⟩
        have T9 := T8.trans t9
        refine ⟨_, rfl, _, rfl, _, rfl, a, _, rfl, seT T9 hS3, fun p10 A10 t10 g10 => ⟨a, p10, _, _, rfl, rfl, seT (T9.trans t10) hS3, g10, small64' (by rw [cut_first]; simp; omega), fun p11 A11 t11 g11 => ?_⟩⟩
        have T11 := T9.trans (t10.trans t11)
        refine ⟨(by show 10 ≤ sizeLine; decide), fun L A12 m12 t12 g12 => ?_⟩
        refine ⟨_, rfl, _, rfl, _, rfl, _, rfl, (by show 1 ≤ sizeLine; decide), fun p13 A13 m13 t13 g13 => ?_⟩
        refine ⟨_, rfl, (by show 1 ≤ sizeLine; decide), fun p14 A14 m14 t14 g14 => ⟨(by show 3 ≤ sizeLine; decide), fun p15 A15 m15 t15 g15 => ?_⟩⟩
        refine ⟨L, p15, _, _, rfl, rfl, t15 _ _ (t14 _ _ (t13 _ _ g12)), g15, small64' (by simp only [List.length_append, List.length_cons, List.length_nil]; omega), fun p16 A16 m16 t16 g16 => ?_⟩
        have u15 := t16
        have u14 := t15.trans u15
        have u13 := t14.trans u14
        have u12 := t13.trans u13
        have u11 := t12.trans u12
        have u10 := t11.trans u11
        have u9 := t10.trans u10
        have u8 := t9.trans u9
        have u7 := t8.trans u8
        have u6 := t7.trans u7
        have u5 := t6.trans u6
        have u4 := t5.trans u5
        have u3 := t4.trans u4
        have u1 := t2.trans (t3.trans u3)
        have T16 := t1.trans u1
        have D16 := (Step.of D3 T16).deck
        rw [cut_init, List.dropLast_eq_take] at g4
        rw [cut_rest] at g5
        rw [cut_first] at g11
        have hS16 := hall.same T16
        have i0 : TzAll K d l A16 [.int 0] [.int 0] := .cons (.int 0) .nil
        have D7 := (Step.of D3 T7).deck
        have D12 := (Step.of D3 (T11.trans t12)).deck
        have allv : TzAll K d l A16 ([V.ref p1, .ref p3, .ref p4, .ref p5, .ref p6, .ref p7, .non, .ref p8, .ref p9, .ref p11] ++ [.ref p13, .str "x", .ref p14])
            [.none, .tuple (ds ++ [.int 0]), .tuple (ds.take (xs.length - 1)), .tuple (ds.drop 1), .tuple (ds ++ ds), .tuple [], .none, .none, .tuple ds.reverse, .tuple (ds ++ ds.take 1), .none, .none, .tuple [.tuple ds]] :=
          .cons (.lst (D3.nd m1).1 (D3.nd m1).2 (u1 _ _ g1)) (.cons (.tup (seT u3 g3) (hS16.app i0)) (.cons (.tup (seT u4 g4) (hS16.take _)) (.cons (.tup (seT u5 g5) (hS16.drop _)) (.cons (.tup (seT u6 g6) (hS16.app hS16)) (.cons (.tup (.inl (.inl (u7 _ _ g7))) .nil) (.cons .non (.cons (.dct (D7.nd m8).1 (D7.nd m8).2 (u8 _ _ g8)) (.cons (.tup (.inl (.inl (u9 _ _ g9))) hS16.rev) (.cons (.tup (seT u11 g11) (hS16.app (hS16.take 1))) (.cons (.lst (D12.nd m13).1 (D12.nd m13).2 (u13 _ _ g13)) (.cons .str (.cons (.tup (.inl (.inl (u14 _ _ g14))) (.cons (.tup (seT T16 hS3) hS16) .nil)) .nil))))))))))))
        have good9 : ∀ y ∈ [PyData.none, .tuple (ds ++ [.int 0]), .tuple (ds.take (xs.length - 1)), .tuple (ds.drop 1), .tuple (ds ++ ds), .tuple [], .none, .none, .tuple ds.reverse, .tuple (ds ++ ds.take 1), .none, .none, .tuple [.tuple ds]], Gd 5 (m0 + 1 + 1) y := by
          intro y hy
          have nn : Gd 5 (m0 + 1 + 1) .none := .lf trivial
          simp only [List.mem_cons, List.not_mem_nil, or_false] at hy
          rcases hy with rfl | rfl | rfl | rfl | rfl | rfl | rfl | rfl | rfl | rfl | rfl | rfl | rfl
          · exact nn
          · refine tupG5 (by simp; omega) fun e m => ?_
            rcases List.mem_append.mp m with m | m
            · exact hx e m
            · rw [List.mem_singleton.mp m]
              exact gInt0 (by decide)
          · exact tupG5 (by rw [List.length_take]; omega) fun e m => hx e (List.mem_of_mem_take m)
          · exact tupG5 (by rw [List.length_drop]; omega) fun e m => hx e (List.mem_of_mem_drop m)
          · exact tupG5 (by simp; omega) fun e m => (List.mem_append.mp m).elim (hx e) (hx e)
          · exact tupG5 (by simp) fun e m => nomatch m
          · exact nn
          · exact nn
          · exact tupG5 (by simp; omega) fun e m => hx e (List.mem_reverse.mp m)
          · exact tupG5 (by simp; omega) fun e m => (List.mem_append.mp m).elim (hx e) (fun m => hx e (List.mem_of_mem_take m))
          · exact nn
          · exact nn
          · exact .tup (by simp) fun e m => by
              rw [List.mem_singleton.mp m]
              exact Gd.up5 (.tup hl hx)
        obtain ⟨w, y, hw, hy, qy⟩ := allv.ati w0 (by simp; omega)
        exact ⟨_, rfl, p16, _, way, w, rfl, rfl, .inl (.inl g16), hw, v, .ref b, w, x, qq, _, y, 0, n, d, l, rfl, hv3.same T16, ⟨b, rfl, seT T16 hb3⟩, hz, gd, by decide, by omega, qy, fun w' H' s' hw' => q w' H' _ (S03.trans ((Step.of D3 T16).trans (Step.of D16 s'))) hw' (hz.put gd4 (good9 _ hy) (by omega))⟩
      | @int i bi =>
        cases hu
        have kI : Kd K H' (.int i) "int" := .int i
        refine ⟨_, rfl, _, _, _, _, _, rfl, .ty _, kI.ty, kit_ty kI.tuple?, _, rfl, iteF ?_⟩
        refine ⟨_, rfl, _, _, rfl, rfl, _, rfl, _, _, rfl, rfl, _, rfl, _, _, rfl, rfl, _, rfl, _, _, rfl, rfl, (by show (0 : Int) < 2; decide), rfl, _, rfl, _, rfl, Nat.lt_trans (PySem.Flt.log2_lt_of (by decide) bi) (by decide), ?_⟩
        refine ⟨_, rfl, (by show 1 ≤ sizeLine; decide), fun p1 A1 m1 t1 g1 => ?_⟩
        refine ⟨_, rfl, (by show 1 ≤ sizeLine; decide), fun p2 A2 m2 t2 g2 => ?_⟩
        intro p3 m3
        refine ⟨_, rfl, upd_same, [(Sum.inl i, .int 0)], rfl, (by simp), ?_⟩
        have t3 : Same A2 (upd (upd A2 p3 (.dK [])) p3 (.dK (mergeK [] [(Sum.inl i, V.int 0)]))) := (same_new m3).upN m3
        have g3 : (upd (upd A2 p3 (.dK [])) p3 (.dK (mergeK [] [(Sum.inl i, V.int 0)]))) p3 = some (.dK (mergeK [] [(Sum.inl i, V.int 0)])) := upd_same
        generalize (upd (upd A2 p3 (.dK [])) p3 (.dK (mergeK [] [(Sum.inl i, V.int 0)]))) = A3 at t3 g3
        have T2 := t1.trans t2
        refine ⟨(by show 12 ≤ sizeLine; decide), fun L A4 m4 t4 g4 => ?_⟩
        refine ⟨_, rfl, _, rfl, _, rfl, _, _, rfl, rfl, ⟨by decide, by decide, by decide⟩, (by show 1 ≤ sizeLine; decide), fun p5 A5 m5 t5 g5 => ?_⟩
        refine ⟨L, p5, _, _, rfl, rfl, t5 _ _ g4, g5, small64' (by simp), fun p6 A6 m6 t6 g6 => ?_⟩
        have u5 := t5.trans t6
        have u4 := t4.trans u5
        have u3 := t3.trans u4
        have u2 := t2.trans u3
        have T6 := t1.trans u2
        have D6 := (Step.of D3 T6).deck
        have D1 := (Step.of D3 t1).deck
        have D2' := (Step.of D3 T2).deck
        have allv : TzAll K d l A6 ([V.int (i + 1), .int (i - 1), .int (0 - i), .int 0, .bl (decide (V.int (i % 2) = .int 1)), .bl true, .non, .str (toString i), .ref p1, .ref p2, .ref p3, .int 1] ++ [.int (10 ^ (39 : Int).toNat)])
            [.int (i + 1), .int (i - 1), .int (0 - i), .int 0, .none, .none, .none, .none, .tuple [.int i], .none, .none, .int 1, .int (10 ^ (39 : Int).toNat)] :=
          .cons (.int _) (.cons (.int _) (.cons (.int _) (.cons (.int _) (.cons .bl (.cons .bl (.cons .non (.cons .str (.cons (.tup (.inl (.inl (u2 _ _ g1))) (.cons (.int i) .nil)) (.cons (.lst (D1.nd m2).1 (D1.nd m2).2 (u3 _ _ g2)) (.cons (.dct (D2'.nd m3).1 (D2'.nd m3).2 (u4 _ _ g3)) (.cons (.int _) (.cons (.int _) .nil))))))))))))
        have good9 : ∀ y ∈ [PyData.int (i + 1), .int (i - 1), .int (0 - i), .int 0, .none, .none, .none, .none, .tuple [.int i], .none, .none, .int 1, .int (10 ^ (39 : Int).toNat)], Gd 5 (mz + 1) y := by
          intro y hy
          have nn : Gd 5 (mz + 1) .none := .lf trivial
          simp only [List.mem_cons, List.not_mem_nil, or_false] at hy
          rcases hy with rfl | rfl | rfl | rfl | rfl | rfl | rfl | rfl | rfl | rfl | rfl | rfl | rfl
          · exact gInt (by omega)
          · exact gInt (by omega)
          · exact gInt (by omega)
          · exact gInt0 (by decide)
          · exact nn
          · exact nn
          · exact nn
          · exact nn
          · exact .tup (by simp) fun e m => by
              rw [List.mem_singleton.mp m]
              exact gInt0 bi
          · exact nn
          · exact nn
          · exact gInt0 (by decide)
          · exact gInt0 (by show ((10 : Int) ^ 39).natAbs < 2 ^ 130; decide)
        obtain ⟨w, y, hw, hy, qy⟩ := allv.ati w0 (by simp; omega)
        exact ⟨_, rfl, p6, _, way, w, rfl, rfl, .inl (.inl g6), hw, v, .ref b, w, x, qq, _, y, 0, n, d, l, rfl, hv3.same T6, ⟨b, rfl, seT T6 hb3⟩, hz, gd, by decide, by omega, qy, fun w' H' s' hw' => q w' H' _ (S03.trans ((Step.of D3 T6).trans (Step.of D6 s'))) hw' (hz.put gd4 (good9 _ hy) (by omega))⟩

end
end Cl

set_option maxHeartbeats 0
namespace Cl
open PySem PySem.Spec PyProof.Rows L2
open GxR (TabB TabG)


def lnT (r : Ln) : PyData := .tuple [.tuple [.int r.1.1, .int r.1.2], .tuple [.int r.2.1, .int r.2.2]]
def lsT (ls : List Ln) : PyData := .tuple (ls.map lnT)
section
variable {K : PySem.W.Frag} {d l : Addr} {H : Hp}
theorem tz_pt {v : V} {p : Pt} (h : At2 K H v p) : Tz K d l H v (.tuple [.int p.1, .int p.2]) := by
  obtain ⟨a, rfl, h⟩ := h
  exact .tup h (.cons (.int _) (.cons (.int _) .nil))
theorem tz_ln {v : V} {r : Ln} (h : AtL K H v r) : Tz K d l H v (lnT r) := by
  obtain ⟨a, u, w, rfl, h, h1, h2⟩ := h
  exact .tup h (.cons (tz_pt h1) (.cons (tz_pt h2) .nil))
theorem tz_all : ∀ {vs : List V} {ls : List Ln}, AllAt (AtL K H) vs ls → TzAll K d l H vs (ls.map lnT)
  | _, _, .nil => .nil
  | _, _, .cons h t => .cons (tz_ln h) (tz_all t)
theorem tz_ls {v : V} {ls : List Ln} (h : AtT K H v ls) : Tz K d l H v (lsT ls) := by
  obtain ⟨a, vs, rfl, h, t⟩ := h
  exact .tup h (tz_all t)
end
theorem bdInt {B i : Int} (h1 : -B ≤ i) (h2 : i ≤ B) (hb : B ≤ 2 ^ 40) : i.natAbs < 2 ^ 130 := by
  have : (2 : Int) ^ 40 = 1099511627776 := by decide
  omega
theorem gd_ln {B : Int} {r : Ln} (b : BdR B r) (hb : B ≤ 2 ^ 40) : Gd 0 2 (lnT r) := by
  obtain ⟨⟨⟨x1, x2⟩, y1, y2⟩, ⟨u1, u2⟩, v1, v2⟩ := b
  refine .tup (by simp) fun y hy => ?_
  simp only [List.mem_cons, List.not_mem_nil, or_false] at hy
  rcases hy with rfl | rfl
  · refine .tup (by simp) fun y hy => ?_
    simp only [List.mem_cons, List.not_mem_nil, or_false] at hy
    rcases hy with rfl | rfl
    · exact gInt0 (bdInt x1 x2 hb)
    · exact gInt0 (bdInt y1 y2 hb)
  · refine .tup (by simp) fun y hy => ?_
    simp only [List.mem_cons, List.not_mem_nil, or_false] at hy
    rcases hy with rfl | rfl
    · exact gInt0 (bdInt u1 u2 hb)
    · exact gInt0 (bdInt v1 v2 hb)
theorem pu_ln {B : Int} {r : Ln} (b : BdR B r) (hb : B ≤ 2 ^ 40) : Pu (lnT r) := by
  obtain ⟨⟨⟨x1, x2⟩, y1, y2⟩, ⟨u1, u2⟩, v1, v2⟩ := b
  refine .tup fun y hy => ?_
  simp only [List.mem_cons, List.not_mem_nil, or_false] at hy
  rcases hy with rfl | rfl
  · refine .tup fun y hy => ?_
    simp only [List.mem_cons, List.not_mem_nil, or_false] at hy
    rcases hy with rfl | rfl
    · exact .int (bdInt x1 x2 hb)
    · exact .int (bdInt y1 y2 hb)
  · refine .tup fun y hy => ?_
    simp only [List.mem_cons, List.not_mem_nil, or_false] at hy
    rcases hy with rfl | rfl
    · exact .int (bdInt u1 u2 hb)
    · exact .int (bdInt v1 v2 hb)
theorem gd_ls {B : Int} {ls : List Ln} (hl : ls.length ≤ 5) (b : ∀ r ∈ ls, BdR B r) (hb : B ≤ 2 ^ 40) : Gd 0 3 (lsT ls) :=
  .tup (by rw [List.length_map]; exact hl) fun y hy => by
    obtain ⟨r, hr, rfl⟩ := List.mem_map.mp hy
    exact gd_ln (b r hr) hb
theorem pu_ls {B : Int} {ls : List Ln} (b : ∀ r ∈ ls, BdR B r) (hb : B ≤ 2 ^ 40) : Pu (lsT ls) :=
  .tup fun y hy => by
    obtain ⟨r, hr, rfl⟩ := List.mem_map.mp hy
    exact pu_ln (b r hr) hb
theorem stepTab {d l Pt : Addr} {H H' : Hp} (D : Deck H d l) (S : Step d l H H') (h : TabG H Pt) : TabG H' Pt := by
  obtain ⟨ns, s, c, h1, h2, _⟩ := D.ex
  obtain ⟨ps, e, t⟩ := h
  exact (S.at (ne_of e h1 (by intro z; cases z)) (ne_of e h2 (by intro z; cases z)) e) t |>.elim fun ps' q => ⟨ps', q.1, q.2⟩
def spMany (K : PySem.W.Frag) (P P2 : Addr) : Sp := fun vs H Q _ => ∃ d l, vs = [.ref d] ∧ Deck H d l ∧ TabG H P ∧ TabG H P2 ∧ ∀ H', Step d l H H' → Q (.bl true) H'

section
variable {P : Program} {w : World} {K : PySem.W.Frag} {mg : Str → Option Value} {base : Heap}

theorem ok_law_many_right {f Pa Pb : Addr} {fd : FuncData} (F : Fun K "_law_many_right" "_law_many_right" s_law_many_right f fd) (T : Bt mg) (D_law_draw : Def P w K mg base 1 "_law_draw" ["_law_deck_here", "_law_most"] spDraw) (D_law_lines : Def P w K mg base 4 "_law_lines" ["_law_deck_here", "_law_grain_here", "_law_many"] (spLines1 K)) (D_law_right : Def P w K mg base 9 "_law_right" ["_law_thing"] (spRightT K Pa Pb)) (D_law_spoilt : Def P w K mg base 6 "_law_spoilt" ["_law_deck_here", "_law_thing"] (spSpoilt K)) :
    FnG P w K mg base CX0 10 f fd ["_law_deck_here"] (spMany K Pa Pb) := by
  refine okG (k := 9) F sc_law_many_right (fun vs H Q E h => ?_) (fun cdv A outer s H vs Q E hr h => ?_)
  · obtain ⟨d, l, rfl, _⟩ := h
    rfl
  · obtain ⟨d, l, rfl, D, hTa, hTb, q⟩ := h
    refine ⟨_, (pss_cons (ps_set (i := 1) sc_law_many_right.nd rfl (.inl rfl) (callD D_law_lines (hr.mono (by decide)) (pa_cons (pv 0) (pa_cons pe_int (pa_cons (pe_op op_add pe_int (callD D_law_draw (hr.mono (by decide)) (pa_cons (pv 0) (pa_cons pe_int pa_nil)))) pa_nil)))))
      (cutS (ps_if (pt_not (pt_val (callD D_law_right (hr.mono (by decide)) (pa_cons (pv 1) pa_nil)))) (pss_one (ps_ret pe_bl)) pss_nil)
      (cutS (ps_for PassesOwn.never rfl (pi_tup (tupN (pa_cons (callD D_law_draw (hr.mono (by decide)) (pa_cons (pv 0) (pa_cons (pe_callB call_len_seq (by rfl) T.len (by decide +kernel) (pa_cons (pv 1) pa_nil)) pa_nil))) (pa_cons (pe_op op_sub (pe_callB call_len_seq (by rfl) T.len (by decide +kernel) (pa_cons (pv 1) pa_nil)) pe_int) pa_nil)))) (pg_name (i := 2) sc_law_many_right.nd rfl (.inl rfl)) (pss_cons (ps_set (i := 3) sc_law_many_right.nd rfl (.inl rfl) (callD D_law_spoilt (hr.mono (by decide)) (pa_cons (pv 0) (pa_cons (pe_ix ix_tup (pv 1) (pv 2) (fun _ _ => rfl)) pa_nil))))
      (pss_one (ps_if (pt_not (pt_val (callD D_law_right (hr.mono (by decide)) (pa_cons (pe_op op_catTB (pe_op op_catTB (pe_slice sl_tupB (pv 1) po_none (po_some (pv 2))) (tupN (pa_cons (pv 3) pa_nil))) (pe_slice sl_tupB (pv 1) (po_some (pe_op op_add (pv 2) pe_int)) po_none)) pa_nil)))) (pss_one (ps_ret pe_bl)) pss_nil))))
      (pss_one (ps_ret pe_bl))))), ?_⟩
    refine ⟨.ref d, rfl, .ref d, rfl, d, l, 188, rfl, by decide, by decide, D, fun m H1 m0 m1 S1 => ⟨_, _, rfl, rfl, ?_⟩⟩
    obtain ⟨mn, rfl⟩ := Int.eq_ofNat_of_zero_le m0
    refine ⟨d, l, 3, 13 + mn, rfl, by decide, by decide, by omega, by omega, S1.deck, fun w H2 ls S2 hw hl hb => ?_⟩
    have S12 := S1.trans S2
    have D2 := S2.deck
    obtain ⟨a, vs, rfl, hS, hall⟩ := id hw
    have lv := hall.length
    refine ⟨fun σ' H' => σ' = [some (.ref d), some (.ref a), none, none] ∧ Same H2 H', ?_, ?_⟩
    · refine ⟨_, rfl, _, lsT ls, d, l, rfl, stepTab D S12 hTa, stepTab D S12 hTb, tz_ls hw, fun es e => by cases e; rw [List.length_map]; omega, fun H3 s3 => ?_⟩
      exact ⟨_, rfl, iteF ⟨rfl, s3⟩⟩
    · rintro σ' H3 ⟨rfl, s3⟩
      have S13 := S12.trans (Step.of D2 s3)
      have D3 := S13.deck
      have hS3 := seT s3 hS
      have hw3 : AtT K H3 (.ref a) ls := ⟨a, vs, rfl, hS3, hall.map fun _ _ z => z.same s3⟩
      refine ⟨fun σ' H' => ∃ y2 y3, σ' = [some (.ref d), some (.ref a), y2, y3] ∧ Step d l H3 H', ?_, ?_⟩
      · refine ⟨.ref d, rfl, _, rfl, a, vs, rfl, .inr hS3, d, l, vs.length, rfl, by omega, by omega, D3, fun j H4 j0 j1 S4 => ?_⟩
        have hS4 := stT S4 D3 hS3
        refine ⟨_, rfl, a, vs, rfl, .inr hS4, _, _, rfl, rfl, (by show 2 ≤ sizeLine; decide), fun pT H5 n5 s5 g5 => ?_⟩
        have S45 := S4.trans (Step.of S4.deck s5)
        have D5 := S45.deck
        have gT : SqT K H5 pT [.int j, .int (((vs.length : Nat) : Int) - 1)] := .inl (.inl g5)
        refine ⟨pT, rfl, ⟨_, gT⟩, for_tup (K := K) (a := pT) (xs := [.int j, .int (((vs.length : Nat) : Int) - 1)]) (fun i σ' H' => ∃ y2 y3, σ' = [some (.ref d), some (.ref a), y2, y3] ∧ Step d l H5 H') ⟨_, _, rfl, Step.refl D5⟩ (fun i σ' H' _ z => by obtain ⟨_, _, rfl, S⟩ := z; exact stT S D5 gT) (fun i x σ' H' hx z => ?_) (fun σ' H' z => ?_)⟩
        · obtain ⟨y2, y3, rfl, S5⟩ := z
          obtain ⟨k, rfl, hk⟩ : ∃ k : Nat, x = .int (k : Nat) ∧ k < vs.length := by
            obtain ⟨jn, rfl⟩ := Int.eq_ofNat_of_zero_le j0
            rcases i with _ | _ | i
            · exact ⟨jn, (Option.some.inj hx).symm, by omega⟩
            · exact ⟨vs.length - 1, by rw [← Option.some.inj hx]; congr 1; omega, by omega⟩
            · simp at hx
          have S35 := S45.trans S5
          have D' := S5.deck
          have S1' := S13.trans S35
          have hS' := stT S35 D3 hS3
          have hall' : AllAt (AtL K H') vs ls := hall.map fun _ _ z => (z.same s3).step S35 D3
          obtain ⟨r, hr_, hvr⟩ := hall'.get (List.getElem?_eq_getElem hk)
          refine ⟨.ref d, rfl, .ref a, rfl, _, rfl, a, vs, _, _, rfl, rfl, hS', atI_nat (List.getElem?_eq_getElem hk), d, l, _, lnT r, 2, rfl, D', tz_ln hvr, gd_ln (hb r (List.mem_of_getElem? hr_)) (by decide), pu_ln (hb r (List.mem_of_getElem? hr_)) (by decide), by decide, fun w H6 y S6 hy gy => ?_⟩
          have S16 := S1'.trans S6
          have D6 := S6.deck
          have hS6 := stT S6 D' hS'
          have hall6 : TzAll K d l H6 vs (ls.map lnT) := tz_all (hall'.map fun _ _ z => z.step S6 D')
          refine ⟨.ref a, rfl, _, rfl, _, rfl, a, vs, rfl, hS6, fun p2 H7 s7 e7 => ?_⟩
          rw [cutV_take] at e7
          refine ⟨_, rfl, (by show 1 ≤ sizeLine; decide), fun p3 H8 n8 s8 e8 => ?_⟩
          refine ⟨p2, p3, _, _, rfl, rfl, seT s8 e7, .inl (.inl e8), Nat.le_of_lt (small1000 (by rw [List.length_take]; simp only [List.length_cons, List.length_nil]; omega)), fun p4 H9 s9 e9 => ?_⟩
          have s69 := s7.trans (s8.trans s9)
          refine ⟨.ref a, rfl, _, rfl, _, _, rfl, rfl, _, rfl, a, vs, rfl, seT s69 hS6, fun p5 H10 s10 e10 => ?_⟩
          rw [show ((k : Nat) : Int) + 1 = ((k + 1 : Nat) : Int) from rfl, cutV_drop] at e10
          refine ⟨p4, p5, _, _, rfl, rfl, seT s10 e9, e10, Nat.le_of_lt (small1000 (by simp only [List.length_append, List.length_take, List.length_drop, List.length_cons, List.length_nil]; omega)), fun p6 H11 s11 e11 => ?_⟩
          have s6b := s69.trans (s10.trans s11)
          have hb2 := hall6.same s6b
          refine ⟨.ref p6, _, d, l, rfl, s6b.tab (stepTab D S16 hTa), s6b.tab (stepTab D S16 hTb), .tup e11 ((((hb2.take k).app (.cons (hy.same s6b) .nil))).app (hb2.drop (k + 1))), fun es e => ?_, fun H12 s12 => ⟨_, rfl, iteF ⟨_, _, rfl, (S5.trans S6).trans (Step.of D6 (s6b.trans s12))⟩⟩⟩
          cases e
          simp only [List.length_append, List.length_take, List.length_drop, List.length_cons, List.length_nil, List.length_map]
          omega
        · obtain ⟨y2, y3, rfl, S5⟩ := z
          exact ⟨_, _, rfl, S45.trans S5⟩
      · rintro σ' H4 ⟨y2, y3, rfl, S4⟩
        exact q H4 (S13.trans S4)

end
end Cl

set_option maxHeartbeats 0
namespace Cl
open PySem PySem.Spec PyProof.Rows L2
open GxR (TabB TabG)


def Ok9 (t : PyData) : Prop := ∀ ds, t = .tuple ds → ds.length ≤ 900
def Tg (K : PySem.W.Frag) (d l : Addr) (H : Hp) (ws : List V) : Prop := ∃ ts, TzAll K d l H ws ts ∧ ∀ t ∈ ts, Ok9 t
section
variable {K : PySem.W.Frag} {d l : Addr} {H H' : Hp} {ws us : List V}
theorem Tg.nil : Tg K d l H [] := ⟨[], .nil, fun t h => nomatch h⟩
theorem Tg.one {v : V} {t : PyData} (h : Tz K d l H v t) (o : Ok9 t) : Tg K d l H [v] := ⟨[t], .cons h .nil, fun u m => by rw [List.mem_singleton.mp m]; exact o⟩
theorem Tg.app (h : Tg K d l H ws) (h2 : Tg K d l H us) : Tg K d l H (ws ++ us) := by
  obtain ⟨ts, a, b⟩ := h
  obtain ⟨ts2, a2, b2⟩ := h2
  exact ⟨ts ++ ts2, a.app a2, fun t m => (List.mem_append.mp m).elim (b t) (b2 t)⟩
theorem Tg.cons {v : V} {t : PyData} (h : Tz K d l H v t) (o : Ok9 t) (h2 : Tg K d l H us) : Tg K d l H (v :: us) := (Tg.one h o).app h2
theorem Tg.same (h : Tg K d l H ws) (s : Same H H') : Tg K d l H' ws := by
  obtain ⟨ts, a, b⟩ := h
  exact ⟨ts, a.same s, b⟩
theorem Tg.step (h : Tg K d l H ws) (S : Step d l H H') (D : Deck H d l) : Tg K d l H' ws := by
  obtain ⟨ts, a, b⟩ := h
  exact ⟨ts, a.step S D, b⟩
theorem Tg.upL {p : Addr} {xs ys : List V} (h : Tg K d l H ws) (e : H p = some (.lst xs)) : Tg K d l (upd H p (.lst ys)) ws := by
  obtain ⟨ts, a, b⟩ := h
  exact ⟨ts, a.upL e, b⟩
theorem Tg.at {i : Nat} {x : V} (h : Tg K d l H ws) (e : ws[i]? = some x) : ∃ t, Tz K d l H x t ∧ Ok9 t := by
  obtain ⟨ts, a, b⟩ := h
  obtain ⟨y, ey, hy⟩ := a.at e
  exact ⟨y, hy, b y (List.mem_of_getElem? ey)⟩
end
theorem ok9_none : Ok9 .none := fun ds e => nomatch e
theorem ok9_int {i : Int} : Ok9 (.int i) := fun ds e => nomatch e
theorem ok9_tup {es : List PyData} (h : es.length ≤ 900) : Ok9 (.tuple es) := fun ds e => by
  cases e
  exact h
theorem ok9_gd {n : Nat} {t : PyData} (g : Gd 5 n t) : Ok9 t := fun ds e => by
  subst e
  cases g with
  | lf h => exact h.elim
  | tup hl _ => omega
theorem gd_parts {n : Nat} {ds : List PyData} (g : Gd 5 n (.tuple ds)) : ds.length ≤ 10 ∧ ∀ t ∈ ds, Ok9 t := by
  cases g with
  | lf h => exact h.elim
  | tup hl hx => exact ⟨by omega, fun t m => ok9_gd (hx t m)⟩
theorem att_step {K : PySem.W.Frag} {d l : Addr} {H H' : Hp} {v : V} {ls : List Ln} (h : AtT K H v ls) (S : Step d l H H') (D : Deck H d l) : AtT K H' v ls := by
  obtain ⟨a, vs, e, h1, h2⟩ := h
  exact ⟨a, vs, e, stT S D h1, h2.map fun _ _ z => z.step S D⟩
theorem att_same {K : PySem.W.Frag} {H H' : Hp} {v : V} {ls : List Ln} (h : AtT K H v ls) (s : Same H H') : AtT K H' v ls := by
  obtain ⟨a, vs, e, h1, h2⟩ := h
  exact ⟨a, vs, e, seT s h1, h2.map fun _ _ z => z.same s⟩
theorem bdR_up {B C : Int} {r : Ln} (h : BdR B r) (l : B ≤ C) : BdR C r := by
  unfold BdR BdN at *
  omega
theorem bdR_mv {r : Ln} {x z : Int} (h : BdR 60000 r) (x0 : -1000000 ≤ x) (x1 : x ≤ 1000000) (z0 : -1000000 ≤ z) (z1 : z ≤ 1000000) : BdR 1100000 (mvL x z r) := by
  unfold BdR BdN mvL at *
  simp only
  omega
def spLawT (K : PySem.W.Frag) (P P2 : Addr) : Sp := fun vs H Q _ => ∃ (a : Addr) (ns : List Int), vs = [.ref a] ∧ SqL K H a (ns.map V.int) ∧ ns.length ≤ 63 ∧ TabG H P ∧ TabG H P2 ∧ ∀ H', Q (.bl true) H'

section
variable {P : Program} {w : World} {K : PySem.W.Frag} {mg : Str → Option Value} {base : Heap}

theorem oklaw {f Pa Pb : Addr} {fd : FuncData} (F : Fun K "law" "law" slaw f fd) (T : Bt mg) (D_law_deck : Def P w K mg base 1 "_law_deck" ["_law_script"] (spDeck K)) (D_law_draw : Def P w K mg base 1 "_law_draw" ["_law_deck_here", "_law_most"] spDraw) (D_law_grain : Def P w K mg base 2 "_law_grain" ["_law_deck_here"] spGrainW) (D_law_lines : Def P w K mg base 4 "_law_lines" ["_law_deck_here", "_law_grain_here", "_law_many"] (spLines1 K)) (D_law_far : Def P w K mg base 2 "_law_far" ["_law_deck_here"] spFarW) (D_law_moved : Def P w K mg base 1 "_law_moved" ["_law_lines_here", "_law_dx", "_law_dy"] (spMovedW K)) (D_law_right : Def P w K mg base 9 "_law_right" ["_law_thing"] (spRightT K Pa Pb)) (D_law_spoilt : Def P w K mg base 6 "_law_spoilt" ["_law_deck_here", "_law_thing"] (spSpoilt K)) (D_law_many_right : Def P w K mg base 10 "_law_many_right" ["_law_deck_here"] (spMany K Pa Pb)) :
    FnG P w K mg base CX0 11 f fd ["_law_script"] (spLawT K Pa Pb) := by
  refine okG (k := 10) F sclaw (fun vs H Q E h => ?_) (fun cdv A outer s H vs Q E hr h => ?_)
  · obtain ⟨a, ns, rfl, _⟩ := h
    rfl
  · obtain ⟨a, ns, rfl, hS, hlen, hTa, hTb, q⟩ := h
    refine ⟨_, (pss_cons (ps_set (i := 1) sclaw.nd rfl (.inl rfl) (callD D_law_deck (hr.mono (by decide)) (pa_cons (pv 0) pa_nil)))
      (pss_cons (ps_set (i := 2) sclaw.nd rfl (.inl rfl) (lstN (pa_cons pe_non (pa_cons pe_bl (pa_cons pe_bl (pa_cons pe_int (pa_cons (pe_un un_neg pe_int) (pa_cons pe_int (pa_cons pe_int (pa_cons pe_str (pa_cons pe_str (pa_cons (tupN pa_nil) (pa_cons (lstN pa_nil) (pa_cons pe_dnewK (pa_cons (tupN (pa_cons pe_int pa_nil)) (pa_cons (tupN (pa_cons pe_int (pa_cons pe_int pa_nil))) (pa_cons (tupN (pa_cons (tupN (pa_cons pe_int (pa_cons pe_int pa_nil))) (pa_cons (tupN (pa_cons pe_int (pa_cons pe_int pa_nil))) pa_nil))) pa_nil)))))))))))))))))
      (pss_cons (ps_expr (pe_bm PySem.F.plainAttrs_list PySem.F.slot_list_append PySem.F.type_list_append mt_append (pv 2) (pa_cons (tupN (pa_cons (tupN (pa_cons (tupN (pa_cons pe_int (pa_cons pe_int pa_nil))) (pa_cons (tupN (pa_cons pe_int (pa_cons pe_int pa_nil))) pa_nil))) pa_nil)) pa_nil)))
      (cutS (ps_for PassesOwn.never rfl (pi_range1 (by rfl) T.range (pa_cons pe_int pa_nil)) (pg_name (i := 3) sclaw.nd rfl (.inl rfl)) (pss_cons (ps_set (i := 4) sclaw.nd rfl (.inl rfl) (pe_cmpR op_eq (callD D_law_draw (hr.mono (by decide)) (pa_cons (pv 1) (pa_cons pe_int pa_nil))) pe_int (nomark _)))
      (pss_cons (ps_set (i := 5) sclaw.nd rfl (.inl rfl) (callD D_law_grain (hr.mono (by decide)) (pa_cons (pv 1) pa_nil)))
      (pss_cons (ps_set (i := 6) sclaw.nd rfl (.inl rfl) (callD D_law_lines (hr.mono (by decide)) (pa_cons (pv 1) (pa_cons (pv 5) (pa_cons (callD D_law_draw (hr.mono (by decide)) (pa_cons (pv 1) (pa_cons pe_int pa_nil))) pa_nil)))))
      (cutS (ps_if (pt_val (pv 4)) (pss_one (ps_set (i := 6) sclaw.nd rfl (.inl rfl) (callD D_law_moved (hr.mono (by decide)) (pa_cons (pv 6) (pa_cons (callD D_law_far (hr.mono (by decide)) (pa_cons (pv 1) pa_nil)) (pa_cons (callD D_law_far (hr.mono (by decide)) (pa_cons (pv 1) pa_nil)) pa_nil)))))) pss_nil)
      (pss_cons (ps_set (i := 7) sclaw.nd rfl (.inl rfl) (pe_op op_catLN (pe_op op_catLN (lstN (pa_cons (pv 6) (pa_cons (pv 5) pa_nil))) (pe_callTy call_list_ofN (by rfl) T.list (by decide +kernel) (pa_cons (pv 6) pa_nil))) (pe_lc (own := [("_law_line_here", 8)]) (g := gName 8) (tt := tYes) (by rfl) sclaw.nd (pi_tup (pv 6)) (blkOk_by (own := [("_law_line_here", 8)]) (N := ["_law_script", "_law_deck_here", "_law_odd", "_law_turn", "_law_far_here", "_law_grain_here", "_law_lines_here", "_law_things", "_law_line_here", "_law_k", "_law_bent", "_law_part", "_law_thing"]) (sc := defScope slaw) (by decide +kernel)) (fun _ _ _ _ _ => (pg_name (i := 8) sclaw.nd rfl (.inl rfl))) (fun _ _ _ _ _ => pts_nil) (fun _ _ _ _ _ => (pe_ix (ix_tupk (K := K) rfl) (pv 8) pe_int (fun _ _ => rfl))))))
      (cutS (ps_for PassesOwn.never rfl (pi_range1 (by rfl) T.range (pa_cons pe_int pa_nil)) (pg_name (i := 9) sclaw.nd rfl (.inl rfl)) (pss_cons (ps_set (i := 10) sclaw.nd rfl (.inl rfl) (callD D_law_spoilt (hr.mono (by decide)) (pa_cons (pv 1) (pa_cons (pv 6) pa_nil))))
      (pss_cons (ps_expr (pe_bm PySem.F.plainAttrs_list PySem.F.slot_list_append PySem.F.type_list_append mt_append (pv 7) (pa_cons (pv 10) pa_nil)))
      (pss_one (ps_if (pt_val (pe_callB call_isi (by rfl) T.isinstance (by decide +kernel) (pa_cons (pv 10) (pa_cons (pe_bltn (v := .ty "tuple") (by rfl) T.tuple (by decide +kernel) rfl) pa_nil)))) (pss_one (ps_expr (pe_bm PySem.F.plainAttrs_list PySem.F.slot_list_extend PySem.F.type_list_extend mt_extend (pv 7) (pa_cons (pe_lc (own := [("_law_part", 11)]) (g := gName 11) (tt := tYes) (by rfl) sclaw.nd (pi_tup (pv 10)) (blkOk_by (own := [("_law_part", 11)]) (N := ["_law_script", "_law_deck_here", "_law_odd", "_law_turn", "_law_far_here", "_law_grain_here", "_law_lines_here", "_law_things", "_law_line_here", "_law_k", "_law_bent", "_law_part", "_law_thing"]) (sc := defScope slaw) (by decide +kernel)) (fun _ _ _ _ _ => (pg_name (i := 11) sclaw.nd rfl (.inl rfl))) (fun _ _ _ _ _ => pts_nil) (fun _ _ _ _ _ => (pv 11))) pa_nil)))) pss_nil)))))
      (pss_one (ps_for PassesOwn.never rfl (pi_list (pe_op op_catLN (pe_op op_catLN (pv 7) (pv 2)) (lstN (pa_cons (callD D_law_spoilt (hr.mono (by decide)) (pa_cons (pv 1) (pa_cons (pv 5) pa_nil))) (pa_cons (pv 6) pa_nil))))) (pg_name (i := 12) sclaw.nd rfl (.inl rfl)) (pss_one (ps_if (pt_not (pt_val (callD D_law_right (hr.mono (by decide)) (pa_cons (pv 12) pa_nil)))) (pss_one (ps_ret pe_bl)) pss_nil)))))))))))
      (pss_one (ps_ret (callD D_law_many_right (hr.mono (by decide)) (pa_cons (pv 1) pa_nil)))))))), ?_⟩
    refine ⟨.ref a, rfl, a, ns, rfl, hS, hlen, fun d l A0 s1 D0 => ?_⟩
    refine ⟨_, rfl, Nat.zero_le _, fun p1 A1 m1 t1 g1 => ?_⟩
    refine ⟨Nat.zero_le _, fun p2 A2 m2 t2 g2 => ?_⟩
    intro p3 m3
    have t3 : Same A2 (upd A2 p3 (.dK [])) := same_new m3
    have g3 : (upd A2 p3 (.dK [])) p3 = some (.dK []) := upd_same
    generalize (upd A2 p3 (.dK [])) = A3 at t3 g3
    refine ⟨(by show 1 ≤ sizeLine; decide), fun p4 A4 m4 t4 g4 => ?_⟩
    refine ⟨(by show 2 ≤ sizeLine; decide), fun p5 A5 m5 t5 g5 => ?_⟩
    refine ⟨(by show 2 ≤ sizeLine; decide), fun p6 A6 m6 t6 g6 => ?_⟩
    refine ⟨(by show 2 ≤ sizeLine; decide), fun p7 A7 m7 t7 g7 => ?_⟩
    refine ⟨(by show 2 ≤ sizeLine; decide), fun p8 A8 m8 t8 g8 => ?_⟩
    refine ⟨(by show 15 ≤ sizeLine; decide), fun p9 A9 m9 t9 g9 => ?_⟩
    refine ⟨.ref p9, rfl, .inl ⟨rfl, _, .inl (.inl g9)⟩, (by show 2 ≤ sizeLine; decide), fun p10 A10 m10 t10 g10 => ?_⟩
    refine ⟨(by show 2 ≤ sizeLine; decide), fun p11 A11 m11 t11 g11 => ?_⟩
    refine ⟨(by show 2 ≤ sizeLine; decide), fun p12 A12 m12 t12 g12 => ?_⟩
    refine ⟨(by show 1 ≤ sizeLine; decide), fun p13 A13 m13 t13 g13 => ?_⟩
    have v12 := t13
    have v11 := t12.trans v12
    have v10 := t11.trans v11
    have v9 := t10.trans v10
    have v8 := t9.trans v9
    have v7 := t8.trans v8
    have v6 := t7.trans v7
    have v5 := t6.trans v6
    have v4 := t5.trans v5
    have v3 := t4.trans v4
    have v2 := t3.trans v3
    have v1 := t2.trans v2
    have v0 := t1.trans v1
    have e9 := v9 _ _ g9
    refine ⟨p9, _, .ref p13, rfl, rfl, e9, small1000 (by simp), ?_⟩
    have D1 := (Step.of D0 t1).deck
    have D2 := (Step.of D1 t2).deck
    have D8 := (Step.of D2 (t3.trans (t4.trans (t5.trans (t6.trans (t7.trans t8)))))).deck
    have D13 := (Step.of D8 v8).deck
    have np9 := D8.nd m9
    have SO : Step d l A8 (upd A13 p9 (.lst ([V.non, .bl true, .bl false, .int 0, .int (-1), .int 1, .int 1000, .str "", .str "1", .ref p1, .ref p2, .ref p3, .ref p4, .ref p5, .ref p8] ++ [V.ref p13]))) := (Step.of D8 v8).updN np9.1 np9.2 m9
    have z2 : ∀ {p : Addr}, A13 p = some (.tup [.int 0, .int 0]) → Tz K d l A13 (.ref p) (.tuple [.int 0, .int 0]) := fun e => .tup (.inl (.inl e)) (.cons (.int 0) (.cons (.int 0) .nil))
    have TO : Tg K d l A13 ([V.non, .bl true, .bl false, .int 0, .int (-1), .int 1, .int 1000, .str "", .str "1", .ref p1, .ref p2, .ref p3, .ref p4, .ref p5, .ref p8] ++ [V.ref p13]) := by
      refine Tg.app ?_ (Tg.one (.tup (.inl (.inl g13)) (.cons (.tup (.inl (.inl (v12 _ _ g12))) (.cons (z2 (v10 _ _ g10)) (.cons (.tup (.inl (.inl (v11 _ _ g11))) (.cons (.int 0) (.cons (.int 1) .nil))) .nil))) .nil)) (ok9_tup (by decide)))
      exact .cons .non ok9_none (.cons .bl ok9_none (.cons .bl ok9_none (.cons (.int _) ok9_int (.cons (.int _) ok9_int (.cons (.int _) ok9_int (.cons (.int _) ok9_int (.cons .str ok9_none (.cons .str ok9_none (.cons (.tup (.inl (.inl (v1 _ _ g1))) .nil) (ok9_tup (by decide)) (.cons (.lst (D1.nd m2).1 (D1.nd m2).2 (v2 _ _ g2)) ok9_none (.cons (.dct (D2.nd m3).1 (D2.nd m3).2 (v3 _ _ g3)) ok9_none (.cons (.tup (.inl (.inl (v4 _ _ g4))) (.cons (.int 0) .nil)) (ok9_tup (by decide)) (.cons (z2 (v5 _ _ g5)) (ok9_tup (by decide)) (.cons (.tup (.inl (.inl (v8 _ _ g8))) (.cons (z2 (v6 _ _ g6)) (.cons (z2 (v7 _ _ g7)) .nil))) (ok9_tup (by decide)) .nil))))))))))))))
    have TOd := TO.upL (ys := [V.non, .bl true, .bl false, .int 0, .int (-1), .int 1, .int 1000, .str "", .str "1", .ref p1, .ref p2, .ref p3, .ref p4, .ref p5, .ref p8] ++ [V.ref p13]) e9
    have eO : (upd A13 p9 (.lst ([V.non, .bl true, .bl false, .int 0, .int (-1), .int 1, .int 1000, .str "", .str "1", .ref p1, .ref p2, .ref p3, .ref p4, .ref p5, .ref p8] ++ [V.ref p13]))) p9 = some (.lst ([V.non, .bl true, .bl false, .int 0, .int (-1), .int 1, .int 1000, .str "", .str "1", .ref p1, .ref p2, .ref p3, .ref p4, .ref p5, .ref p8] ++ [V.ref p13])) := upd_same
    have lO : ([V.non, .bl true, .bl false, .int 0, .int (-1), .int 1, .int 1000, .str "", .str "1", .ref p1, .ref p2, .ref p3, .ref p4, .ref p5, .ref p8] ++ [V.ref p13]).length = 16 := rfl
    have s08 : Same A0 A8 := t1.trans (t2.trans (t3.trans (t4.trans (t5.trans (t6.trans (t7.trans t8))))))
    have TA := stepTab D8 SO (s08.tab (s1.tab hTa))
    have TB := stepTab D8 SO (s08.tab (s1.tab hTb))
    have DO := SO.deck
    revert SO TOd eO lO TA TB DO
    generalize ([V.non, .bl true, .bl false, .int 0, .int (-1), .int 1, .int 1000, .str "", .str "1", .ref p1, .ref p2, .ref p3, .ref p4, .ref p5, .ref p8] ++ [V.ref p13]) = od
    generalize upd A13 p9 (.lst od) = HO
    intro SO TOd eO lO TA TB DO
    refine ⟨fun σ' H' => ∃ y3 y4 y5 y6 y7 y8 y9 y10 y11 y12, σ' = [some (.ref a), some (.ref d), some (.ref p9), y3, y4, y5, y6, y7, y8, y9, y10, y11, y12] ∧ Step d l HO H', ?_, ?_⟩
    · refine ⟨4, rfl, by decide, by decide, for_range (n := 4) (fun i σ' H' => ∃ y3 y4 y5 y6 y7 y8 y9 y10 y11 y12, σ' = [some (.ref a), some (.ref d), some (.ref p9), y3, y4, y5, y6, y7, y8, y9, y10, y11, y12] ∧ Step d l HO H') ?_ ?_ ?_⟩
      · exact ⟨_, _, _, _, _, _, _, _, _, _, rfl, Step.refl DO⟩
      · rintro i σ H1 hi ⟨y3, y4, y5, y6, y7, y8, y9, y10, y11, y12, rfl, S1⟩
        refine ⟨.ref d, rfl, d, l, 4, rfl, by decide, by decide, S1.deck, fun w0 H2 w00 w01 S2 => ⟨rfl, ?_⟩⟩
        generalize decide (V.int w0 = V.int 1) = fb
        refine ⟨.ref d, rfl, d, l, rfl, S2.deck, fun gr H3 h0 h1 S3 => ?_⟩
        refine ⟨.ref d, rfl, _, rfl, .ref d, rfl, d, l, 5, rfl, by decide, by decide, S3.deck, fun m H4 m0 m1 S4 => ?_⟩
        obtain ⟨mn, rfl⟩ := Int.eq_ofNat_of_zero_le m0
        refine ⟨d, l, gr, mn, rfl, h0, h1, Nat.zero_le _, by omega, S4.deck, fun w H5 ls S5 hw hl hb => ?_⟩
        have S15 := (((S1.trans S2).trans S3).trans S4).trans S5
        refine ⟨fun σ' H' => ∃ y3' w' ls', σ' = [some (.ref a), some (.ref d), some (.ref p9), y3', some (.bl fb), some (.int gr), some w', y7, y8, y9, y10, y11, y12] ∧ Step d l H5 H' ∧ AtT K H' w' ls' ∧ ls'.length ≤ 4 ∧ ∀ r ∈ ls', BdR 1100000 r, ?_, ?_⟩
        · refine ⟨_, rfl, _, rfl, ?_⟩
          cases fb with
          | false => exact iteF ⟨_, w, ls, rfl, Step.refl S5.deck, hw, by omega, fun r hr => bdR_up (hb r hr) (by decide)⟩
          | true =>
            refine iteT ⟨_, rfl, .ref d, rfl, d, l, rfl, S5.deck, fun x H6 x0 x1 S6 => ⟨.ref d, rfl, d, l, rfl, S6.deck, fun z H7 z0 z1 S7 => ?_⟩⟩
            refine ⟨w, ls, x, z, rfl, att_step hw (S6.trans S7) S5.deck, by omega, fun w' H8 s8 hw' => ⟨_, w', ls.map (mvL x z), rfl, (S6.trans S7).trans (Step.of S7.deck s8), hw', by rw [List.length_map]; omega, fun r hr => ?_⟩⟩
            obtain ⟨r0, hr0, rfl⟩ := List.mem_map.mp hr
            exact bdR_mv (hb r0 hr0) x0 x1 z0 z1
        · rintro σ' H6 ⟨y3', w', ls', rfl, S6, hw6, hl6, hb6⟩
          have D6 := S6.deck
          have S16 := S15.trans S6
          obtain ⟨aL, vs, rfl, hSL, hall⟩ := id hw6
          have lv := hall.length
          refine ⟨_, rfl, _, rfl, (by show 2 ≤ sizeLine; decide), fun q1 B1 n1 s1 g1 => ?_⟩
          refine ⟨_, rfl, aL, vs, rfl, .inr (seT s1 hSL), fun q2 B2 n2 s2 g2 => ?_⟩
          refine ⟨q1, q2, _, _, rfl, rfl, s2 _ _ g1, g2, small64' (by simp only [List.length_cons, List.length_nil]; omega), fun q3 B3 n3 s3 g3 => ?_⟩
          have b3 := s1.trans (s2.trans s3)
          have hS3 := seT b3 hSL
          refine ⟨_, rfl, aL, rfl, ⟨_, hS3⟩, fun q4 n4 => ?_⟩
          refine lcT (K := K) (a := aL) (xs := vs) (fun j H' => Same B3 H' ∧ ∃ us, H' q4 = some (.lst us) ∧ us.length = j ∧ Tg K d l H' us) n4 (fun H' e1 e2 => ⟨e1, [], e2, rfl, .nil⟩) (fun j H' _ z => seT z.1 hS3) (fun j x H' hx z => ?_) (fun B5 z => ?_)
          · obtain ⟨z1, us, z2, z3, z4⟩ := z
            have hj : j < vs.length := (List.getElem?_eq_some_iff.mp hx).1
            obtain ⟨r, _, px, u, u2, rfl, hSx, hu, _⟩ := hall.get hx
            have bx := b3.trans z1
            refine ⟨rfl, _, rfl, px, _, 0, u, rfl, rfl, seT bx hSx, rfl, ?_⟩
            obtain ⟨acc, a1, a2, a3, a4⟩ := acc_new (y := u) n4 z1 z2 (by omega)
            have hu' : Tz K d l H' u _ := tz_pt (hu.same bx)
            exact ⟨acc, a1, a2, a3, us ++ [u], a4, by simp [z3], (z4.upL a1).app (Tg.one (hu'.upL a1) (ok9_tup (by simp)))⟩
          · obtain ⟨z1, us, z2, z3, z4⟩ := z
            refine ⟨q3, q4, _, _, rfl, rfl, z1 _ _ g3, z2, small64' (by simp only [List.length_append, List.length_cons, List.length_nil]; omega), fun q5 B6 n5 s5 g5 => ?_⟩
            have b5 := b3.trans z1
            have D5 := (Step.of D6 b5).deck
            have nq := D5.nd n5
            have hw5 := att_same hw6 b5
            have TG : Tg K d l B6 (([V.ref aL, .int gr] ++ vs) ++ us) :=
              ((Tg.cons (tz_ls (att_same hw5 s5)) (ok9_tup (by rw [List.length_map]; omega)) (Tg.one (.int gr) ok9_int)).app ⟨_, tz_all (hall.map fun _ _ z => z.same (b5.trans s5)), fun t ht => by
                obtain ⟨r, _, rfl⟩ := List.mem_map.mp ht
                exact ok9_tup (by simp)⟩).app (z4.same s5)
            have ng : (([V.ref aL, .int gr] ++ vs) ++ us).length ≤ 20 := by simp only [List.length_append, List.length_cons, List.length_nil]; omega
            generalize (([V.ref aL, .int gr] ++ vs) ++ us) = gs at g5 TG ng
            refine ⟨fun σ' H' => ∃ y8 y9 y10 y11 y12 ws, σ' = [some (.ref a), some (.ref d), some (.ref p9), y3', some (.bl fb), some (.int gr), some (.ref aL), some (.ref q5), y8, y9, y10, y11, y12] ∧ Step d l B5 H' ∧ H' q5 = some (.lst ws) ∧ ws.length ≤ 80 ∧ Tg K d l H' ws, ?_, ?_⟩
            · refine ⟨5, rfl, by decide, by decide, for_range (n := 5) (fun k σ' H' => ∃ y8 y9 y10 y11 y12 ws, σ' = [some (.ref a), some (.ref d), some (.ref p9), y3', some (.bl fb), some (.int gr), some (.ref aL), some (.ref q5), y8, y9, y10, y11, y12] ∧ Step d l B5 H' ∧ H' q5 = some (.lst ws) ∧ ws.length ≤ 20 + 12 * k ∧ Tg K d l H' ws) ?_ ?_ ?_⟩
              · exact ⟨_, _, _, _, _, gs, rfl, Step.of D5 s5, g5, ng, TG⟩
              · rintro k σ C1 hk ⟨y8, y9, y10, y11, y12, ws, rfl, S, eq5, lw, T1⟩
                refine ⟨.ref d, rfl, _, rfl, d, l, _, lsT ls', 3, rfl, S.deck, tz_ls (att_step hw5 S D5), gd_ls (by omega) hb6 (by decide), pu_ls hb6 (by decide), by decide, fun b C2 y S2 hy gy => ?_⟩
                have e2 := S2.at nq.1 nq.2 eq5
                refine ⟨.ref q5, rfl, .inl ⟨rfl, _, .inl (.inl e2)⟩, _, rfl, q5, _, b, rfl, rfl, e2, small1000 (by omega), ?_⟩
                have S3 : Step d l B5 (upd C2 q5 (.lst (ws ++ [b]))) := (S.trans S2).updN nq.1 nq.2 n5
                have T3 : Tg K d l (upd C2 q5 (.lst (ws ++ [b]))) (ws ++ [b]) := ((T1.step S2 S.deck).upL e2).app (Tg.one (hy.upL e2) (ok9_gd gy))
                have hy3 : Tz K d l (upd C2 q5 (.lst (ws ++ [b]))) b y := hy.upL e2
                have e3 : (upd C2 q5 (.lst (ws ++ [b]))) q5 = some (.lst (ws ++ [b])) := upd_same
                have l3 : (ws ++ [b]).length ≤ 21 + 12 * k := by rw [List.length_append]; simp only [List.length_cons, List.length_nil]; omega
                generalize (ws ++ [b]) = ws3 at S3 T3 hy3 e3 l3
                generalize upd C2 q5 (.lst ws3) = C3 at S3 T3 hy3 e3
                obtain ⟨U, hk3, ht3, _⟩ := hy3.kd
                refine ⟨_, rfl, _, _, _, _, _, rfl, .ty _, hk3.ty, kit_ty hk3.tuple?, _, rfl, ?_⟩
                by_cases e0 : U = "tuple"
                · rw [decide_eq_true e0]
                  obtain ⟨ds, rfl⟩ := ht3.mp e0
                  cases hy3 with
                  | @tup p xs _ hSp hallp =>
                  obtain ⟨lp, okp⟩ := gd_parts gy
                  have lx := hallp.len
                  refine iteT ⟨.ref q5, rfl, .inl ⟨rfl, _, .inl (.inl e3)⟩, _, rfl, p, rfl, ⟨_, hSp⟩, fun q6 n6 => ?_⟩
                  refine lcT (K := K) (a := p) (xs := xs) (fun j H' => Same C3 H' ∧ H' q6 = some (.lst (xs.take j))) n6 (fun H' e1 e2 => ⟨e1, e2⟩) (fun j H' _ z => seT z.1 hSp) (fun j x H' hx z => ?_) (fun C5 z => ?_)
                  · obtain ⟨z1, z2⟩ := z
                    obtain ⟨acc, a1, a2, a3, a4⟩ := acc_new (y := x) n6 z1 z2 (by rw [List.length_take]; omega)
                    refine ⟨rfl, _, rfl, acc, a1, a2, a3, ?_⟩
                    rw [List.take_add_one, hx]
                    exact a4
                  · obtain ⟨z1, z2⟩ := z
                    rw [List.take_length] at z2
                    exact ⟨q5, q6, ws3, xs, rfl, rfl, z1 _ _ e3, z2, Nat.le_of_lt (small1000 (by omega)), _, _, _, _, _, ws3 ++ xs, rfl, (S3.trans (Step.of S3.deck z1)).updN nq.1 nq.2 n5, upd_same, by rw [List.length_append]; omega, ((T3.same z1).upL (z1 _ _ e3)).app ⟨ds, (hallp.same z1).upL (z1 _ _ e3), okp⟩⟩
                · rw [decide_eq_false e0]
                  exact iteF ⟨_, _, _, _, _, ws3, rfl, S3, e3, by omega, T3⟩
              · rintro σ C1 ⟨y8, y9, y10, y11, y12, ws, rfl, S, eq5, lw, T1⟩
                exact ⟨_, _, _, _, _, ws, rfl, S, eq5, by omega, T1⟩
            · rintro σ' C1 ⟨y8, y9, y10, y11, y12, ws, rfl, S, eq5, lw, T1⟩
              have SF := (S16.trans (Step.of D6 b5)).trans S
              have DC := S.deck
              have eOC := SF.at np9.1 np9.2 eO
              have TOC := TOd.step SF DO
              have TAC := stepTab DO SF TA
              have TBC := stepTab DO SF TB
              have hwC := att_step hw5 S D5
              refine ⟨_, rfl, _, rfl, q5, p9, _, _, rfl, rfl, eq5, eOC, Nat.le_of_lt (small1000 (by omega)), fun r1 E1 nr1 sr1 gr1 => ?_⟩
              have DE1 := (Step.of DC sr1).deck
              have nr := DC.nd nr1
              refine ⟨.ref d, rfl, _, rfl, d, l, .int gr, .int gr, 0, rfl, DE1, .int gr, gInt0 (by omega), .int (by omega), by decide, fun b E2 y S2 hy gy => ?_⟩
              have er1 := S2.at nr.1 nr.2 gr1
              refine ⟨_, rfl, (by show 2 ≤ sizeLine; decide), fun r2 E3 nr2 sr2 gr2 => ?_⟩
              refine ⟨r1, r2, _, _, rfl, rfl, sr2 _ _ er1, gr2, Nat.le_of_lt (small1000 (by simp only [List.length_append, List.length_cons, List.length_nil]; omega)), fun r3 E4 nr3 sr3 gr3 => ?_⟩
              have SE : Step d l C1 E4 := ((Step.of DC sr1).trans S2).trans (Step.of S2.deck (sr2.trans sr3))
              have TE4 : Tg K d l E4 ((ws ++ od) ++ [b, .ref aL]) :=
                (((T1.step SE DC).app (TOC.step SE DC))).app (Tg.cons (hy.same (sr2.trans sr3)) (ok9_gd gy) (Tg.one (tz_ls (att_step hwC SE DC)) (ok9_tup (by rw [List.length_map]; omega))))
              have TAE := stepTab DC SE TAC
              have TBE := stepTab DC SE TBC
              have SH := SF.trans SE
              have DE := SE.deck
              generalize ((ws ++ od) ++ [b, V.ref aL]) = fs at gr3 TE4
              refine ⟨r3, rfl, ⟨_, .inl (.inl gr3)⟩, for_list (K := K) (a := r3) (xs := fs) (fun i σ' H' => ∃ y12, σ' = [some (.ref a), some (.ref d), some (.ref p9), y3', some (.bl fb), some (.int gr), some (.ref aL), some (.ref q5), y8, y9, y10, y11, y12] ∧ Same E4 H') ⟨_, rfl, .refl _⟩ (fun i σ' H' _ z => by obtain ⟨_, _, z⟩ := z; exact .inl (.inl (z _ _ gr3))) (fun i x σ' H' e z => ?_) (fun σ' H' z => ?_)⟩
              · obtain ⟨y12, rfl, s6⟩ := z
                obtain ⟨t, ht, ot⟩ := TE4.at e
                exact ⟨_, rfl, x, t, d, l, rfl, s6.tab TAE, s6.tab TBE, ht.same s6, ot, fun H9 s9 => ⟨_, rfl, iteF ⟨_, rfl, s6.trans s9⟩⟩⟩
              · obtain ⟨y12, rfl, s6⟩ := z
                exact ⟨_, _, _, _, _, _, _, _, _, _, rfl, SH.trans (Step.of DE s6)⟩
      · rintro σ H1 ⟨y3, y4, y5, y6, y7, y8, y9, y10, y11, y12, rfl, S1⟩
        exact ⟨_, _, _, _, _, _, _, _, _, _, rfl, S1⟩
    · rintro σ' H1 ⟨y3, y4, y5, y6, y7, y8, y9, y10, y11, y12, rfl, S1⟩
      exact ⟨.ref d, rfl, d, l, rfl, S1.deck, stepTab DO S1 TA, stepTab DO S1 TB, fun H2 S2 => q H2⟩

end
end Cl

set_option maxHeartbeats 0
namespace Cl
open PySem PySem.Spec PyProof.Rows L2
open GxR (TabB TabG)

section
variable {P : Program} {w : World} {K : PySem.W.Frag} {mg : Str → Option Value} {base : Heap}

theorem ok_law_put {f : Addr} {fd : FuncData} (F : Fun K "_law_put" "_law_put" s_law_put f fd) (T : Bt mg) {m k : Nat} (D_law_put : Def P w K mg base k "_law_put" ["_law_thing", "_law_spot", "_law_part"] (spPut K m)) :
    FnG P w K mg base CX0 (k + 1) f fd ["_law_thing", "_law_spot", "_law_part"] (spPut K (m + 1)) := by
  refine okG (k := k) F sc_law_put (fun vs H Q E h => ?_) (fun cdv A outer s H vs Q E hr h => ?_)
  · obtain ⟨v, u, w, x, q, z, y, p, n, d, l, rfl, _⟩ := h
    rfl
  · obtain ⟨v, u, w, x, q, z, y, p, n, d, l, rfl, hv, hu, ha, gd, hp, hm, hw, q1⟩ := h
    refine ⟨_, (pss_cons (ps_if (pt_cmpR (op_eqTNil hr.room.units) (pv 1) (tupN pa_nil) (nomark _)) (pss_one (ps_ret (pv 2))) pss_nil)
      (pss_cons (ps_set (i := 3) sc_law_put.nd rfl (.inl rfl) (pe_ix ix_tup (pv 1) pe_int (fun _ _ => rfl)))
      (pss_one (ps_ret (pe_op op_catTB (pe_op op_catTB (pe_slice sl_tupB (pv 0) po_none (po_some (pv 3))) (tupN (pa_cons (callD D_law_put (hr.mono (Nat.le_refl _)) (pa_cons (pe_ix ix_tup (pv 0) (pv 3) (fun _ _ => rfl)) (pa_cons (pe_slice sl_tupB (pv 1) (po_some pe_int) po_none) (pa_cons (pv 2) pa_nil)))) pa_nil))) (pe_slice sl_tupB (pv 0) (po_some (pe_op op_add (pv 3) pe_int)) po_none)))))), ?_⟩
    obtain ⟨b, rfl, hS⟩ := hu
    refine ⟨_, rfl, Nat.zero_le _, fun p1 H1 n1 s1 e1 => ?_⟩
    refine ⟨b, p1, _, rfl, rfl, seT s1 hS, .inl (.inl e1), _, rfl, ?_⟩
    cases ha with
    | here => exact iteT ⟨_, rfl, q1 _ _ s1 (hw.same s1)⟩
    | @sub ds k y0 z0 q0 e a0 =>
      refine iteF ?_
      cases hv with
      | @tup a xs _ hT hall =>
      cases gd with
      | lf h => exact h.elim
      | @tup n _ hl hx =>
      obtain ⟨v0, ev, hv0⟩ := hall.get e
      have lx := hall.len
      have hk : k < xs.length := (List.getElem?_eq_some_iff.mp ev).1
      have eg : ds.getD k .none = y0 := by rw [List.getD_eq_getElem?_getD, e]; rfl
      refine ⟨.ref b, rfl, b, _, 0, _, rfl, rfl, seT s1 hS, atI_nat (j := 0) rfl, ?_⟩
      refine ⟨.ref a, rfl, _, rfl, _, rfl, a, xs, rfl, seT s1 hT, fun p2 H2 s2 e2 => ?_⟩
      rw [cutV_take] at e2
      have S2 := s1.trans s2
      refine ⟨.ref a, rfl, _, rfl, a, xs, _, v0, rfl, rfl, seT S2 hT, atI_nat ev, ?_⟩
      refine ⟨.ref b, rfl, _, rfl, b, _, rfl, seT S2 hS, fun p3 H3 s3 e3 => ?_⟩
      rw [cut_rest] at e3
      have S3 := S2.trans s3
      refine ⟨_, rfl, v0, .ref p3, w, y0, q0, z, y, p, n, d, l, rfl, hv0.same S3, ⟨p3, rfl, e3⟩, a0, hx _ (List.mem_of_getElem? e), hp, by simp at hm; omega, hw.same S3, fun w4 H4 s4 hw4 => ?_⟩
      refine ⟨(by show 1 ≤ sizeLine; decide), fun p5 H5 n5 s5 e5 => ?_⟩
      have S5 := s3.trans (s4.trans s5)
      have hL1 : (xs.take k).length + [w4].length ≤ sizeLine := small64' (by rw [List.length_take]; show _ + 1 ≤ _; omega)
      have hL2 : (xs.take k ++ [w4]).length + (xs.drop (k + 1)).length ≤ sizeLine := small64' (by rw [List.length_append, List.length_take, List.length_drop]; show _ + 1 + _ ≤ _; omega)
      refine ⟨p2, p5, _, _, rfl, rfl, seT S5 e2, .inl (.inl e5), hL1, fun p6 H6 s6 e6 => ?_⟩
      refine ⟨.ref a, rfl, _, rfl, _, _, rfl, rfl, _, rfl, a, xs, rfl, seT (S2.trans (S5.trans s6)) hT, fun p7 H7 s7 e7 => ?_⟩
      rw [show ((k : Nat) : Int) + 1 = ((k + 1 : Nat) : Int) from rfl, cutV_drop] at e7
      refine ⟨p6, p7, _, _, rfl, rfl, seT s7 e6, e7, hL2, fun p8 H8 s8 e8 => ?_⟩
      have SS := S2.trans (S5.trans (s6.trans (s7.trans s8)))
      have hall8 := hall.same SS
      refine q1 _ _ SS ?_
      show Tz K d l H8 (.ref p8) (.tuple (ds.take k ++ [putD q0 (ds.getD k .none) y] ++ ds.drop (k + 1)))
      rw [eg]
      exact .tup e8 (TzAll.app (TzAll.app (hall8.take k) (.cons (hw4.same (s5.trans (s6.trans (s7.trans s8)))) .nil)) (hall8.drop (k + 1)))


end
end Cl

set_option maxHeartbeats 0
namespace Cl
open PySem PySem.Spec PyProof.Rows L2
open GxR (TabB TabG)

section
variable {P : Program} {w : World} {K : PySem.W.Frag} {mg : Str → Option Value} {base : Heap}

theorem ok_law_spots {f : Addr} {fd : FuncData} (F : Fun K "_law_spots" "_law_spots" s_law_spots f fd) (T : Bt mg) {m k : Nat} (D_law_spots : Def P w K mg base k "_law_spots" ["_law_thing"] (spSpots K m)) :
    FnG P w K mg base CX0 (k + 1) f fd ["_law_thing"] (spSpots K (m + 1)) := by
  refine okG (k := k) F sc_law_spots (fun vs H Q E h => ?_) (fun cdv A outer s H vs Q E hr h => ?_)
  · obtain ⟨v, x, p, n, d, l, rfl, _⟩ := h
    rfl
  · obtain ⟨v, x, p, n, d, l, rfl, hv, gd, hp, hn3, hm, q1⟩ := h
    refine ⟨_, (pss_cons (ps_set (i := 1) sc_law_spots.nd rfl (.inl rfl) (lstN (pa_cons (tupN pa_nil) pa_nil)))
      (pss_cons (ps_if (pt_val (pe_callB call_isi (by rfl) T.isinstance (by decide +kernel) (pa_cons (pv 0) (pa_cons (pe_bltn (v := .ty "tuple") (by rfl) T.tuple (by decide +kernel) rfl) pa_nil)))) (pss_one (ps_for PassesOwn.never rfl (pi_enumT (by rfl) T.enumerate (pa_cons (pv 0) pa_nil)) (pg_tup (by rfl) (pgs_cons (pg_name (i := 2) sc_law_spots.nd rfl (.inr rfl)) (pgs_cons (pg_name (i := 3) sc_law_spots.nd rfl (.inl rfl)) pgs_nil))) (pss_one (ps_set (i := 1) sc_law_spots.nd rfl (.inl rfl) (pe_op op_catLN (pv 1) (pe_lc (own := [("_law_spot", 4)]) (g := gName 4) (tt := tYes) (by rfl) sc_law_spots.nd (pi_list (callD D_law_spots (hr.mono (Nat.le_refl _)) (pa_cons (pv 3) pa_nil))) (blkOk_by (own := [("_law_spot", 4)]) (N := ["_law_thing", "_law_found", "_law_k", "_law_part", "_law_spot"]) (sc := defScope s_law_spots) (by decide +kernel)) (fun _ _ _ _ _ => (pg_name (i := 4) sc_law_spots.nd rfl (.inl rfl))) (fun _ _ _ _ _ => pts_nil) (fun _ _ _ _ _ => (pe_op (op_catTBk (K := K) rfl) (tupN (pa_cons (pv 2) pa_nil)) (pv 4))))))))) pss_nil)
      (pss_one (ps_ret (pv 1))))), ?_⟩
    refine ⟨Nat.zero_le _, fun p1 H1 n1 s1 e1 => ⟨(by show 1 ≤ sizeLine; decide), fun L H2 n2 s2 e2 => ?_⟩⟩
    have S2 := s1.trans s2
    obtain ⟨U, hk, ht, _⟩ := (hv.same S2).kd
    by_cases e0 : U = "tuple"
    · obtain ⟨ds, rfl⟩ := ht.mp e0
      cases hv with
      | @tup a xs _ hT hall =>
      cases gd with
      | lf h => exact h.elim
      | @tup n _ hl hx =>
      have lx := hall.len
      have hT1 := seT s1 hT
      have hall1 := hall.same s1
      refine ⟨_, rfl, _, _, _, _, _, rfl, .ty _, (Kd.tup (seT S2 hT)).ty, kit_ty (Kd.tup (seT S2 hT)).tuple?, _, rfl, iteT ?_⟩
      refine ⟨_, rfl, a, xs, rfl, seT S2 hT, for_enumT (xs := xs) (fun i σ H' => ∃ L y2 y3 y4 us ps, σ = [some (.ref a), some (.ref L), y2, y3, y4] ∧ Same H1 H' ∧ H' L = some (.lst us) ∧ AllAt (AtQ K H') us ps ∧ ps ≠ [] ∧ ps.length ≤ 1 + i * szS n ∧ ∀ q ∈ ps, ∃ z, At (.tuple ds) q z) ?_ ?_ ?_ ?_⟩
      · exact ⟨_, _, _, _, [.ref p1], [[]], rfl, s2, e2, .cons ⟨p1, rfl, .inl (.inl (s2 _ _ e1))⟩ .nil, by simp, by simp, at_nil⟩
      · rintro i σ H' ⟨L, y2, y3, y4, us, ps, rfl, s3, _⟩
        exact seT s3 hT1
      · rintro i x T σ H3 hxi ⟨L, y2, y3, y4, us, ps, rfl, s3, eL, all, ne, len, good⟩ nT
        have hi : i < xs.length := (List.getElem?_eq_some_iff.mp hxi).1
        obtain ⟨y0, ey0, hv0⟩ := (hall1.same s3).at hxi
        have S4 : Same H3 (upd H3 T (.tup [.int (i : Nat), x])) := same_new nT
        refine ⟨T, _, rfl, .inl (.inl upd_same), rfl, _, _, rfl, _, _, rfl, rfl, ?_⟩
        refine ⟨_, rfl, _, rfl, x, y0, p, n, d, l, rfl, hv0.same S4, hx _ (List.mem_of_getElem? ey0), hp, by omega, by omega, fun L2 H4 us2 ps2 s4 eL2 all2 ne2 len2 good2 => ?_⟩
        have sz : szS n ≤ 57 := by
          have : n = 0 ∨ n = 1 ∨ n = 2 := by omega
          rcases this with rfl | rfl | rfl <;> decide
        have si : i * szS n ≤ 7 * 57 := Nat.mul_le_mul (show i ≤ 7 by omega) sz
        have gy := hx _ (List.mem_of_getElem? ey0)
        refine ⟨L2, rfl, ⟨_, .inl (.inl eL2)⟩, fun pD nD => ?_⟩
        refine lcL (K := K) (a := L2) (xs := us2) (fun j H' => Same H4 H' ∧ ∃ ys, H' pD = some (.lst ys) ∧ AllAt (AtQ K H') ys ((ps2.take j).map (i :: ·))) nD (fun H' e1 e2 => ⟨e1, [], e2, .nil⟩) (fun j H' _ z => .inl (.inl (z.1 _ _ eL2))) (fun j x H' hx z => ?_) (fun H6 z => ?_)
        · obtain ⟨z1, ys, z2, z3⟩ := z
          obtain ⟨qq, hqq, hat⟩ := all2.get hx
          obtain ⟨b, rfl, hb⟩ := hat.same z1
          obtain ⟨zz, hzz⟩ := good2 qq (List.mem_of_getElem? hqq)
          obtain ⟨mm, hmm, _⟩ := hzz.gd gy
          have ly := z3.length
          rw [List.length_map, List.length_take] at ly
          refine ⟨rfl, _, rfl, (by show 1 ≤ sizeLine; decide), fun p4 H5 n4 s5 e4 => ⟨_, rfl, p4, b, _, _, rfl, rfl, .inl (.inl e4), seT s5 hb, small64' (by simp; omega), fun p7 H7 s7 e7 => ?_⟩⟩
          obtain ⟨acc, a1, a2, a3, a4⟩ := acc_new (y := V.ref p7) nD (z1.trans (s5.trans s7)) (s7 _ _ (s5 _ _ z2)) (by omega)
          refine ⟨acc, a1, a2, a3, _, a4, ?_⟩
          rw [List.take_add_one, hqq, List.map_append]
          refine AllAt.app (z3.map fun v q h => ?_) (.cons ⟨p7, rfl, updT a1 e7⟩ .nil)
          obtain ⟨b9, rfl, h9⟩ := h.same (s5.trans s7)
          exact ⟨b9, rfl, updT a1 h9⟩
        · obtain ⟨z1, ys, z2, z3⟩ := z
          rw [all2.length, List.take_length] at z3
          have eL6 := (S4.trans (s4.trans z1)) _ _ eL
          have l1 := all.length
          have l3 := z3.length
          rw [List.length_map] at l3
          refine ⟨L, pD, us, ys, rfl, rfl, eL6, z2, Nat.le_of_lt (small1000 (n := us.length + ys.length) (by omega)), fun p8 H8 n8 s8 e8 => ?_⟩
          have S8 := S4.trans (s4.trans (z1.trans s8))
          refine ⟨_, _, _, _, us ++ ys, ps ++ ps2.map (i :: ·), rfl, s3.trans S8, e8, AllAt.app (all.map fun v q h => h.same S8) (z3.map fun v q h => h.same s8), by simp [ne], ?_, fun q hq => ?_⟩
          · rw [List.length_append, List.length_map, Nat.succ_mul]
            omega
          · rcases List.mem_append.mp hq with hq | hq
            · exact good q hq
            · obtain ⟨q2, hq2, rfl⟩ := List.mem_map.mp hq
              obtain ⟨zz, hzz⟩ := good2 q2 hq2
              exact ⟨zz, .sub ey0 hzz⟩
      · rintro σ H3 ⟨L, y2, y3, y4, us, ps, rfl, s3, eL, all, ne, len, good⟩
        refine ⟨_, rfl, q1 L H3 us ps (s1.trans s3) eL all ne (Nat.le_trans len ?_) good⟩
        show 1 + xs.length * szS n ≤ 1 + 7 * szS n
        have := Nat.mul_le_mul_right (szS n) (show xs.length ≤ 7 by omega)
        omega
    · refine ⟨_, rfl, _, _, _, _, _, rfl, .ty _, hk.ty, kit_ty hk.tuple?, _, rfl, ?_⟩
      rw [decide_eq_false e0]
      refine iteF ⟨_, rfl, q1 L H2 [.ref p1] [[]] S2 e2 (.cons ⟨p1, rfl, .inl (.inl (s2 _ _ e1))⟩ .nil) (by simp) ?_ at_nil⟩
      show 1 ≤ szS n
      cases n with
      | zero => exact Nat.le_refl _
      | succ n => show 1 ≤ 1 + 7 * szS n; omega


end
end Cl

set_option maxHeartbeats 0
namespace Cl
open PySem PySem.Spec PyProof.Rows L2
open GxR (TabB TabG)

def spLawTs (K : PySem.W.Frag) : List (Addr × Addr) → Sp
  | [p, p2] => spLawT K p.2 p2.2
  | _ => fun _ _ Q _ => ∀ H', Q (.bl true) H'
def noTab (K : PySem.W.Frag) : Bool := K.all fun p => match p.2.cls, p.2.data with
  | .none, .fields vs => vs.size != 0
  | _, _ => true
theorem noTab_at {K : PySem.W.Frag} {h : Heap} {P : Addr} (X : K.In h) (n : noTab K = true) (e : h.get? P = some { cls := .none, data := .fields #[] }) : K.lookup P = none := by
  cases q : K.lookup P with
  | none => rfl
  | some o =>
    have h1 := X _ _ q
    rw [e] at h1
    cases h1
    have hm : ∀ (L : List (Addr × Obj)) (o : Obj), L.lookup P = some o → (P, o) ∈ L := fun L => by
      induction L with
      | nil => intro o z; cases z
      | cons y L ih =>
        intro o z
        rw [List.lookup_cons] at z
        split at z
        · rename_i hb
          have := eq_of_beq hb
          cases z
          rw [this]
          exact List.mem_cons_self ..
        · exact List.mem_cons_of_mem _ (ih _ z)
    have := List.all_eq_true.mp n _ (hm _ _ q)
    cases this

theorem all_mk {l : PySem.W.OpenLaw} {w : World} {K : PySem.W.Frag} {h : Heap} {mg : Str → Option Value} {fa : Addr} (X : K.In h) (G : h.Ns mainGlobals mg) (hfa : mg "law" = some (.ref fa))
    {f_law_deck : Addr} {od_law_deck an_law_deck : Option Addr} {sl_law_deck : Array (Option Value)} {oc_law_deck kV_law_deck dc_law_deck pm_law_deck cd_law_deck ct_law_deck : Value}
    {f_law_draw : Addr} {od_law_draw an_law_draw : Option Addr} {sl_law_draw : Array (Option Value)} {oc_law_draw kV_law_draw dc_law_draw pm_law_draw cd_law_draw ct_law_draw : Value}
    {f_law_grain : Addr} {od_law_grain an_law_grain : Option Addr} {sl_law_grain : Array (Option Value)} {oc_law_grain kV_law_grain dc_law_grain pm_law_grain cd_law_grain ct_law_grain : Value}
    {f_law_point : Addr} {od_law_point an_law_point : Option Addr} {sl_law_point : Array (Option Value)} {oc_law_point kV_law_point dc_law_point pm_law_point cd_law_point ct_law_point : Value}
    {f_law_unlike : Addr} {od_law_unlike an_law_unlike : Option Addr} {sl_law_unlike : Array (Option Value)} {oc_law_unlike kV_law_unlike dc_law_unlike pm_law_unlike cd_law_unlike ct_law_unlike : Value}
    {f_law_line : Addr} {od_law_line an_law_line : Option Addr} {sl_law_line : Array (Option Value)} {oc_law_line kV_law_line dc_law_line pm_law_line cd_law_line ct_law_line : Value}
    {f_law_lines : Addr} {od_law_lines an_law_lines : Option Addr} {sl_law_lines : Array (Option Value)} {oc_law_lines kV_law_lines dc_law_lines pm_law_lines cd_law_lines ct_law_lines : Value}
    {f_law_moved : Addr} {od_law_moved an_law_moved : Option Addr} {sl_law_moved : Array (Option Value)} {oc_law_moved kV_law_moved dc_law_moved pm_law_moved cd_law_moved ct_law_moved : Value}
    {f_law_far : Addr} {od_law_far an_law_far : Option Addr} {sl_law_far : Array (Option Value)} {oc_law_far kV_law_far dc_law_far pm_law_far cd_law_far ct_law_far : Value}
    {fis_whole : Addr} {odis_whole anis_whole : Option Addr} {slis_whole : Array (Option Value)} {ocis_whole kVis_whole dcis_whole pmis_whole cdis_whole ctis_whole : Value}
    {fare_wholes : Addr} {odare_wholes anare_wholes : Option Addr} {slare_wholes : Array (Option Value)} {ocare_wholes kVare_wholes dcare_wholes pmare_wholes cdare_wholes ctare_wholes : Value}
    {fis_grain : Addr} {odis_grain anis_grain : Option Addr} {slis_grain : Array (Option Value)} {ocis_grain kVis_grain dcis_grain pmis_grain cdis_grain ctis_grain : Value}
    {fis_point : Addr} {odis_point anis_point : Option Addr} {slis_point : Array (Option Value)} {ocis_point kVis_point dcis_point pmis_point cdis_point ctis_point : Value}
    {fis_line : Addr} {odis_line anis_line : Option Addr} {slis_line : Array (Option Value)} {ocis_line kVis_line dcis_line pmis_line cdis_line ctis_line : Value}
    {fare_lines : Addr} {odare_lines anare_lines : Option Addr} {slare_lines : Array (Option Value)} {ocare_lines kVare_lines dcare_lines pmare_lines cdare_lines ctare_lines : Value}
    {f_law_whole : Addr} {od_law_whole an_law_whole : Option Addr} {sl_law_whole : Array (Option Value)} {oc_law_whole kV_law_whole dc_law_whole pm_law_whole cd_law_whole ct_law_whole : Value}
    {f_law_are_whole : Addr} {od_law_are_whole an_law_are_whole : Option Addr} {sl_law_are_whole : Array (Option Value)} {oc_law_are_whole kV_law_are_whole dc_law_are_whole pm_law_are_whole cd_law_are_whole ct_law_are_whole : Value}
    {f_law_is_line : Addr} {od_law_is_line an_law_is_line : Option Addr} {sl_law_is_line : Array (Option Value)} {oc_law_is_line kV_law_is_line dc_law_is_line pm_law_is_line cd_law_is_line ct_law_is_line : Value}
    {f_law_right : Addr} {od_law_right an_law_right : Option Addr} {sl_law_right : Array (Option Value)} {oc_law_right kV_law_right dc_law_right pm_law_right cd_law_right ct_law_right : Value}
    {f_law_spots : Addr} {od_law_spots an_law_spots : Option Addr} {sl_law_spots : Array (Option Value)} {oc_law_spots kV_law_spots dc_law_spots pm_law_spots cd_law_spots ct_law_spots : Value}
    {f_law_put : Addr} {od_law_put an_law_put : Option Addr} {sl_law_put : Array (Option Value)} {oc_law_put kV_law_put dc_law_put pm_law_put cd_law_put ct_law_put : Value}
    {f_law_spoilt : Addr} {od_law_spoilt an_law_spoilt : Option Addr} {sl_law_spoilt : Array (Option Value)} {oc_law_spoilt kV_law_spoilt dc_law_spoilt pm_law_spoilt cd_law_spoilt ct_law_spoilt : Value}
    {f_law_many_right : Addr} {od_law_many_right an_law_many_right : Option Addr} {sl_law_many_right : Array (Option Value)} {oc_law_many_right kV_law_many_right dc_law_many_right pm_law_many_right cd_law_many_right ct_law_many_right : Value}
    {flaw : Addr} {odlaw anlaw : Option Addr} {sllaw : Array (Option Value)} {oclaw kVlaw dclaw pmlaw cdlaw ctlaw : Value}
    (a_law_deck : PySem.W.nsIn K mainGlobals "_law_deck" = some (some (.ref f_law_deck))) (l_law_deck : K.lookup f_law_deck = some ⟨oc_law_deck, od_law_deck, .func (PySem.W.fnOf "_law_deck" "_law_deck" (defArgs s_law_deck) (defBody s_law_deck) (defScope s_law_deck) .none kV_law_deck dc_law_deck pm_law_deck an_law_deck cd_law_deck ct_law_deck), sl_law_deck⟩) (c_law_deck : PySem.W.codeIn K cd_law_deck "_law_deck" = true) (k_law_deck : PySem.W.keepIn K (.ref f_law_deck) = true)
    (a_law_draw : PySem.W.nsIn K mainGlobals "_law_draw" = some (some (.ref f_law_draw))) (l_law_draw : K.lookup f_law_draw = some ⟨oc_law_draw, od_law_draw, .func (PySem.W.fnOf "_law_draw" "_law_draw" (defArgs s_law_draw) (defBody s_law_draw) (defScope s_law_draw) .none kV_law_draw dc_law_draw pm_law_draw an_law_draw cd_law_draw ct_law_draw), sl_law_draw⟩) (c_law_draw : PySem.W.codeIn K cd_law_draw "_law_draw" = true) (k_law_draw : PySem.W.keepIn K (.ref f_law_draw) = true)
    (a_law_grain : PySem.W.nsIn K mainGlobals "_law_grain" = some (some (.ref f_law_grain))) (l_law_grain : K.lookup f_law_grain = some ⟨oc_law_grain, od_law_grain, .func (PySem.W.fnOf "_law_grain" "_law_grain" (defArgs s_law_grain) (defBody s_law_grain) (defScope s_law_grain) .none kV_law_grain dc_law_grain pm_law_grain an_law_grain cd_law_grain ct_law_grain), sl_law_grain⟩) (c_law_grain : PySem.W.codeIn K cd_law_grain "_law_grain" = true) (k_law_grain : PySem.W.keepIn K (.ref f_law_grain) = true)
    (a_law_point : PySem.W.nsIn K mainGlobals "_law_point" = some (some (.ref f_law_point))) (l_law_point : K.lookup f_law_point = some ⟨oc_law_point, od_law_point, .func (PySem.W.fnOf "_law_point" "_law_point" (defArgs s_law_point) (defBody s_law_point) (defScope s_law_point) .none kV_law_point dc_law_point pm_law_point an_law_point cd_law_point ct_law_point), sl_law_point⟩) (c_law_point : PySem.W.codeIn K cd_law_point "_law_point" = true) (k_law_point : PySem.W.keepIn K (.ref f_law_point) = true)
    (a_law_unlike : PySem.W.nsIn K mainGlobals "_law_unlike" = some (some (.ref f_law_unlike))) (l_law_unlike : K.lookup f_law_unlike = some ⟨oc_law_unlike, od_law_unlike, .func (PySem.W.fnOf "_law_unlike" "_law_unlike" (defArgs s_law_unlike) (defBody s_law_unlike) (defScope s_law_unlike) .none kV_law_unlike dc_law_unlike pm_law_unlike an_law_unlike cd_law_unlike ct_law_unlike), sl_law_unlike⟩) (c_law_unlike : PySem.W.codeIn K cd_law_unlike "_law_unlike" = true) (k_law_unlike : PySem.W.keepIn K (.ref f_law_unlike) = true)
    (a_law_line : PySem.W.nsIn K mainGlobals "_law_line" = some (some (.ref f_law_line))) (l_law_line : K.lookup f_law_line = some ⟨oc_law_line, od_law_line, .func (PySem.W.fnOf "_law_line" "_law_line" (defArgs s_law_line) (defBody s_law_line) (defScope s_law_line) .none kV_law_line dc_law_line pm_law_line an_law_line cd_law_line ct_law_line), sl_law_line⟩) (c_law_line : PySem.W.codeIn K cd_law_line "_law_line" = true) (k_law_line : PySem.W.keepIn K (.ref f_law_line) = true)
    (a_law_lines : PySem.W.nsIn K mainGlobals "_law_lines" = some (some (.ref f_law_lines))) (l_law_lines : K.lookup f_law_lines = some ⟨oc_law_lines, od_law_lines, .func (PySem.W.fnOf "_law_lines" "_law_lines" (defArgs s_law_lines) (defBody s_law_lines) (defScope s_law_lines) .none kV_law_lines dc_law_lines pm_law_lines an_law_lines cd_law_lines ct_law_lines), sl_law_lines⟩) (c_law_lines : PySem.W.codeIn K cd_law_lines "_law_lines" = true) (k_law_lines : PySem.W.keepIn K (.ref f_law_lines) = true)
    (a_law_moved : PySem.W.nsIn K mainGlobals "_law_moved" = some (some (.ref f_law_moved))) (l_law_moved : K.lookup f_law_moved = some ⟨oc_law_moved, od_law_moved, .func (PySem.W.fnOf "_law_moved" "_law_moved" (defArgs s_law_moved) (defBody s_law_moved) (defScope s_law_moved) .none kV_law_moved dc_law_moved pm_law_moved an_law_moved cd_law_moved ct_law_moved), sl_law_moved⟩) (c_law_moved : PySem.W.codeIn K cd_law_moved "_law_moved" = true) (k_law_moved : PySem.W.keepIn K (.ref f_law_moved) = true)
    (a_law_far : PySem.W.nsIn K mainGlobals "_law_far" = some (some (.ref f_law_far))) (l_law_far : K.lookup f_law_far = some ⟨oc_law_far, od_law_far, .func (PySem.W.fnOf "_law_far" "_law_far" (defArgs s_law_far) (defBody s_law_far) (defScope s_law_far) .none kV_law_far dc_law_far pm_law_far an_law_far cd_law_far ct_law_far), sl_law_far⟩) (c_law_far : PySem.W.codeIn K cd_law_far "_law_far" = true) (k_law_far : PySem.W.keepIn K (.ref f_law_far) = true)
    (ais_whole : PySem.W.nsIn K mainGlobals "is_whole" = some (some (.ref fis_whole))) (lis_whole : K.lookup fis_whole = some ⟨ocis_whole, odis_whole, .func (PySem.W.fnOf "is_whole" "is_whole" (defArgs sis_whole) (defBody sis_whole) (defScope sis_whole) .none kVis_whole dcis_whole pmis_whole anis_whole cdis_whole ctis_whole), slis_whole⟩) (cis_whole : PySem.W.codeIn K cdis_whole "is_whole" = true) (kis_whole : PySem.W.keepIn K (.ref fis_whole) = true)
    (aare_wholes : PySem.W.nsIn K mainGlobals "are_wholes" = some (some (.ref fare_wholes))) (lare_wholes : K.lookup fare_wholes = some ⟨ocare_wholes, odare_wholes, .func (PySem.W.fnOf "are_wholes" "are_wholes" (defArgs sare_wholes) (defBody sare_wholes) (defScope sare_wholes) .none kVare_wholes dcare_wholes pmare_wholes anare_wholes cdare_wholes ctare_wholes), slare_wholes⟩) (care_wholes : PySem.W.codeIn K cdare_wholes "are_wholes" = true) (kare_wholes : PySem.W.keepIn K (.ref fare_wholes) = true)
    (ais_grain : PySem.W.nsIn K mainGlobals "is_grain" = some (some (.ref fis_grain))) (lis_grain : K.lookup fis_grain = some ⟨ocis_grain, odis_grain, .func (PySem.W.fnOf "is_grain" "is_grain" (defArgs sis_grain) (defBody sis_grain) (defScope sis_grain) .none kVis_grain dcis_grain pmis_grain anis_grain cdis_grain ctis_grain), slis_grain⟩) (cis_grain : PySem.W.codeIn K cdis_grain "is_grain" = true) (kis_grain : PySem.W.keepIn K (.ref fis_grain) = true)
    (ais_point : PySem.W.nsIn K mainGlobals "is_point" = some (some (.ref fis_point))) (lis_point : K.lookup fis_point = some ⟨ocis_point, odis_point, .func (PySem.W.fnOf "is_point" "is_point" (defArgs sis_point) (defBody sis_point) (defScope sis_point) .none kVis_point dcis_point pmis_point anis_point cdis_point ctis_point), slis_point⟩) (cis_point : PySem.W.codeIn K cdis_point "is_point" = true) (kis_point : PySem.W.keepIn K (.ref fis_point) = true)
    (ais_line : PySem.W.nsIn K mainGlobals "is_line" = some (some (.ref fis_line))) (lis_line : K.lookup fis_line = some ⟨ocis_line, odis_line, .func (PySem.W.fnOf "is_line" "is_line" (defArgs sis_line) (defBody sis_line) (defScope sis_line) .none kVis_line dcis_line pmis_line anis_line cdis_line ctis_line), slis_line⟩) (cis_line : PySem.W.codeIn K cdis_line "is_line" = true) (kis_line : PySem.W.keepIn K (.ref fis_line) = true)
    (aare_lines : PySem.W.nsIn K mainGlobals "are_lines" = some (some (.ref fare_lines))) (lare_lines : K.lookup fare_lines = some ⟨ocare_lines, odare_lines, .func (PySem.W.fnOf "are_lines" "are_lines" (defArgs sare_lines) (defBody sare_lines) (defScope sare_lines) .none kVare_lines dcare_lines pmare_lines anare_lines cdare_lines ctare_lines), slare_lines⟩) (care_lines : PySem.W.codeIn K cdare_lines "are_lines" = true) (kare_lines : PySem.W.keepIn K (.ref fare_lines) = true)
    (a_law_whole : PySem.W.nsIn K mainGlobals "_law_whole" = some (some (.ref f_law_whole))) (l_law_whole : K.lookup f_law_whole = some ⟨oc_law_whole, od_law_whole, .func (PySem.W.fnOf "_law_whole" "_law_whole" (defArgs s_law_whole) (defBody s_law_whole) (defScope s_law_whole) .none kV_law_whole dc_law_whole pm_law_whole an_law_whole cd_law_whole ct_law_whole), sl_law_whole⟩) (c_law_whole : PySem.W.codeIn K cd_law_whole "_law_whole" = true) (k_law_whole : PySem.W.keepIn K (.ref f_law_whole) = true)
    (a_law_are_whole : PySem.W.nsIn K mainGlobals "_law_are_whole" = some (some (.ref f_law_are_whole))) (l_law_are_whole : K.lookup f_law_are_whole = some ⟨oc_law_are_whole, od_law_are_whole, .func (PySem.W.fnOf "_law_are_whole" "_law_are_whole" (defArgs s_law_are_whole) (defBody s_law_are_whole) (defScope s_law_are_whole) .none kV_law_are_whole dc_law_are_whole pm_law_are_whole an_law_are_whole cd_law_are_whole ct_law_are_whole), sl_law_are_whole⟩) (c_law_are_whole : PySem.W.codeIn K cd_law_are_whole "_law_are_whole" = true) (k_law_are_whole : PySem.W.keepIn K (.ref f_law_are_whole) = true)
    (a_law_is_line : PySem.W.nsIn K mainGlobals "_law_is_line" = some (some (.ref f_law_is_line))) (l_law_is_line : K.lookup f_law_is_line = some ⟨oc_law_is_line, od_law_is_line, .func (PySem.W.fnOf "_law_is_line" "_law_is_line" (defArgs s_law_is_line) (defBody s_law_is_line) (defScope s_law_is_line) .none kV_law_is_line dc_law_is_line pm_law_is_line an_law_is_line cd_law_is_line ct_law_is_line), sl_law_is_line⟩) (c_law_is_line : PySem.W.codeIn K cd_law_is_line "_law_is_line" = true) (k_law_is_line : PySem.W.keepIn K (.ref f_law_is_line) = true)
    (a_law_right : PySem.W.nsIn K mainGlobals "_law_right" = some (some (.ref f_law_right))) (l_law_right : K.lookup f_law_right = some ⟨oc_law_right, od_law_right, .func (PySem.W.fnOf "_law_right" "_law_right" (defArgs s_law_right) (defBody s_law_right) (defScope s_law_right) .none kV_law_right dc_law_right pm_law_right an_law_right cd_law_right ct_law_right), sl_law_right⟩) (c_law_right : PySem.W.codeIn K cd_law_right "_law_right" = true) (k_law_right : PySem.W.keepIn K (.ref f_law_right) = true)
    (a_law_spots : PySem.W.nsIn K mainGlobals "_law_spots" = some (some (.ref f_law_spots))) (l_law_spots : K.lookup f_law_spots = some ⟨oc_law_spots, od_law_spots, .func (PySem.W.fnOf "_law_spots" "_law_spots" (defArgs s_law_spots) (defBody s_law_spots) (defScope s_law_spots) .none kV_law_spots dc_law_spots pm_law_spots an_law_spots cd_law_spots ct_law_spots), sl_law_spots⟩) (c_law_spots : PySem.W.codeIn K cd_law_spots "_law_spots" = true) (k_law_spots : PySem.W.keepIn K (.ref f_law_spots) = true)
    (a_law_put : PySem.W.nsIn K mainGlobals "_law_put" = some (some (.ref f_law_put))) (l_law_put : K.lookup f_law_put = some ⟨oc_law_put, od_law_put, .func (PySem.W.fnOf "_law_put" "_law_put" (defArgs s_law_put) (defBody s_law_put) (defScope s_law_put) .none kV_law_put dc_law_put pm_law_put an_law_put cd_law_put ct_law_put), sl_law_put⟩) (c_law_put : PySem.W.codeIn K cd_law_put "_law_put" = true) (k_law_put : PySem.W.keepIn K (.ref f_law_put) = true)
    (a_law_spoilt : PySem.W.nsIn K mainGlobals "_law_spoilt" = some (some (.ref f_law_spoilt))) (l_law_spoilt : K.lookup f_law_spoilt = some ⟨oc_law_spoilt, od_law_spoilt, .func (PySem.W.fnOf "_law_spoilt" "_law_spoilt" (defArgs s_law_spoilt) (defBody s_law_spoilt) (defScope s_law_spoilt) .none kV_law_spoilt dc_law_spoilt pm_law_spoilt an_law_spoilt cd_law_spoilt ct_law_spoilt), sl_law_spoilt⟩) (c_law_spoilt : PySem.W.codeIn K cd_law_spoilt "_law_spoilt" = true) (k_law_spoilt : PySem.W.keepIn K (.ref f_law_spoilt) = true)
    (a_law_many_right : PySem.W.nsIn K mainGlobals "_law_many_right" = some (some (.ref f_law_many_right))) (l_law_many_right : K.lookup f_law_many_right = some ⟨oc_law_many_right, od_law_many_right, .func (PySem.W.fnOf "_law_many_right" "_law_many_right" (defArgs s_law_many_right) (defBody s_law_many_right) (defScope s_law_many_right) .none kV_law_many_right dc_law_many_right pm_law_many_right an_law_many_right cd_law_many_right ct_law_many_right), sl_law_many_right⟩) (c_law_many_right : PySem.W.codeIn K cd_law_many_right "_law_many_right" = true) (k_law_many_right : PySem.W.keepIn K (.ref f_law_many_right) = true)
    (alaw : PySem.W.nsIn K mainGlobals "law" = some (some (.ref flaw))) (llaw : K.lookup flaw = some ⟨oclaw, odlaw, .func (PySem.W.fnOf "law" "law" (defArgs slaw) (defBody slaw) (defScope slaw) .none kVlaw dclaw pmlaw anlaw cdlaw ctlaw), sllaw⟩) (claw : PySem.W.codeIn K cdlaw "law" = true) (klaw : PySem.W.keepIn K (.ref flaw) = true)
    (z0 : PySem.W.nsIn K mainGlobals "isinstance" = some none) (z1 : PySem.W.nsIn K mainGlobals "len" = some none) (z2 : PySem.W.nsIn K mainGlobals "all" = some none) (z3 : PySem.W.nsIn K mainGlobals "list" = some none) (z4 : PySem.W.nsIn K mainGlobals "sum" = some none) (z5 : PySem.W.nsIn K mainGlobals "abs" = some none) (z6 : PySem.W.nsIn K mainGlobals "max" = some none) (z7 : PySem.W.nsIn K mainGlobals "tuple" = some none) (z8 : PySem.W.nsIn K mainGlobals "int" = some none) (z9 : PySem.W.nsIn K mainGlobals "bool" = some none) (z10 : PySem.W.nsIn K mainGlobals "repr" = some none) (z11 : PySem.W.nsIn K mainGlobals "enumerate" = some none) (z12 : PySem.W.nsIn K mainGlobals "str" = some none) (z13 : PySem.W.nsIn K mainGlobals "range" = some none)
    (nt : noTab K = true) (tnare_wholes : TabN mg h "are_wholes") (tnare_lines : TabN mg h "are_lines") :
    ∃ (fd : FuncData) (cs : List (Addr × Addr)), (∀ p ∈ cs, PySem.W.CodeHd h p.1 p.2 ∧ h.TableAt p.1 p.2 #[] ∧ K.lookup p.2 = none) ∧ (∀ (s : Shared) (v : Value), BindsTo s fd ⟨[v], []⟩ [("_law_script", v)]) ∧
      ∀ base : Heap, K.In base → base.Ns mainGlobals mg → (∀ p ∈ cs, GxR.TabB base mg p.1 p.2) → FnG l.prog w K mg base CX0 11 fa fd ["_law_script"] (spLawTs K cs) := by
  have e := hfa.symm.trans (PySem.W.mg_of X G alaw)
  cases e
  have T : Bt mg := ⟨PySem.W.mg_none_of X G z0, PySem.W.mg_none_of X G z1, PySem.W.mg_none_of X G z2, PySem.W.mg_none_of X G z3, PySem.W.mg_none_of X G z4, PySem.W.mg_none_of X G z5, PySem.W.mg_none_of X G z6, PySem.W.mg_none_of X G z7, PySem.W.mg_none_of X G z8, PySem.W.mg_none_of X G z9, PySem.W.mg_none_of X G z10, PySem.W.mg_none_of X G z11, PySem.W.mg_none_of X G z12, PySem.W.mg_none_of X G z13⟩
  have F_law_deck := fun_mk (st := s_law_deck) l_law_deck c_law_deck k_law_deck
  have b_law_deck := F_law_deck.binds (ps := ["_law_script"]) fun _ _ _ _ _ _ us hl => match us, hl with | [_], _ => rfl
  have F_law_draw := fun_mk (st := s_law_draw) l_law_draw c_law_draw k_law_draw
  have b_law_draw := F_law_draw.binds (ps := ["_law_deck_here", "_law_most"]) fun _ _ _ _ _ _ us hl => match us, hl with | [_, _], _ => rfl
  have F_law_grain := fun_mk (st := s_law_grain) l_law_grain c_law_grain k_law_grain
  have b_law_grain := F_law_grain.binds (ps := ["_law_deck_here"]) fun _ _ _ _ _ _ us hl => match us, hl with | [_], _ => rfl
  have F_law_point := fun_mk (st := s_law_point) l_law_point c_law_point k_law_point
  have b_law_point := F_law_point.binds (ps := ["_law_deck_here", "_law_grain_here", "_law_way"]) fun _ _ _ _ _ _ us hl => match us, hl with | [_, _, _], _ => rfl
  have F_law_unlike := fun_mk (st := s_law_unlike) l_law_unlike c_law_unlike k_law_unlike
  have b_law_unlike := F_law_unlike.binds (ps := ["_law_one", "_law_other"]) fun _ _ _ _ _ _ us hl => match us, hl with | [_, _], _ => rfl
  have F_law_line := fun_mk (st := s_law_line) l_law_line c_law_line k_law_line
  have b_law_line := F_law_line.binds (ps := ["_law_deck_here", "_law_grain_here", "_law_lines_here"]) fun _ _ _ _ _ _ us hl => match us, hl with | [_, _, _], _ => rfl
  have F_law_lines := fun_mk (st := s_law_lines) l_law_lines c_law_lines k_law_lines
  have b_law_lines := F_law_lines.binds (ps := ["_law_deck_here", "_law_grain_here", "_law_many"]) fun _ _ _ _ _ _ us hl => match us, hl with | [_, _, _], _ => rfl
  have F_law_moved := fun_mk (st := s_law_moved) l_law_moved c_law_moved k_law_moved
  have b_law_moved := F_law_moved.binds (ps := ["_law_lines_here", "_law_dx", "_law_dy"]) fun _ _ _ _ _ _ us hl => match us, hl with | [_, _, _], _ => rfl
  have F_law_far := fun_mk (st := s_law_far) l_law_far c_law_far k_law_far
  have b_law_far := F_law_far.binds (ps := ["_law_deck_here"]) fun _ _ _ _ _ _ us hl => match us, hl with | [_], _ => rfl
  have Fis_whole := fun_mk (st := sis_whole) lis_whole cis_whole kis_whole
  have bis_whole := Fis_whole.binds (ps := ["thing"]) fun _ _ _ _ _ _ us hl => match us, hl with | [_], _ => rfl
  have Fare_wholes := fun_mk (st := sare_wholes) lare_wholes care_wholes kare_wholes
  have bare_wholes := Fare_wholes.binds (ps := ["thing", "many"]) fun _ _ _ _ _ _ us hl => match us, hl with | [_, _], _ => rfl
  have Fis_grain := fun_mk (st := sis_grain) lis_grain cis_grain kis_grain
  have bis_grain := Fis_grain.binds (ps := ["thing"]) fun _ _ _ _ _ _ us hl => match us, hl with | [_], _ => rfl
  have Fis_point := fun_mk (st := sis_point) lis_point cis_point kis_point
  have bis_point := Fis_point.binds (ps := ["thing"]) fun _ _ _ _ _ _ us hl => match us, hl with | [_], _ => rfl
  have Fis_line := fun_mk (st := sis_line) lis_line cis_line kis_line
  have bis_line := Fis_line.binds (ps := ["thing"]) fun _ _ _ _ _ _ us hl => match us, hl with | [_], _ => rfl
  have Fare_lines := fun_mk (st := sare_lines) lare_lines care_lines kare_lines
  have bare_lines := Fare_lines.binds (ps := ["thing"]) fun _ _ _ _ _ _ us hl => match us, hl with | [_], _ => rfl
  have F_law_whole := fun_mk (st := s_law_whole) l_law_whole c_law_whole k_law_whole
  have b_law_whole := F_law_whole.binds (ps := ["_law_thing"]) fun _ _ _ _ _ _ us hl => match us, hl with | [_], _ => rfl
  have F_law_are_whole := fun_mk (st := s_law_are_whole) l_law_are_whole c_law_are_whole k_law_are_whole
  have b_law_are_whole := F_law_are_whole.binds (ps := ["_law_thing", "_law_many"]) fun _ _ _ _ _ _ us hl => match us, hl with | [_, _], _ => rfl
  have F_law_is_line := fun_mk (st := s_law_is_line) l_law_is_line c_law_is_line k_law_is_line
  have b_law_is_line := F_law_is_line.binds (ps := ["_law_thing"]) fun _ _ _ _ _ _ us hl => match us, hl with | [_], _ => rfl
  have F_law_right := fun_mk (st := s_law_right) l_law_right c_law_right k_law_right
  have b_law_right := F_law_right.binds (ps := ["_law_thing"]) fun _ _ _ _ _ _ us hl => match us, hl with | [_], _ => rfl
  have F_law_spots := fun_mk (st := s_law_spots) l_law_spots c_law_spots k_law_spots
  have b_law_spots := F_law_spots.binds (ps := ["_law_thing"]) fun _ _ _ _ _ _ us hl => match us, hl with | [_], _ => rfl
  have F_law_put := fun_mk (st := s_law_put) l_law_put c_law_put k_law_put
  have b_law_put := F_law_put.binds (ps := ["_law_thing", "_law_spot", "_law_part"]) fun _ _ _ _ _ _ us hl => match us, hl with | [_, _, _], _ => rfl
  have F_law_spoilt := fun_mk (st := s_law_spoilt) l_law_spoilt c_law_spoilt k_law_spoilt
  have b_law_spoilt := F_law_spoilt.binds (ps := ["_law_deck_here", "_law_thing"]) fun _ _ _ _ _ _ us hl => match us, hl with | [_, _], _ => rfl
  have F_law_many_right := fun_mk (st := s_law_many_right) l_law_many_right c_law_many_right k_law_many_right
  have b_law_many_right := F_law_many_right.binds (ps := ["_law_deck_here"]) fun _ _ _ _ _ _ us hl => match us, hl with | [_], _ => rfl
  have Flaw := fun_mk (st := slaw) llaw claw klaw
  obtain ⟨ft0, ot0, fdt0, c0, Pt0, t1, t2, t3, t4, t50, t60⟩ := tnare_wholes
  have e := t1.symm.trans (PySem.W.mg_of X G aare_wholes)
  cases e
  have e := t2.symm.trans (X _ _ lare_wholes)
  cases e
  cases t3
  have hcd0 : cdare_wholes = .ref c0 := t4
  clear t1 t2 t4
  obtain ⟨ft1, ot1, fdt1, c1, Pt1, t1, t2, t3, t4, t51, t61⟩ := tnare_lines
  have e := t1.symm.trans (PySem.W.mg_of X G aare_lines)
  cases e
  have e := t2.symm.trans (X _ _ lare_lines)
  cases e
  cases t3
  have hcd1 : cdare_lines = .ref c1 := t4
  clear t1 t2 t4
  refine ⟨PySem.W.fnOf "law" "law" (defArgs slaw) (defBody slaw) (defScope slaw) .none kVlaw dclaw pmlaw anlaw cdlaw ctlaw, [(c0, Pt0), (c1, Pt1)], fun p hp => ?_, fun s v => .of_eq rfl, fun base _ _ hB => ?_⟩
  · simp only [List.mem_cons, List.not_mem_nil, or_false] at hp
    rcases hp with rfl | rfl
    · exact ⟨t50, t60, noTab_at X nt t60.2⟩
    · exact ⟨t51, t61, noTab_at X nt t61.2⟩
  have D_law_deck : Def l.prog w K mg base 1 "_law_deck" ["_law_script"] (spDeck K) := .mk1 F_law_deck (ok_law_deck F_law_deck T) (PySem.W.mg_of X G a_law_deck) b_law_deck
  have D_law_draw : Def l.prog w K mg base 1 "_law_draw" ["_law_deck_here", "_law_most"] spDraw := .mk1 F_law_draw (ok_law_draw F_law_draw T) (PySem.W.mg_of X G a_law_draw) b_law_draw
  have D_law_grain : Def l.prog w K mg base 2 "_law_grain" ["_law_deck_here"] spGrainW := .mk1 F_law_grain (ok_law_grain F_law_grain T D_law_draw) (PySem.W.mg_of X G a_law_grain) b_law_grain
  have D_law_point : Def l.prog w K mg base 2 "_law_point" ["_law_deck_here", "_law_grain_here", "_law_way"] (spPointW K) := .mk1 F_law_point (ok_law_point F_law_point T D_law_draw) (PySem.W.mg_of X G a_law_point) b_law_point
  have D_law_unlike : Def l.prog w K mg base 1 "_law_unlike" ["_law_one", "_law_other"] (spUnlike K) := .mk1 F_law_unlike (ok_law_unlike F_law_unlike T) (PySem.W.mg_of X G a_law_unlike) b_law_unlike
  have D_law_line : Def l.prog w K mg base 3 "_law_line" ["_law_deck_here", "_law_grain_here", "_law_lines_here"] (spLine1 K) := .mk1 F_law_line (ok_law_line F_law_line T D_law_draw D_law_unlike D_law_point) (PySem.W.mg_of X G a_law_line) b_law_line
  have D_law_lines : Def l.prog w K mg base 4 "_law_lines" ["_law_deck_here", "_law_grain_here", "_law_many"] (spLines1 K) := .mk1 F_law_lines (ok_law_lines F_law_lines T D_law_draw D_law_line) (PySem.W.mg_of X G a_law_lines) b_law_lines
  have D_law_moved : Def l.prog w K mg base 1 "_law_moved" ["_law_lines_here", "_law_dx", "_law_dy"] (spMovedW K) := .mk1 F_law_moved (ok_law_moved F_law_moved T) (PySem.W.mg_of X G a_law_moved) b_law_moved
  have D_law_far : Def l.prog w K mg base 2 "_law_far" ["_law_deck_here"] spFarW := .mk1 F_law_far (ok_law_far F_law_far T D_law_draw) (PySem.W.mg_of X G a_law_far) b_law_far
  have Dis_whole : Def l.prog w K mg base 1 "is_whole" ["thing"] (spWhole K) := .mk1 Fis_whole (okis_whole Fis_whole T) (PySem.W.mg_of X G ais_whole) bis_whole
  have Dare_wholes : Def l.prog w K mg base 3 "are_wholes" ["thing", "many"] (spAre K Pt0) := .mk1 Fare_wholes (okare_wholes Fare_wholes hcd0 (hB (c0, Pt0) (by simp)) T (qw_is_whole Fis_whole T bis_whole) (PySem.W.mg_of X G ais_whole) Fis_whole.kp) (PySem.W.mg_of X G aare_wholes) bare_wholes
  have Dis_grain : Def l.prog w K mg base 2 "is_grain" ["thing"] (spTest K gnD) := .mk1 Fis_grain (okis_grain Fis_grain T Dis_whole) (PySem.W.mg_of X G ais_grain) bis_grain
  have Dis_point : Def l.prog w K mg base 4 "is_point" ["thing"] (spTestP K Pt0 ptD) := .mk1 Fis_point (okis_point Fis_point T Dare_wholes) (PySem.W.mg_of X G ais_point) bis_point
  have Dis_line : Def l.prog w K mg base 5 "is_line" ["thing"] (spTestP K Pt0 lnD) := .mk1 Fis_line (okis_line Fis_line T Dis_point) (PySem.W.mg_of X G ais_line) bis_line
  have Dare_lines : Def l.prog w K mg base 8 "are_lines" ["thing"] (spTestPP K Pt0 Pt1 lsD) := .mk1 Fare_lines (okare_lines Fare_lines hcd1 (hB (c1, Pt1) (by simp)) T Dis_line) (PySem.W.mg_of X G aare_lines) bare_lines
  have D_law_whole : Def l.prog w K mg base 1 "_law_whole" ["_law_thing"] (spWhole K) := .mk1 F_law_whole (ok_law_whole F_law_whole T) (PySem.W.mg_of X G a_law_whole) b_law_whole
  have D_law_are_whole : Def l.prog w K mg base 2 "_law_are_whole" ["_law_thing", "_law_many"] (spLAre K) := .mk1 F_law_are_whole (ok_law_are_whole F_law_are_whole T D_law_whole) (PySem.W.mg_of X G a_law_are_whole) b_law_are_whole
  have D_law_is_line : Def l.prog w K mg base 3 "_law_is_line" ["_law_thing"] (spTest K lnD) := .mk1 F_law_is_line (ok_law_is_line F_law_is_line T D_law_are_whole) (PySem.W.mg_of X G a_law_is_line) b_law_is_line
  have D_law_right : Def l.prog w K mg base 9 "_law_right" ["_law_thing"] (spRightT K Pt0 Pt1) := .mk1 F_law_right (ok_law_right F_law_right T Dis_grain Dis_point Dis_line Dare_lines D_law_whole D_law_are_whole D_law_is_line) (PySem.W.mg_of X G a_law_right) b_law_right
  have D_law_spots : Def l.prog w K mg base 1 "_law_spots" ["_law_thing"] (spSpots K 0) := .mk1 F_law_spots (spots_zero) (PySem.W.mg_of X G a_law_spots) b_law_spots
  have D_law_put : Def l.prog w K mg base 1 "_law_put" ["_law_thing", "_law_spot", "_law_part"] (spPut K 0) := .mk1 F_law_put (put_zero) (PySem.W.mg_of X G a_law_put) b_law_put
  have D_law_spots : Def l.prog w K mg base 2 "_law_spots" ["_law_thing"] (spSpots K 1) := .mk1 F_law_spots (ok_law_spots F_law_spots T D_law_spots) (PySem.W.mg_of X G a_law_spots) b_law_spots
  have D_law_put : Def l.prog w K mg base 2 "_law_put" ["_law_thing", "_law_spot", "_law_part"] (spPut K 1) := .mk1 F_law_put (ok_law_put F_law_put T D_law_put) (PySem.W.mg_of X G a_law_put) b_law_put
  have D_law_spots : Def l.prog w K mg base 3 "_law_spots" ["_law_thing"] (spSpots K 2) := .mk1 F_law_spots (ok_law_spots F_law_spots T D_law_spots) (PySem.W.mg_of X G a_law_spots) b_law_spots
  have D_law_put : Def l.prog w K mg base 3 "_law_put" ["_law_thing", "_law_spot", "_law_part"] (spPut K 2) := .mk1 F_law_put (ok_law_put F_law_put T D_law_put) (PySem.W.mg_of X G a_law_put) b_law_put
  have D_law_spots : Def l.prog w K mg base 4 "_law_spots" ["_law_thing"] (spSpots K 3) := .mk1 F_law_spots (ok_law_spots F_law_spots T D_law_spots) (PySem.W.mg_of X G a_law_spots) b_law_spots
  have D_law_put : Def l.prog w K mg base 4 "_law_put" ["_law_thing", "_law_spot", "_law_part"] (spPut K 3) := .mk1 F_law_put (ok_law_put F_law_put T D_law_put) (PySem.W.mg_of X G a_law_put) b_law_put
  have D_law_spots : Def l.prog w K mg base 5 "_law_spots" ["_law_thing"] (spSpots K 4) := .mk1 F_law_spots (ok_law_spots F_law_spots T D_law_spots) (PySem.W.mg_of X G a_law_spots) b_law_spots
  have D_law_put : Def l.prog w K mg base 5 "_law_put" ["_law_thing", "_law_spot", "_law_part"] (spPut K 4) := .mk1 F_law_put (ok_law_put F_law_put T D_law_put) (PySem.W.mg_of X G a_law_put) b_law_put
  have D_law_spoilt : Def l.prog w K mg base 6 "_law_spoilt" ["_law_deck_here", "_law_thing"] (spSpoilt K) := .mk1 F_law_spoilt (ok_law_spoilt F_law_spoilt T D_law_draw D_law_spots D_law_put) (PySem.W.mg_of X G a_law_spoilt) b_law_spoilt
  have D_law_many_right : Def l.prog w K mg base 10 "_law_many_right" ["_law_deck_here"] (spMany K Pt0 Pt1) := .mk1 F_law_many_right (ok_law_many_right F_law_many_right T D_law_draw D_law_lines D_law_right D_law_spoilt) (PySem.W.mg_of X G a_law_many_right) b_law_many_right
  exact oklaw Flaw T D_law_deck D_law_draw D_law_grain D_law_lines D_law_far D_law_moved D_law_right D_law_spoilt D_law_many_right
end Cl
open PySem PySem.W PyProof.Rows
set_option maxHeartbeats 0 in
theorem PySem.Challenge.cw_cornerlines_k01_what_are_points_and_line_holds : PySem.Challenge.rw_cornerlines_k01_what_are_points_and_line.Holds := by
  w_on; o_law; k_head; (case hw => w_witness2)
  k_fill
  refine Cl.endGT (l := PySem.Challenge.rw_cornerlines_k01_what_are_points_and_line) (n := 63) (k := 11) (x := "_law_script") (ts := ["are_wholes", "are_lines"]) (sp := fun K cs => Cl.spLawTs K cs) rfl (by decide) rfl ⟨⟨rfl, by decide, by decide⟩, rfl⟩ (by rfl) (fun w h Y => PySem.W.kIn_of Y) ?F ?hsp
  case F =>
    intro w mg fa h KX G hmg tn
    refine' Cl.all_mk KX G hmg ?a0 ?l0 ?c0 ?k0 ?a1 ?l1 ?c1 ?k1 ?a2 ?l2 ?c2 ?k2 ?a3 ?l3 ?c3 ?k3 ?a4 ?l4 ?c4 ?k4 ?a5 ?l5 ?c5 ?k5 ?a6 ?l6 ?c6 ?k6 ?a7 ?l7 ?c7 ?k7 ?a8 ?l8 ?c8 ?k8 ?a9 ?l9 ?c9 ?k9 ?a10 ?l10 ?c10 ?k10 ?a11 ?l11 ?c11 ?k11 ?a12 ?l12 ?c12 ?k12 ?a13 ?l13 ?c13 ?k13 ?a14 ?l14 ?c14 ?k14 ?a15 ?l15 ?c15 ?k15 ?a16 ?l16 ?c16 ?k16 ?a17 ?l17 ?c17 ?k17 ?a18 ?l18 ?c18 ?k18 ?a19 ?l19 ?c19 ?k19 ?a20 ?l20 ?c20 ?k20 ?a21 ?l21 ?c21 ?k21 ?a22 ?l22 ?c22 ?k22 ?a23 ?l23 ?c23 ?k23 ?z0 ?z1 ?z2 ?z3 ?z4 ?z5 ?z6 ?z7 ?z8 ?z9 ?z10 ?z11 ?z12 ?z13 ?nt (tn _ (by simp)) (tn _ (by simp))
    (case nt => first | (with_unfolding_all exact rfl) | (unfold Cl.noTab; with_unfolding_all rfl))
    (case a0 => k_is); (case l0 => k_is); (case c0 => k_is); (case k0 => k_is); (case a1 => k_is); (case l1 => k_is); (case c1 => k_is); (case k1 => k_is); (case a2 => k_is); (case l2 => k_is); (case c2 => k_is); (case k2 => k_is); (case a3 => k_is); (case l3 => k_is); (case c3 => k_is); (case k3 => k_is); (case a4 => k_is); (case l4 => k_is); (case c4 => k_is); (case k4 => k_is); (case a5 => k_is); (case l5 => k_is); (case c5 => k_is); (case k5 => k_is); (case a6 => k_is); (case l6 => k_is); (case c6 => k_is); (case k6 => k_is); (case a7 => k_is); (case l7 => k_is); (case c7 => k_is); (case k7 => k_is); (case a8 => k_is); (case l8 => k_is); (case c8 => k_is); (case k8 => k_is); (case a9 => k_is); (case l9 => k_is); (case c9 => k_is); (case k9 => k_is); (case a10 => k_is); (case l10 => k_is); (case c10 => k_is); (case k10 => k_is); (case a11 => k_is); (case l11 => k_is); (case c11 => k_is); (case k11 => k_is); (case a12 => k_is); (case l12 => k_is); (case c12 => k_is); (case k12 => k_is); (case a13 => k_is); (case l13 => k_is); (case c13 => k_is); (case k13 => k_is); (case a14 => k_is); (case l14 => k_is); (case c14 => k_is); (case k14 => k_is); (case a15 => k_is); (case l15 => k_is); (case c15 => k_is); (case k15 => k_is); (case a16 => k_is); (case l16 => k_is); (case c16 => k_is); (case k16 => k_is); (case a17 => k_is); (case l17 => k_is); (case c17 => k_is); (case k17 => k_is); (case a18 => k_is); (case l18 => k_is); (case c18 => k_is); (case k18 => k_is); (case a19 => k_is); (case l19 => k_is); (case c19 => k_is); (case k19 => k_is); (case a20 => k_is); (case l20 => k_is); (case c20 => k_is); (case k20 => k_is); (case a21 => k_is); (case l21 => k_is); (case c21 => k_is); (case k21 => k_is); (case a22 => k_is); (case l22 => k_is); (case c22 => k_is); (case k22 => k_is); (case a23 => k_is); (case l23 => k_is); (case c23 => k_is); (case k23 => k_is); (case z0 => k_is); (case z1 => k_is); (case z2 => k_is); (case z3 => k_is); (case z4 => k_is); (case z5 => k_is); (case z6 => k_is); (case z7 => k_is); (case z8 => k_is); (case z9 => k_is); (case z10 => k_is); (case z11 => k_is); (case z12 => k_is); (case z13 => k_is)
  case hsp =>
    intro w cs H a ns hl _ hc hS
    match cs, hc with
    | [], _ => exact fun _ => rfl
    | [_], _ => exact fun _ => rfl
    | [p, p2], hc => exact ⟨a, ns, rfl, hS, hl, ⟨#[], hc p (by simp), by trivial⟩, ⟨#[], hc p2 (by simp), by trivial⟩, fun _ => rfl⟩
    | _ :: _ :: _ :: _, _ => exact fun _ => rfl

