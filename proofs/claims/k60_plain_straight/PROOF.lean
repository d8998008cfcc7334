import PyProof.Rows.All
import KE.KSortTup
import KE.KDictOf
import KE.KNestM
import KE.KItemsList
import KE.KIsAll
import KE.KLam
import KE.KRevIter
import KE.KSortedM
import PyProof.StrWalks
import PyProof.SetKind
import PyProof.AttrMissHeap
import PyProof.DictUpdate
import KE.KUnpack
import PyProof.DictRoadsH
import PyProof.TupleKey
import PyProof.EqAt
import PyProof.EqKinds
import PyProof.TupleCall
import PyProof.NeKinds
import PySem.Challenge.RW_lendrule_k60_plain_straight
set_option compiler.extract_closed false
set_option maxHeartbeats 0
set_option Elab.async false
set_option linter.all false
set_option maxRecDepth 100000
noncomputable section
section
open PySem PySem.Spec PyProof.Rows
def lO:=@PyProof.Rows.slot_tuple_getitem
def sW:=@List.eq_nil_of_length_eq_zero
def Dx:=@F.args_tuple_iterator_next_1
def Dy:=@F.entry_tuple_iterator_next
def gw:=@PyProof.Rows.callWith_type1
def Dz:=@PySem.F.args_object_init_3
def sX:=@F.slot_tuple_iterator_next
def DA:=@Calls.Name_function_global
def gQ:=@List.getElem?_append_right
def iJ:=@List.getD_eq_getElem?_getD
def di:=@List.getElem?_eq_some_iff
def ot:=@Array.getElem?_eq_getElem
def fj:=@List.getElem?_append_left
def xQ:=@List.drop_eq_getElem_cons
def gy:=@List.getElem?_eq_none_iff
def xR:=@F.slot_list_getattribute
def sY:=@List.filterMap_cons_none
def dy:=@List.getElem?_eq_getElem
def xS:=@PySem.F.args_tuple_mul_2
def ou:=@List.eq_of_mem_replicate
def xT:=@PySem.F.args_tuple_add_2
def sZ:=@List.filterMap_cons_some
def iK:=@AutoSeq1.wpAny_loadPart'
def xU:=@PySem.F.entry_tuple_add
def xV:=@PySem.F.entry_tuple_mul
def xW:=@PySem.F.plainAttrs_list
def fq:=@wpAny_callSpecial?_slot
def xX:=@PySem.F.slot_tuple_mul
def iL:=@Heap.get?_update_other
def aE:=@Heap.get?_push_of_some
def xY:=@List.take_of_length_le
def xZ:=@PySem.F.slot_tuple_add
def jN:=@Array.getElem?_eq_none
def jO:=@Option.map_eq_some_iff
def s9:=@List.getElem?_set_self
def eu:=@List.mem_append_right
def ya:=@isSubtype_tuple_tuple
def ow:=@List.length_replicate
def td:=@List.getElem?_eq_none
def lP:=@Heap.get?_update_self
def tj:=@Array.getElem?_toList
def tm:=@List.mem_iff_getElem?
def yb:=@builtinLookup_eq_fast
def tq:=@Around.under_plainId
def ox:=@Bool.and_eq_true_iff
def bV:=@List.getElem?_set_ne
def yc:=@List.mem_of_mem_drop
def yd:=@List.mem_of_mem_take
def cH:=@List.mem_cons_of_mem
def tu:=@List.mem_of_getElem?
def ye:=@wpAny_updateSeq_pair
def lQ:=@List.mem_append_left
def yf:=@List.getElem?_range
def ez:=@PySem.mem_of_lookup
def yg:=@List.filterMap_cons
def bu:=@Heap.get?_push_size
def lR:=@Array.length_toList
def fN:=@List.replicate_succ
def yh:=@List.mem_map_of_mem
def eA:=@beq_eq_false_iff_ne
def yi:=@Int.toNat_of_nonneg
def tw:=@F.plain_extend_loop
def dj:=@List.mem_cons_self
def oy:=@Int.emod_lt_of_pos
def yj:=@wpAny_tupleItemsOf
def jP:=@wpAny_setField_rec
def bA:=@List.length_append
def dO:=@Bool.false_eq_true
def yk:=@Array.forIn_toList
def bB:=@Bool.false_ne_true
def gR:=@wpAny_Call_Name_kw
def oA:=@List.mem_filterMap
def oB:=@Nat.lt_of_le_of_lt
def bQ:=@Nat.lt_of_lt_of_le
def cj:=@List.mem_singleton
def jQ:=@List.flatten_cons
def tx:=@decide_eq_true_eq
def cJ:=@List.getElem?_map
def yl:=@List.nodup_append
def gz:=@List.map_inj_left
def oC:=@List.length_range
def ym:=@Bool.not_eq_true'
def gA:=@List.append_assoc
def gS:=@of_decide_eq_true
def yn:=@wpAny_pyIter_list
def jR:=@Int.toNat_natCast
def tD:=@F.slot_tuple_hash
def iM:=@wpAny_truthy_bool
def yo:=@List.any_eq_false
def lS:=@F.args_zip_next_1
def jS:=@wpAny_newObj_type
def bW:=@List.size_toArray
def tF:=@Around.in1_units
def aF:=@Bool.and_eq_true
def cw:=@List.length_cons
def cW:=@List.lookup_cons
def lU:=@List.length_take
def yp:=@noFill_tuple_add
def yq:=@List.cons_append
def yr:=@Nat.le_of_not_lt
def tH:=@wpAny_forIn_list
def yt:=@Option.getD_none
def yu:=@List.getElem_mem
def jT:=@wpAny_isInstance
def tJ:=@Heap.size_update
def fu:=@beq_self_eq_true
def yv:=@wpAny_pyIter_zip
def lV:=@Nat.lt_succ_self
def eE:=@wpAny_call_entry
def yw:=@Nat.le_add_right
def iN:=@Option.bind_some
def tK:=@List.length_drop
def lW:=@F.entry_zip_next
def eF:=@List.all_eq_true
def yx:=@List.isEmpty_iff
def cK:=@List.not_mem_nil
def bC:=@Option.some.inj
def oE:=@wpAny_ite_false
def cX:=@List.append_nil
def oF:=@List.find?_cons
def jU:=@wpAny_passesOwn
def jV:=@List.foldl_cons
def lX:=@List.forIn_cons
def yy:=@Option.map_some
def oG:=@wpAny_updateSeq
def tM:=@codeAny_builtin
def dZ:=@List.map_append
def fO:=@List.nil_append
def fw:=@F.slot_zip_next
def lZ:=@wpAny_specialOf
def yz:=@typeLookup_type
def yA:=@List.cons.injEq
def yB:=@List.range_succ
def yC:=@List.of_mem_zip
def dk:=@List.mem_append
def cL:=@decide_eq_false
def l0:=@List.nodup_cons
def tN:=@F.slot_tuple_eq
def tO:=@wpAny_execs_nil
def tP:=@Nat.min_eq_left
def iO:=@Int.emod_nonneg
def jW:=@List.length_set
def jX:=@List.length_nil
def aQ:=@List.length_map
def yD:=@List.mem_filter
def tQ:=@Nat.mul_le_mul
def dz:=@Heap.size_push
def tU:=@isSubtype_stop
def tV:=@Bool.not_false
def eG:=@wpAny_seqItems
def oH:=@List.forIn_nil
def tW:=@List.mem_range
def aT:=@Bool.and_false
def dA:=@decide_eq_true
def oI:=@List.nodup_nil
def b6:=@Bool.and_true
def jY:=@wpAny_attempt
def eI:=@Nat.lt_irrefl
def l4:=@Paired.length
def iP:=@Prod.mk.injEq
def gT:=@Bool.not_true
def oJ:=@Bool.and_self
def aO:=@List.map_cons
def l5:=@List.any_cons
def tY:=@wpAny_onRaise
def tZ:=@plainId_quiet
def t8:=@List.map_take
def aW:=@List.mem_cons
def t9:=@wpAny_standAt
def dB:=@wpAny_holding
def gU:=@List.all_cons
def ua:=@List.map_drop
def ub:=@Bool.true_and
def aY:=@Bool.or_self
def aZ:=@Nat.ne_of_lt
def oK:=@Nat.ne_of_gt
def l7:=@wpAny_typeOf
def aG:=@Heap.lt_size
def aJ:=@Nat.le_trans
def oM:=@codeAny_mono
def oN:=@List.map_map
def iQ:=@Nat.lt_trans
def cm:=@Bool.or_true
def dP:=@List.map_nil
def fP:=@Nat.add_zero
def dC:=@List.mem_map
def iR:=@Nat.le_of_eq
def jZ:=@Nat.zero_add
def oO:=@Nat.le_of_lt
def gV:=@Nat.zero_le
def cx:=@wpAny_field
def az:=@Nat.le_refl
def j2:=@sizeLine_eq
def uc:=@Int.le_refl
def oP:=@wpAny_letGo
def oQ:=@typeIs_int
def gW:=@wpAny_rule
def j3:=@wpAny_mono
def ak:=@wpAny_pure
def gX:=@beq_iff_eq
def fx:=@call_meets
def ai:=@wpAny_bind
def aR:=@eq_of_beq
def l8:=@tail_any
def dm:=@congrArg
def cM:=@or_false
def cD:=@if_false
def d5:=@if_true
def bR:=@Ne.symm
end
namespace PSh
end PSh
section
namespace L2
open PySem PySem.Spec PyProof.Rows
abbrev bG:=Sum Int Str
inductive V where
 | aL | bl (b:Bool) | int (i:Int) | str (x:Str) | PY (b:Array UInt8) | UQ (b:UInt64) | ref (a:Addr) | ty (n:String)
 deriving DecidableEq
def RelV:V->Value->Prop
 | .aL,u=>u=Value.none
 | .bl b,u=>u=Value.bool b
 | .int i,u=>∃t,u=Value.int i t
 | .str x,u=>∃t,u=Value.str x t
 | .PY b,u=>∃t,u=Value.bytes b t
 | .UQ b,u=>∃t,u=Value.float b t
 | .ref a,u=>u=Value.ref a
 | .ty n,u=>u=Value.type n
abbrev Vals:List V->List Value->Prop:=Paired RelV
noncomputable def kV:bG->V
 | .inl i=>.int i
 | .inr x=>.str x
inductive HO where
 /-- a list -/
 | lst (xs:List V)
 /-- a tuple (never UR) -/
 | aq (xs:List V)
 /-- a dict KA keys VC ints and Qr;one KA keys VC tuples of ints and Qr (HE empty one is aaj) -/
 | dK (kvs:List (bG×V)) | dT (xs:List ((bG×List bG)×Addr×Value))
 /-- a set of ints: aw US,aw size -/
 | set (S:Int->Bool) (n:Nat)
 /-- an instance of HE class at C,aw dict at dx,aw LU -/
 | ins (C dx:Addr) (fs:List (Str×V))
 /-- HE dict of HE instance at x -/
 | own (x:Addr)
 /-- HE dict of an PZ -/
 | xd (fs:List (Str×V))
 /-- a bound method,f of x -/
 | UT (f x:Addr)
 /-- a range DB lo,lo+1,.. below hi -/
 | UU (lo hi:Int)
 /-- a Qs aak is YH to HE DB (HE VD;a dict while a loop YI it): aal,never written while it is so -/
 | vH (o:Obj) (u:HO)
 /-- a code Qt table -/
 | yE (q:Str)
 /-- any other Qs,by what is true of aw one DB (a def of YJ own: aam a S n:=HO.ext λh=>..) -/
 | ext (φ:Heap->Prop)
abbrev Hp:=Addr->Option HO
def Rd(H:Hp)(a:Addr)(u:HO):Prop:=H a=some u\/∃o,H a=some (.vH o u)
noncomputable def dq:List Str:=["arrivals","empties","needs","held"]
def gY(K:W.Frag)(H:Hp)(a:Addr)(xs:List V):Prop :=
 Rd H a (.aq xs) \/
  ∃(o:Obj) (aw:Array Value) (n:Nat),K.lookup a=some o/\o.cls=.type "tuple"/\(o.data=.seq aw n/\o.dict=none)/\aw.size<=sizeLine/\Vals xs aw.toList
def gZ(K:W.Frag)(H:Hp)(a:Addr)(xs:List V):Prop :=
 Rd H a (.lst xs)\/∃(aw:List Value) (n:Nat),K.lookup a=some {cls:=.type "list",data:=.seq aw.toArray n}/\aw.length<=sizeLine/\Vals xs aw
structure qN (K:W.Frag) (C:Addr):Prop where
 pg:W.plainGet K C Str.empty=true
 hd:W.hasDictIn K C=true
 po:W.plainOver K C=true
 sa:W.findIn K (.ref C) "__setattr__"=some (some (.builtin "object.__setattr__"))
def fQ(K:W.Frag)(C:Addr)(f:Str):Prop:=W.findIn K (.ref C) f=some none
def cz(K:W.Frag)(fd:FuncData)(ps:List Str)(ds:List Value):Prop :=
 ∀(s:Shared) (us:List Value),K.In s.heap->(us++ds).length=ps.length->BindsTo s fd ⟨us,[]⟩ (ps.zip (us++ds))
def cz.all{K:W.Frag}{fd:FuncData}{ps:List Str}(h:∀us:List Value,us.length=ps.length->bindArgs fd ⟨us,[]⟩=pure (ps.zip us)):cz K fd ps []:=λs us _ hl=>by
 rw[cX]at hl ⊢;exact .of_eq (h us hl)
section
variable {X:Cx} {CX:BP} {k:Nat} {f C:Addr} {fd:FuncData} {ps:List Str} {sp:Sp} {iS:List V} {ds:List Value} {E:XK} {x m:Str} {p pos dW:Pos} {e o:Expr} {es:List Expr} {ta:TE} {t:TA}
structure Mk (K:W.Frag) (C f:Addr):Prop where
 makes:W.makesIn K C=true
 init:W.findIn K (.ref C) "__init__"=some (some (.ref f))
 fn:W.isFn K (.ref f)=true
 kp:W.keepIn K (.ref C)=true
end
structure cA (N P:List Str) (sc:Scope):Prop where
 kind:sc.kind=.function
 co:sc.isCoroutine=false
 gen:sc.isGenerator=false
 nd:N.Nodup
 pre:N.take P.length=P
 par:∀x∈P,sc.names.lookup x=some .local\/sc.names.lookup x=some .cell
 nofree:∀y∈sc.names,y.2≠.free
noncomputable def dI(s:Stmt):Arguments:=match s with
 | .FunctionDef _ a _ _ _ _ _ _ _ _=>a
 | _=>{posonlyargs:=[],args:=[],vararg:=none,kwonlyargs:=[],kw_defaults:=[],kwarg:=none,defaults:=[]}
noncomputable def bO(s:Stmt):List Stmt:=match s with
 | .FunctionDef _ _ b _ _ _ _ _ _ _=>b
 | _=>[]
noncomputable def ar(s:Stmt):Scope:=match s with
 | .FunctionDef _ _ _ _ _ _ sc _ _ _=>sc
 | _=>{kind:=.function,names:=[],isGenerator:=false,isCoroutine:=false}
structure KC (K:W.Frag) (x qual:Str) (st:Stmt) (f:Addr) (fd:FuncData):Prop where
 ex:∃(oc:Value) (od:Option Addr) (kV doc pm:Value) (an:Option Addr) (cF ct:Value) (oR:Array (Option Value)),
  fd=W.fnOf x qual (dI st) (bO st) (ar st) .none kV doc pm an cF ct/\K.lookup f=some ⟨oc,od,.func fd,oR⟩/\W.codeIn K cF qual=true
 kp:W.keepIn K (.ref f)=true
section
variable {P:Program} {w:World} {K:W.Frag} {mg:Str->Option Value} {base:Heap}
def LV{st:Stmt}{oc:Value}{od an:Option Addr}{oR:Array (Option Value)}{kV doc pm cF ct:Value}(l:K.lookup f=some ⟨oc,od,.func (W.fnOf x qual (dI st) (bO st) (ar st) .none kV doc pm an cF ct),oR⟩)
  (c:W.codeIn K cF qual=true) (k:W.keepIn K (.ref f)=true):KC K x qual st f (W.fnOf x qual (dI st) (bO st) (ar st) .none kV doc pm an cF ct):=⟨⟨oc,od,kV,doc,pm,an,cF,ct,oR,rfl,l,c⟩,k⟩
end
section
variable {X:Cx} {ah:List (Addr×Obj)} {σ:St} {H:Hp} {s:Shared} {a b:Addr} {k:bG×List bG} {v:V} {r:Value} {A:Around} {E:Value->Shared->Prop} {xs:List ((bG×List bG)×Addr×Value)}
def Dk(K:W.Frag)(H:Hp)(a:Addr)(k:bG×List bG):Prop:=∃b,gY K H a [kV k.1,.ref b]/\gY K H b (k.2.map kV)
def eJ(K:W.Frag)(H:Hp)(xs:List ((bG×List bG)×Addr×Value)):Prop:=∀x∈xs,Dk K H x.2.1 x.1
end
end L2
namespace L2.U
open PySem PySem.Spec PyProof.Rows
inductive Kd where
 | aq | lst | ins (C:Str) (ns:List Str) | dt (t:Bool) (ks:List (bG×List bG))
inductive PV where
 | aL | bl (b:Bool) | int (i:Int) | str (x:Str) | ref (n:Nat) | fn (x:Str) | nd (k:Kd) (ps:List PV)
noncomputable abbrev PV.aq (ps:List PV):PV:=.nd .aq ps
structure Fz where
 F:Hp
 μ:List Addr
def ClsAt(K:W.Frag)(C:Str)(cls:Value):Prop:=W.nsIn K mainGlobals C=some (some cls)
def j4(K:W.Frag)(F H:Hp)(a:Addr)(x:Bool):Kd->List V->Prop
 | .aq,vs=>x=false/\gY K H a vs
 | .lst,vs=>if x=true then H a=some (.lst vs)else gZ K H a vs
 | .ins C ns,vs=>∃Ca dx fs,ClsAt K C (.ref Ca)/\qN K Ca/\(∀f∈ns,fQ K Ca f)/\H a=some (.ins Ca dx fs)/\fs.map (·.1)=ns/\fs.map (·.2)=vs
 | .dt false ks,vs=>∃kvs:List (bG×V),H a=some (.dK kvs)/\kvs.map (λy=>(y.1,[]))=ks/\kvs.map (·.2)=vs
 | .dt true ks,vs=>∃xs,H a=some (.dT xs)/\eJ K F xs/\xs.map (·.1)=ks/\Vals vs (xs.map (·.2.2))
mutual
def aU(K:W.Frag)(F:Fz):PV->V->Prop
 | .aL,v=>v=.aL
 | .bl b,v=>v=.bl b
 | .int i,v=>v=.int i
 | .str x,v=>v=.str x
 | .ref n,v=>∃a,F.μ[n]?=some a/\v=.ref a
 | .fn x,v=>∃a,v=.ref a/\W.nsIn K mainGlobals x=some (some (.ref a))
 | .nd k ps,v=>∃a vs,v=.ref a/\j4 K F.F F.F a false k vs/\ax K F ps vs
def ax(K:W.Frag)(F:Fz):List PV->List V->Prop
 | [],vs=>vs=[]
 | p::ps,vs=>∃v r,vs=v::r/\aU K F p v/\ax K F ps r
end
section
variable {K:W.Frag} {F F':Fz}
def ax.nil:ax K F [] []:=by simp[ax]
def ax.cons(h:aU K F p v)(t:ax K F ps vs):ax K F (p::ps) (v::vs):=by
 simp only[ax];exact⟨v,vs,rfl,h,t⟩
def cG:aU K F .aL v↔v=.aL:=by simp only[aU]
def aX:aU K F (.bl b) v↔v=.bl b:=by simp only[aU]
def aD:aU K F (.int i) v↔v=.int i:=by simp only[aU]
def bE:aU K F (.str i) v↔v=.str i:=by simp only[aU]
def g7:aU K F (.nd k ps) v↔∃a vs,v=.ref a/\j4 K F.F F.F a false k vs/\ax K F ps vs:=by simp only[aU]
def bF:aU K F (.aq ps) v↔∃a vs,v=.ref a/\gY K F.F a vs/\ax K F ps vs :=
 g7.trans ⟨(by rintro⟨a,vs,h1,h2,h3⟩;exact⟨a,vs,h1,h2.2,h3⟩),(by rintro⟨a,vs,h1,h2,h3⟩;exact⟨a,vs,h1,⟨rfl,h2⟩,h3⟩)⟩
end
end L2.U
namespace L2
open PySem PySem.Spec PyProof.Rows
section
structure DC (K:W.Frag) (C:Addr) (m:Str) (f:Addr):Prop where
  at_:W.findIn K (.ref C) m=some (some (.ref f))
  fn:W.isFn K (.ref f)=true
  kp:W.keepIn K (.ref f)=true
end
end L2
namespace L2.U
open PySem PySem.Spec PyProof.Rows
structure UW (K:W.Frag) (C:Addr):Prop where
 makes:W.makesIn K C=true
 init:W.findIn K (.ref C) "__init__"=some (some (.builtin "object.__init__"))
 kp:W.keepIn K (.ref C)=true
structure qS (K:W.Frag) (x qual:Str) (st:Stmt) (f:Addr) (fd:FuncData) (dV:Value):Prop where
 ex:∃(oc:Value) (od:Option Addr) (kV doc pm:Value) (an:Option Addr) (cF ct:Value) (oR:Array (Option Value)),
  fd=W.fnOf x qual (dI st) (bO st) (ar st) dV kV doc pm an cF ct/\K.lookup f=some ⟨oc,od,.func fd,oR⟩/\W.codeIn K cF qual=true
 kp:W.keepIn K (.ref f)=true
structure Pg where
 defs:List (Str×Stmt)
 cons:List (Str×PV):=[]
 cY:List Str:=[]
 tabs:List (Str×List (Str×Str)):=[]
 d7:List (Str×List (Str×PV)):=[]
 cls:List (Str×Stmt):=[]
 flds:List Str:=[]
 qT:List Str:=[]
 Qu:List (Str×List (Str×Nat)):=[]
 fR:List (Str×(Str×Str×Stmt)):=[]
 jo:List (Str×List PV):=[]
 vA:List Str:=[]
def params(st:Stmt):List Str:=(dI st).args.map λa=>a.arg
noncomputable def Qv:NameKind->Bool
 | .local=>true
 | .cell=>true
 | _=>false
def bK(st:Stmt):List Str:=params st++((ar st).names.filter λy=>Qv y.2&&!(params st).contains y.1).map λy=>y.1
structure DD (K:W.Frag) (jo:List (Str×List PV)) (x:Str) (st:Stmt):Prop where
 ex:∃f fd dV,W.nsIn K mainGlobals x=some (some (.ref f))/\qS K x x st f fd dV/\cz K fd (params st) []/\(∀ds,jo.lookup x=some ds->∃iS oS,Vals iS oS/\(∀F,ax K F ds iS)/\cz K fd (params st) oS)/\(jo.lookup x=none->∀us:List Value,us.length=(params st).length->bindArgs fd ⟨us,[]⟩=pure ((params st).zip us))
 sc:cA (bK st) (params st) (ar st)
def BQ(K:W.Frag)(P:Params)(T:Str)(rows:List (Str×Str)):Prop :=
 ∃a es n,W.nsIn K mainGlobals T=some (some (.ref a))/\K.lookup a=some ⟨.type "dict",none,.dict es n,#[]⟩/\W.KeysLit P es.toList/\∀d∈rows,∃f,W.nsIn K a d.1=some (some (.ref f))/\W.nsIn K mainGlobals d.2=some (some (.ref f))
def VE{K:W.Frag}{P:Params}{T:Str}{rows:List (Str×Str)}{a:Addr}{es:Array DictEntry}{n:Nat}(h1:W.nsIn K mainGlobals T=some (some (.ref a)))(h2:K.lookup a=some ⟨.type "dict",none,.dict es n,#[]⟩)(h3:W.KeysLit P es.toList)
  (h4:∀d∈rows,∃f,W.nsIn K a d.1=some (some (.ref f))/\W.nsIn K mainGlobals d.2=some (some (.ref f))):BQ K P T rows:=⟨a,es,n,h1,h2,h3,h4⟩
noncomputable def KD:PV->Value->Bool
 | .int i,.int j _=>i==j
 | .str x,.str y _=>x==y
 | .bl a,.bool b=>a==b
 | .aL,.none=>true
 | _,_=>false
def j5:List PV->List Value->Bool
 | [],[]=>true
 | p::r,u::q=>KD p u&&j5 r q
 | _,_=>false
def LW{K:W.Frag}{p:PV}{u:Value}(h:KD p u=true):∃v,RelV v u/\∀F,aU K F p v:=by
 cases p<;>cases u<;>first | exact absurd h bB | skip
 ·exact⟨.aL,rfl,λF=>cG.mpr rfl⟩
 ·cases aR h;exact⟨.bl _,rfl,λF=>aX.mpr rfl⟩
 ·cases aR h;exact⟨.int _,⟨_,rfl⟩,λF=>aD.mpr rfl⟩
 ·cases aR h;exact⟨.str _,⟨_,rfl⟩,λF=>bE.mpr rfl⟩
def Ai{K:W.Frag}{ps:List PV}{us:List Value}(h:j5 ps us=true):∃vs,Vals vs us/\∀F,ax K F ps vs:=by
 induction ps generalizing us with
 | nil=>cases us;exact⟨[],.nil,λ_=>.nil⟩;cases h
 | cons p r ih =>
  cases us with
  | nil=>cases h
  | cons u q =>
   have h:=ox.mp h;obtain⟨v,a,b⟩:=LW (K:=K) h.1;obtain⟨vs,h1,h2⟩:=ih h.2;exact⟨v::vs,.cons a h1,λF=>.cons (b F) (h2 F)⟩
def HF{K:W.Frag}{g:Addr}{x:Str}{a:Addr}{ps:List PV}{us:List Value}{n:Nat}{sl:Array (Option Value)}(h1:W.nsIn K g x=some (some (.ref a)))(h2:K.lookup a=some ⟨.type "tuple",none,.seq us.toArray n,sl⟩)(h3:j5 ps us=true)(h4:us.length<=100) :
  ∃u v,W.nsIn K g x=some (some u)/\RelV v u/\∀F,aU K F (.aq ps) v:=by
 obtain⟨vs,r,b⟩:=Ai h3;exact⟨_,.ref a,h1,rfl,λF=>bF.mpr ⟨a,vs,rfl,.inr ⟨_,us.toArray,n,h2,rfl,⟨rfl,rfl⟩,by rw[bW];exact aJ h4 (by decide),by grind⟩,b F⟩⟩
def HG{K:W.Frag}{g:Addr}{x:Str}{y:Str}{t:Tok}(a:W.nsIn K g x=some (some (.str y t))):∃u v,W.nsIn K g x=some (some u)/\RelV v u/\∀F,aU K F (.str y) v:=⟨_,.str y,a,⟨t,rfl⟩,λF=>bE.mpr rfl⟩
def HH{K:W.Frag}{g:Addr}{x:Str}{i:Int}{t:Tok}(a:W.nsIn K g x=some (some (.int i t))):∃u v,W.nsIn K g x=some (some u)/\RelV v u/\∀F,aU K F (.int i) v:=⟨_,.int i,a,⟨t,rfl⟩,λF=>aD.mpr rfl⟩
def vI(K:W.Frag)(P:Params)(T:Str)(rows:List (Str×PV)):Prop :=
 ∃a es n,(a==sysModules)=false/\W.nsIn K mainGlobals T=some (some (.ref a))/\K.lookup a=some ⟨.type "dict",none,.dict es n,#[]⟩/\W.KeysLit P es.toList/\∀d∈rows,∃u v,W.nsIn K a d.1=some (some u)/\RelV v u/\∀F,aU K F d.2 v
def LX(K:W.Frag)(C:Str)(st:Stmt)(flds:List Str):Prop:=∃Ca f fd,W.nsIn K mainGlobals C=some (some (.ref Ca))/\Mk K Ca f/\qN K Ca/\(∀g∈flds,fQ K Ca g)/\KC K "__init__" (C++".__init__") st f fd/\(∀us:List Value,us.length=(params st).length->bindArgs fd ⟨us,[]⟩=pure ((params st).zip us))/\cA (bK st) (params st) (ar st)
def LY(K:W.Frag)(d:Str×(Str×Str×Stmt)):Prop:=∃Ca f fd dV,ClsAt K d.2.1 (.ref Ca)/\DC K Ca d.2.2.1 f/\qS K d.2.2.1 d.1 d.2.2.2 f fd dV/\cz K fd (params d.2.2.2) []/\cA (bK d.2.2.2) (params d.2.2.2) (ar d.2.2.2)
def LZ(K:W.Frag)(C:Str):Prop:=∃Ca,ClsAt K C (.ref Ca)/\qN K Ca/\UW K Ca
def L0(K:W.Frag)(x:Str):Prop:=x∈dq/\∃c T,W.tabIn K x=some (c,T)/\W.codeHdIn K c T=true
def DE(K:W.Frag):Prop:=∃bm o,W.nsIn K mainGlobals "__builtins__"=some (some (.ref bm))/\bm≠builtinsNs/\bm≠mainGlobals/\K.lookup bm=some o/\o.cls=.type "module"/\o.dict=some builtinsNs/\o.data=.plain
structure kD (K:W.Frag) (h:Heap):Prop where
 at_:∀x∈dq,∀c T,W.tabIn K x=some (c,T)->W.codeHdIn K c T=true/\h.get? T=some {cls:=.none,data:=.fields #[]}/\K.lookup T=none
 nd:(dq.filterMap λx=>(W.tabIn K x).map (·.2)).Nodup
def kD.keeps{K:W.Frag}{h h':Heap}(t:kD K h)(k:∀b o,h.get? b=some o->h'.get? b=some o):kD K h':=⟨λx hx c T e=>let ⟨h1,h2,h3⟩:=t.at_ x hx c T e;⟨h1,k _ _ h2,h3⟩,t.nd⟩
theorem jq{α β:Type} [BEq α] [LawfulBEq α] {b:α} {q:β}:∀{l:List (α×β)},(l.map (·.1)).Nodup->(b,q)∈l->l.lookup b=some q
 | [],_,h=>nomatch h
 | (a,v)::l,hn,h=>by
  rw[aO,l0]at hn;rw[cW];rcases aW.mp h with e | h'
  ·grind
  ·have:(b==a)=false:=by
    grind
   rw[this];exact jq hn.2 h'
structure DF (P:Pg) (w:World) (K:W.Frag):Prop where
 hd:∀d∈P.defs,DD K P.jo d.1 d.2
 hm:∀d∈P.fR,LY K d
 hm0:∀C∈P.vA,LZ K C
 hc:∀d∈P.cons,∃u v,W.nsIn K mainGlobals d.1=some (some u)/\RelV v u/\∀F,aU K F d.2 v
 hb:∀x∈P.cY,W.nsIn K mainGlobals x=some none
 ht:∀d∈P.tabs,BQ K w.params d.1 d.2
 hcl:∀d∈P.cls,LX K d.1 d.2 P.flds
 hct:∀d∈P.d7,vI K w.params d.1 d.2
 YK:∀x∈P.qT,L0 K x
 hbm:P.qT≠[]->DE K
noncomputable def oT:Value->List Addr
 | .ref a=>[a]
 | _=>[]
def rn:Option Obj->List Addr
 | some ⟨_,_,.dict es _,_⟩=>es.toList.flatMap λe=>oT e.val
 | some ⟨_,_,.func fd,_⟩=>oT fd.code++oT fd.defaults
 | some ⟨_,_,.cls cd,_⟩=>cd.ns::cd.mro.flatMap oT
 | _=>[]
noncomputable def BR:Obj->Bool
 | ⟨.none,none,.fields vs,sl⟩=>vs.isEmpty&&sl.isEmpty
 | _=>false
def fragOf(h:Heap):List Addr->W.Frag
 | []=>[]
 | a::r=>match h.get? a with
  | some o=>if BR o=true then fragOf h r else(a,o)::fragOf h r
  | none=>fragOf h r
theorem fI(h:Heap):∀(as:List Addr) (b:Addr) (o:Obj),(fragOf h as).lookup b=some o->h.get? b=some o/\BR o=false
 | [],_,_,e=>nomatch e
 | a::r,b,o,e=>by
  unfold fragOf at e;split at e
  ·rename_i o' ho;split at e
   ·exact fI h r b o e
   ·rename_i ht;rw[cW]at e;cases z:b==a with
    | true =>
     rw[z]at e;cases e;rw[aR z];exact⟨ho,by simpa using ht⟩
    | false =>
     rw[z]at e;exact fI h r b o e
  ·exact fI h r b o e
theorem BS(h:Heap)(as:List Addr):(fragOf h as).In h:=λb o e=>(fI h as b o e).1
theorem Aj(h:Heap){b:Addr}{o:Obj}(h1:h.get? b=some o)(h2:BR o=false):∀as:List Addr,b∈as->(fragOf h as).lookup b=some o
 | a::r,hb=>by
  unfold fragOf;by_cases e:b=a
  ·subst e;rw[h1];show(if BR o=true then _ else _:W.Frag).lookup b=_
   rw[h2,if_neg bB,cW,fu]
  ·have ih:=Aj h h1 h2 r ((aW.mp hb).resolve_left e);split
   ·split
    ·exact ih
    ·rw[cW,eA.mpr e];exact ih
   ·exact ih
theorem l9{h:Heap}{as bs:List Addr}{b:Addr}{o:Obj}(e:(fragOf h as).lookup b=some o)(hb:b∈bs):(fragOf h bs).lookup b=some o:=Aj h (fI h as b o e).1 (fI h as b o e).2 bs hb
noncomputable def nsO:Option Obj->List Addr
 | some ⟨_,_,.cls cd,_⟩=>[cd.ns]
 | _=>[]
def L3(h:Heap)(a:Addr):List Addr:=a::(rn (h.get? a)++(nsO (h.get? a)).flatMap λb=>(rn (h.get? b)).flatMap λc=>c::rn (h.get? c))
def dG(h:Heap):W.Frag:=fragOf h (mainGlobals::(rn (h.get? mainGlobals)).flatMap (L3 h))
noncomputable def HI(K:W.Frag)(x:Str):Option FuncData:=match W.nsIn K mainGlobals x with
 | some (some (.ref f))=>(match K.lookup f with
  | some ⟨_,_,.func fd,_⟩=>(match W.codeIn K fd.code x with
   | true=>some {fd with defaults:=.none,kwdefaults:=.none,doc:=.none,pyModule:=.none,annotations:=none,code:=.none,closureTuple:=.none}
   | false=>none)
  | _=>none)
 | _=>none
def DG(h:Heap)(x:Str):Option FuncData:=match W.nsIn (fragOf h [mainGlobals]) mainGlobals x with
 | some (some (.ref f))=>(match(fragOf h [f]).lookup f with
  | some ⟨_,_,.func fd,_⟩=>(match W.codeIn (fragOf h (oT fd.code)) fd.code x with
   | true=>some {fd with defaults:=.none,kwdefaults:=.none,doc:=.none,pyModule:=.none,annotations:=none,code:=.none,closureTuple:=.none}
   | false=>none)
  | _=>none)
 | _=>none
def DH{h:Heap}{x:Str}{v:FuncData}(e:DG h x=some v):HI (dG h) x=some v:=by
 unfold DG at e;split at e
 ·rename_i f hf;split at e
  ·rename_i oc od fd oR hl;split at e
   ·rename_i hc;have hg:W.nsIn (dG h) mainGlobals x=some (some (.ref f))/\f∈rn (h.get? mainGlobals):=by
     unfold W.nsIn at hf ⊢;split at hf
     ·rename_i gc gd es gn gs hk;have k2:(dG h).lookup mainGlobals=_:=l9 hk dj;rw[k2,(fI _ _ _ _ hk).1];refine⟨hf,?_⟩;split at hf
      ·rename_i en hen;have hv:en.val=.ref f:=bC (bC hf);exact List.mem_flatMap.mpr ⟨en,List.mem_of_find?_eq_some hen,by rw[hv];exact dj⟩
      ·split at hf<;>cases hf
     ·cases hf
    have mf:∀b∈L3 h f,b∈mainGlobals::(rn (h.get? mainGlobals)).flatMap (L3 h):=λb hb=>cH _ (List.mem_flatMap.mpr ⟨f,hg.2,hb⟩)
    have k3:(dG h).lookup f=some ⟨oc,od,.func fd,oR⟩:=l9 hl (mf f dj);have k4:W.codeIn (dG h) fd.code x=true:=by
     unfold W.codeIn at hc ⊢;split at hc
     ·rename_i c xM;split at hc
      ·rename_i cc cdd vs csl hk;have:(dG h).lookup c=_:=l9 hk (mf c (cH _ (lQ _ (by rw[(fI _ _ _ _ hl).1];show c∈oT fd.code++oT fd.defaults;rw[xM];exact lQ _ dj))))
       rw[this];exact hc
      ·cases hc
     ·cases hc
    unfold HI;rw[hg.1];dsimp only
    rw[k3];dsimp only
    rw[k4];exact e
   ·cases e
  ·cases e
 ·cases e
def DI(x:Str)(st:Stmt):FuncData:=W.fnOf x x (dI st) (bO st) (ar st) .none .none .none .none none .none .none
def L4(K:W.Frag)(jo:List (Str×List PV))(x:Str):Bool:=match W.nsIn K mainGlobals x with
 | some (some (.ref f))=>(match K.lookup f with
  | some ⟨_,_,.func fd,_⟩=>(match jo.lookup x,fd.defaults with
   | none,.none=>true
   | some ds,.ref T=>(match K.lookup T with
    | some ⟨.type t,none,.seq us _,_⟩=>(t=="tuple")&&j5 ds us.toList
    | _=>false)
   | _,_=>false)
  | _=>false)
 | _=>false
def Qw(K:W.Frag)(jo:List (Str×List PV))(x:Str)(dV:Value):Prop:=(dV=.none/\jo.lookup x=none)\/∃ds T us n sl,jo.lookup x=some ds/\dV=.ref T/\K.lookup T=some ⟨.type "tuple",none,.seq us n,sl⟩/\j5 ds us.toList=true
def HJ{K:W.Frag}{jo:List (Str×List PV)}{x:Str}{st:Stmt}(h:HI K x=some (DI x st))(hd:L4 K jo x=true):∃f fd dV,W.nsIn K mainGlobals x=some (some (.ref f))/\qS K x x st f fd dV/\Qw K jo x dV:=by
 unfold HI at h;split at h
 ·rename_i f hf;split at h
  ·rename_i oc od fd oR hl;split at h
   ·rename_i hc;have h:=bC h;have hD:Qw K jo x fd.defaults:=by
     unfold L4 at hd;rw[hf]at hd;dsimp only at hd
     rw[hl]at hd;dsimp only at hd
     split at hd
     ·rename_i e1 e2;exact .inl ⟨e2,e1⟩
     ·rename_i ds T e1 e2;split at hd
      ·rename_i t us n sl e3;rw[aF]at hd;obtain rfl:=aR hd.1;exact .inr ⟨ds,T,us,n,sl,e1,e2,e3,hd.2⟩
      ·cases hd
     ·cases hd
    obtain⟨a1,a2,a3,a4,a5,a6,a7,a8,a9,YL,YM,YN,YO,YQ,a15⟩:=fd;unfold DI at h;simp only[FuncData.mk.injEq]at h;obtain⟨e1,e2,e3,e4,e5,e6,e7,-,-,-,-,-,-,-,VF⟩:=h;subst e1 e2 e3 e4 e5 e6 e7 VF;exact⟨f,_,a8,hf,⟨⟨oc,od,a9,YL,YM,YN,YO,YQ,oR,rfl,hl,hc⟩,by unfold W.keepIn;dsimp only;rw[hl]⟩,hD⟩
   ·cases h
  ·cases h
 ·cases h
def Ak(K:W.Frag)(g:Addr)(d:Str×PV):Bool:=match W.nsIn K g d.1 with
 | some (some (.int j _))=>(match d.2 with | .int i=>i==j | _=>false)
 | some (some (.str y _))=>(match d.2 with | .str x=>x==y | _=>false)
 | some (some (.ref a))=>(match K.lookup a with
  | some ⟨.type t,none,.seq us _,_⟩=>(match d.2 with | .nd .aq ps=>(t=="tuple")&&(j5 ps us.toList&&decide (us.toList.length<=100)) | _=>false)
  | _=>false)
 | _=>false
def vJ{K:W.Frag}{g:Addr}{x:Str}{p:PV}(h:Ak K g (x,p)=true):∃u v,W.nsIn K g x=some (some u)/\RelV v u/\∀F,aU K F p v:=by
 unfold Ak at h;dsimp only at h
 split at h
 ·rename_i j t hn;split at h
  ·obtain rfl:=aR h;exact HH hn
  ·cases h
 ·rename_i y t hn;split at h
  ·obtain rfl:=aR h;exact HG hn
  ·cases h
 ·rename_i a hn;split at h
  ·rename_i t dd us n sl hl;split at h
   ·rw[aF,aF]at h;obtain⟨h1,h2,h3⟩:=h;obtain rfl:=aR h1;obtain⟨us⟩:=us;exact HF hn hl h2 (gS h3)
   ·cases h
  ·cases h
 ·cases h
noncomputable def DJ(K:W.Frag)(x:Str):Bool:=match W.nsIn K mainGlobals x with
 | some none=>true
 | _=>false
def DK{K:W.Frag}{x:Str}(h:DJ K x=true):W.nsIn K mainGlobals x=some none:=by
 unfold DJ at h;split at h
 ·assumption
 ·cases h
abbrev OV:=Option (Option Value)
noncomputable def Am(e:DictEntry):Option Str×Int:=(match e.key with
 | .str x _=>some x
 | _=>none,e.hash)
noncomputable def DL(K:W.Frag)(a:Addr)(d:Str×Str):Bool:=match W.nsIn K a d.1,W.nsIn K mainGlobals d.2 with
 | some (some (.ref f)),some (some (.ref g))=>f==g
 | _,_=>false
def DM(K:W.Frag)(T:Str)(rows:List (Str×Str)):Option (Value×Option Addr×Array (Option Value)×List (Option Str×Int)×Bool):=match W.nsIn K mainGlobals T with
 | some (some (.ref a))=>(match K.lookup a with
  | some ⟨c,dd,.dict es _,sl⟩=>some (c,dd,sl,es.toList.map Am,rows.all (DL K a))
  | _=>none)
 | _=>none
noncomputable def yF(P:Params)(rows:List (Str×Str)):Option (Value×Option Addr×Array (Option Value)×List (Option Str×Int)×Bool):=some (.type "dict",none,#[],rows.map (λd=>(some d.1,PyData.keyHash P d.1)),true)
theorem oU{β:Type}{P:Params}:∀{es:List DictEntry} {rows:List (Str×β)},es.map Am=rows.map (λd=>(some d.1,PyData.keyHash P d.1))->W.KeysLit P es
 | [],_,_=>trivial
 | _::_,[],h=>by cases h
 | e::es,d::rows,h=>by
  rw[aO,aO,yA]at h;obtain⟨h1,h2⟩:=h;refine⟨?_,oU h2⟩;unfold Am at h1;rw[iP]at h1;obtain⟨h3,h4⟩:=h1;split at h3
  ·grind
  ·cases h3
def DN{K:W.Frag}{a:Addr}{d:Str×Str}(h:DL K a d=true):∃f,W.nsIn K a d.1=some (some (.ref f))/\W.nsIn K mainGlobals d.2=some (some (.ref f)):=by
 unfold DL at h;split at h
 ·grind
 ·cases h
def DO{K:W.Frag}{P:Params}{T:Str}{rows:List (Str×Str)}(h:DM K T rows=yF P rows):BQ K P T rows:=by
 unfold DM yF at h;split at h
 ·rename_i a hn;split at h
  ·rename_i c dd es n sl hl;have h:=bC h;simp only[iP]at h;obtain⟨rfl,rfl,rfl,h4,h5⟩:=h;exact VE hn hl (oU h4) λd hd=>DN (eF.mp h5 d hd)
  ·cases h
 ·cases h
abbrev HK:=Option (Value×Option Addr×Array (Option Value)×List (Option Str×Int)×Bool)
noncomputable def ud(K:W.Frag)(f:Addr)(qual:Str):Option FuncData:=match K.lookup f with
 | some ⟨_,_,.func fd,_⟩=>(match W.codeIn K fd.code qual with
  | true=>some {fd with kwdefaults:=.none,doc:=.none,pyModule:=.none,annotations:=none,code:=.none,closureTuple:=.none}
  | false=>none)
 | _=>none
def An(x qual:Str)(st:Stmt):FuncData:=W.fnOf x qual (dI st) (bO st) (ar st) .none .none .none .none none .none .none
def rp{K:W.Frag}{x qual:Str}{st:Stmt}{f:Addr}(h:ud K f qual=some (An x qual st)):∃fd,KC K x qual st f fd:=by
 unfold ud at h;split at h
 ·rename_i oc od fd oR hl;split at h
  ·rename_i hc;have h:=bC h;obtain⟨a1,a2,a3,a4,a5,a6,a7,a8,a9,YL,YM,YN,YO,YQ,a15⟩:=fd;unfold An at h;simp only[FuncData.mk.injEq]at h;obtain⟨e1,e2,e3,e4,e5,e6,e7,e8,-,-,-,-,-,-,VF⟩:=h;subst e1 e2 e3 e4 e5 e6 e7 e8 VF;exact⟨_,LV hl hc (by unfold W.keepIn;dsimp only;rw[hl])⟩
  ·cases h
 ·cases h
abbrev L5:=Option (Bool×Option FuncData)
def DP(K:W.Frag)(d:Str×(Str×Str×Stmt)):L5:=match W.nsIn K mainGlobals d.2.1 with
 | some (some (.ref a))=>(match W.findIn K (.ref a) d.2.2.1 with
  | some (some (.ref f))=>some (W.isFn K (.ref f)&&W.keepIn K (.ref f),ud K f d.1)
  | _=>none)
 | _=>none
def yG(d:Str×(Str×Str×Stmt)):L5:=some (true,some (An d.2.2.1 d.1 d.2.2.2))
def DQ(P:Pg):Prop:=∀(kV doc pm:Value) (an:Option Addr) (cF ct:Value) (u:Nat->Value),
 P.fR.map (λd=>bindArgs (W.fnOf d.2.2.1 d.1 (dI d.2.2.2) (bO d.2.2.2) (ar d.2.2.2) .none kV doc pm an cF ct) ⟨(List.range (params d.2.2.2).length).map u,[]⟩)=P.fR.map λd=>pure ((params d.2.2.2).zip ((List.range (params d.2.2.2).length).map u))
noncomputable def DR(K:W.Frag)(C:Str):Option (Bool×OV×OV):=match W.nsIn K mainGlobals C with
 | some (some (.ref a))=>some (W.makesIn K a&&(W.keepIn K (.ref a)&&(W.plainGet K a Str.empty&&(W.hasDictIn K a&&W.plainOver K a))),W.findIn K (.ref a) "__setattr__",W.findIn K (.ref a) "__init__")
 | _=>none
noncomputable def yH:Option (Bool×OV×OV):=some (true,some (some (.builtin "object.__setattr__")),some (some (.builtin "object.__init__")))
def DS{K:W.Frag}{C:Str}(h:DR K C=yH):LZ K C:=by
 unfold DR yH at h;split at h
 ·rename_i a hn;have h:=bC h;simp only[iP,aF]at h;obtain⟨⟨h1,h2,h3,h4,h5⟩,h6,h7⟩:=h;exact⟨a,hn,⟨h3,h4,h5,h6⟩,⟨h1,h7,h2⟩⟩
 ·cases h
abbrev L6:=Option (Bool×OV×List OV×Option FuncData)
def DT(K:W.Frag)(flds:List Str)(C:Str):L6:=match W.nsIn K mainGlobals C with
 | some (some (.ref a))=>(match W.findIn K (.ref a) "__init__" with
  | some (some (.ref f))=>some (W.makesIn K a&&(W.isFn K (.ref f)&&(W.keepIn K (.ref a)&&(W.plainGet K a Str.empty&&(W.hasDictIn K a&&W.plainOver K a)))),W.findIn K (.ref a) "__setattr__",flds.map (λg=>W.findIn K (.ref a) g),ud K f (C++".__init__"))
  | _=>none)
 | _=>none
def yI(flds:List Str)(C:Str)(st:Stmt):L6:=some (true,some (some (.builtin "object.__setattr__")),flds.map (λ_=>some none),some (An "__init__" (C++".__init__") st))
noncomputable def ue:List Str->Bool
 | []=>true
 | x::r=>!r.contains x&&ue r
theorem rA:∀{l:List Str},ue l=true->l.Nodup
 | [],_=>oI
 | x::r,h=>by
  simp only[ue,aF,ym,List.contains_eq_mem,decide_eq_false_iff_not]at h;exact l0.mpr ⟨h.1,rA h.2⟩
noncomputable def VG:Option NameKind->Bool
 | some .local=>true
 | some .cell=>true
 | _=>false
noncomputable def Qx:NameKind->Bool
 | .free=>false
 | _=>true
noncomputable def Qy:ScopeKind->Bool
 | .function=>true
 | _=>false
def Hk(st:Stmt):Bool:=Qy (ar st).kind&&(!(ar st).isCoroutine&&(!(ar st).isGenerator&&(ue (bK st)&&((params st).all (λx=>VG ((ar st).names.lookup x))&&(ar st).names.all λy=>Qx y.2))))
def yJ{st:Stmt}(h:Hk st=true):cA (bK st) (params st) (ar st):=by
 unfold Hk at h;rw[aF,aF,aF,aF,aF]at h;obtain⟨h1,h2,h3,h4,h5,h6⟩:=h;refine⟨?_,by grind,by grind,rA h4,?_,λx hx=>?_,λy hy=>?_⟩
 ·cases z:(ar st).kind<;>rw[z]at h1<;>first | rfl | cases h1
 ·exact List.take_left
 ·have k:=eF.mp h5 x hx;cases z:(ar st).names.lookup x with
  | none=>rw[z]at k;cases k
  | some b =>
   rw[z]at k;cases b<;>first | exact .inl rfl | exact .inr rfl | cases k
 ·have k:=eF.mp h6 y hy;intro z;rw[z]at k;cases k
def DU(P:Pg):Prop:=∀(kV doc pm:Value) (an:Option Addr) (cF ct:Value) (u:Nat->Value),
 P.defs.map (λd=>bindArgs (W.fnOf d.1 d.1 (dI d.2) (bO d.2) (ar d.2) .none kV doc pm an cF ct) ⟨(List.range (params d.2).length).map u,[]⟩)=P.defs.map λd=>pure ((params d.2).zip ((List.range (params d.2).length).map u))
def fS{us:List Value}{n:Nat}(h:us.length=n):(List.range n).map (λi=>us.getD i .none)=us:=by
 subst h;apply List.ext_getElem
 ·simp
 ·intro i h1 h2;simp[h2]
def L8(x:Str)(st:Stmt)(n:Nat):Prop:=∀(T:Addr) (kV doc pm:Value) (an:Option Addr) (cF ct:Value) (u v:Nat->Value),
 (∃k,bindArgs (W.fnOf x x (dI st) (bO st) (ar st) (.ref T) kV doc pm an cF ct) ⟨(List.range (params st).length).map u,[]⟩=seqItems? (.ref T) >>= k/\k (some ((List.range n).map v).toArray)=pure ((params st).zip ((List.range (params st).length).map u))) /\
 (∃k,bindArgs (W.fnOf x x (dI st) (bO st) (ar st) (.ref T) kV doc pm an cF ct) ⟨(List.range ((params st).length-n)).map u,[]⟩=seqItems? (.ref T) >>= k/\k (some ((List.range n).map v).toArray)=pure ((params st).zip ((List.range ((params st).length-n)).map u++(List.range n).map v)))
def KH(P:Pg):Prop:=∀d∈P.defs,∀ds,P.jo.lookup d.1=some ds->L8 d.1 d.2 ds.length
def HL{K:W.Frag}{x:Str}{st:Stmt}{f T:Addr}{fd:FuncData}{us:List Value}{n:Nat}{sl:Array (Option Value)}(F:qS K x x st f fd (.ref T))(hT:K.lookup T=some ⟨.type "tuple",none,.seq us.toArray n,sl⟩)(D:L8 x st us.length):cz K fd (params st) []/\cz K fd (params st) us:=by
 obtain⟨oc,od,kV,doc,pm,an,cF,ct,oR,rfl,lk,xM⟩:=F.ex;refine⟨λs ws X hl=>?_,λs ws X hl=>?_⟩
 ·rw[cX]at hl ⊢;obtain⟨⟨k,e1,e2⟩,_⟩:=D T kV doc pm an cF ct (λi=>ws.getD i .none) (λi=>us.getD i .none)
  rw[fS hl]at e1 e2;rw[fS rfl]at e2;exact BindsTo.of_defaults rfl (X _ _ hT) rfl e1 e2
 ·obtain⟨_,⟨k,e1,e2⟩⟩:=D T kV doc pm an cF ct (λi=>ws.getD i .none) (λi=>us.getD i .none)
  rw[bA]at hl;rw[fS (show ws.length=(params st).length-us.length by lia)]at e1 e2
  rw[fS rfl]at e2;exact BindsTo.of_defaults rfl (X _ _ hT) rfl e1 e2
def DV{K:W.Frag}{x:Str}{st:Stmt}{f:Addr}{fd:FuncData}{P:Pg}(hb:DU P)(hd:(x,st)∈P.defs)(F:qS K x x st f fd .none)(us:List Value)(hl:us.length=(params st).length):bindArgs fd ⟨us,[]⟩=pure ((params st).zip us):=by
 obtain⟨oc,od,kV,doc,pm,an,cF,ct,oR,rfl,lk,xM⟩:=F.ex;have k:=gz.mp (hb kV doc pm an cF ct λi=>us.getD i .none) (x,st) hd
 dsimp only at k
 rw[fS hl]at k;exact k
def L9(P:Pg):Prop:=∀(kV doc pm:Value) (an:Option Addr) (cF ct:Value) (u:Nat->Value),
 P.cls.map (λd=>bindArgs (W.fnOf "__init__" (d.1++".__init__") (dI d.2) (bO d.2) (ar d.2) .none kV doc pm an cF ct) ⟨(List.range (params d.2).length).map u,[]⟩)=P.cls.map λd=>pure ((params d.2).zip ((List.range (params d.2).length).map u))
def DW{K:W.Frag}{P:Pg}{C:Str}{st:Stmt}(Qz:Hk st=true)(hb:L9 P)(hd:(C,st)∈P.cls)(h:DT K P.flds C=yI P.flds C st):LX K C st P.flds:=by
 unfold DT yI at h;split at h
 ·rename_i a hn;split at h
  ·rename_i f hf;have h:=bC h;simp only[iP,aF]at h;obtain⟨⟨h1,h2,h3,h4,h5,h6⟩,h7,h8,h9⟩:=h;obtain⟨fd,F⟩:=rp h9;refine⟨a,f,fd,hn,⟨h1,hf,h2,h3⟩,⟨h4,h5,h6,h7⟩,λg hg=>gz.mp h8 g hg,F,λus hl=>?_,yJ Qz⟩
   obtain⟨oc,od,kV,doc,pm,an,cF,ct,oR,rfl,lk,xM⟩:=F.ex;have k:=gz.mp (hb kV doc pm an cF ct λi=>us.getD i .none) (C,st) hd
   dsimp only at k
   rw[fS hl]at k;exact k
  ·cases h
 ·cases h
def DX{K:W.Frag}{P:Pg}{d:Str×(Str×Str×Stmt)}(Qz:Hk d.2.2.2=true)(hb:DQ P)(hd:d∈P.fR)(h:DP K d=yG d):LY K d:=by
 unfold DP yG at h;split at h
 ·rename_i a hn;split at h
  ·rename_i f hf;have h:=bC h;simp only[iP,aF]at h;obtain⟨⟨h1,h2⟩,h3⟩:=h;obtain⟨fd,F⟩:=rp h3;refine⟨a,f,fd,.none,hn,⟨hf,h1,h2⟩,⟨F.ex,F.kp⟩,.all λus hl=>?_,yJ Qz⟩
   obtain⟨oc,od,kV,doc,pm,an,cF,ct,oR,rfl,lk,xM⟩:=F.ex;have k:=gz.mp (hb kV doc pm an cF ct λi=>us.getD i .none) d hd
   rw[fS hl]at k;exact k
  ·cases h
 ·cases h
def yK(K:W.Frag)(h:Heap)(x:Str):Bool:=match W.tabIn K x with
 | none=>true
 | some (c,T)=>W.codeHdIn K c T&&(match h.get? T with
  | some o=>BR o
  | _=>false)
noncomputable def Ma(K:W.Frag):Bool:=match W.nsIn K mainGlobals "__builtins__" with
 | some (some (.ref bm))=>!(bm==builtinsNs)&&(!(bm==mainGlobals)&&(match K.lookup bm with
  | some ⟨.type m,some d,.plain,_⟩=>(m=="module")&&(d==builtinsNs)
  | _=>false))
 | _=>false
def DY(P:Pg)(K:W.Frag)(h:Heap):Bool:=dq.all (yK K h)&&(decide (dq.filterMap λx=>(W.tabIn K x).map (·.2)).Nodup&&((P.qT.isEmpty || Ma K)&&P.qT.all λx=>dq.contains x&&(W.tabIn K x).isSome))
def rD{h:Heap}{x:Str}{c T:Addr}(e:yK (dG h) h x=true)(t:W.tabIn (dG h) x=some (c,T)):W.codeHdIn (dG h) c T=true/\h.get? T=some {cls:=.none,data:=.fields #[]}/\(dG h).lookup T=none:=by
 unfold yK at e;rw[t]at e;simp only[aF]at e;obtain⟨h1,h3⟩:=e;split at h3
 ·rename_i o ho;refine⟨h1,?_,?_⟩
  ·unfold BR at h3;split at h3
   ·grind
   ·cases h3
  ·cases k:(dG h).lookup T with
   | none=>rfl
   | some o' =>
    obtain⟨k1,k2⟩:=fI _ _ _ _ k;rw[ho]at k1;cases k1;rw[h3]at k2;cases k2
 ·cases h3
def HM{K:W.Frag}(e:Ma K=true):DE K:=by
 unfold Ma at e;split at e
 ·rename_i bm hb;simp only[aF]at e;obtain⟨h1,h2,h3⟩:=e;split at h3
  ·rename_i m d sl z;rw[aF]at h3;obtain rfl:=aR h3.1;obtain rfl:=aR h3.2;exact⟨bm,_,hb,by grind,by grind,z,rfl,rfl,rfl⟩
  ·cases h3
 ·cases e
def DZ{P:Pg}{h:Heap}(e:DY P (dG h) h=true):kD (dG h) h/\(∀x∈P.qT,L0 (dG h) x)/\(P.qT≠[]->DE (dG h)):=by
 unfold DY at e;simp only[aF]at e;obtain⟨h1,h2,h3,h4⟩:=e;have all:=eF.mp h1;refine⟨⟨λx hx c T t=>rD (all x hx) t,gS h2⟩,λx hx=>?_,λz=>?_⟩
 ·have:=eF.mp h4 x hx;rw[aF]at this;have hm:x∈dq:=by grind
  cases t:W.tabIn (dG h) x with
  | none=>rw[t]at this;cases this.2
  | some cT=>exact⟨hm,cT.1,cT.2,t,(rD (all x hm) t).1⟩
 ·rcases Bool.or_eq_true_iff.mp h3 with y | y
  ·grind
  ·exact HM y
def yL(K:W.Frag)(T:Str)(rows:List (Str×PV)):HK:=match W.nsIn K mainGlobals T with
 | some (some (.ref a))=>(match K.lookup a with
  | some ⟨c,dd,.dict es _,sl⟩=>some (c,dd,sl,es.toList.map Am,!(a==sysModules)&&rows.all (Ak K a))
  | _=>none)
 | _=>none
noncomputable def uf(P:Params)(rows:List (Str×PV)):HK:=some (.type "dict",none,#[],rows.map (λd=>(some d.1,PyData.keyHash P d.1)),true)
def BU{K:W.Frag}{P:Params}{T:Str}{rows:List (Str×PV)}(h:yL K T rows=uf P rows):vI K P T rows:=by
 unfold yL uf at h;split at h
 ·rename_i a hn;split at h
  ·rename_i c dd es n sl hl;have h:=bC h;simp only[iP]at h;obtain⟨rfl,rfl,rfl,h4,h5⟩:=h;rw[aF,ym]at h5;exact⟨a,es,n,h5.1,hn,hl,oU h4,λd hd=>vJ (eF.mp h5.2 d hd)⟩
  ·cases h
 ·cases h
abbrev Mb:=List (Option FuncData)×Bool×List HK×List L6×List HK×List L5×List (Option (Bool×OV×OV))
def yM(P:Pg)(K:W.Frag)(hp:Heap):Mb:=(P.defs.map (λd=>DG hp d.1),P.cons.all (Ak K mainGlobals)&&(P.cY.all (DJ K)&&(DY P K hp&&P.defs.all λd=>L4 K P.jo d.1)),P.tabs.map (λd=>DM K d.1 d.2),P.cls.map (λd=>DT K P.flds d.1),P.d7.map (λd=>yL K d.1 d.2),P.fR.map (DP K),P.vA.map (DR K))
def yN(P:Pg)(w:World):Mb:=(P.defs.map (λd=>some (DI d.1 d.2)),true,P.tabs.map (λd=>yF w.params d.2),P.cls.map (λd=>yI P.flds d.1 d.2),P.d7.map (λd=>uf w.params d.2),P.fR.map yG,P.vA.map λ_=>yH)
structure YR (P:Pg):Prop where
 sc:P.defs.all (λd=>Hk d.2)=true
 bd:DU P
 sc2:P.cls.all (λd=>Hk d.2)=true
 bd2:L9 P
 sc3:P.fR.all (λd=>Hk d.2.2.2)=true
 bd3:DQ P
 df:KH P
theorem oV:∀{ps:List PV} {us:List Value},j5 ps us=true->ps.length=us.length
 | [],[],_=>rfl
 | [],_::_,h=>by cases h
 | _::_,[],h=>by cases h
 | p::ps,u::us,h=>by
  have h:=(ox.mp h).2;rw[cw,cw,oV h]
def BV{P:Pg}{w:World}(B:YR P){hp:Heap}(h:yM P (dG hp) hp=yN P w):DF P w (dG hp)/\kD (dG hp) hp:=by
 unfold yM yN at h;simp only[iP]at h;obtain⟨h1,h2,h5,h6,h7,h8,h9⟩:=h;rw[aF,aF,aF]at h2;obtain⟨l1,l2,l3⟩:=DZ h2.2.2.1;refine⟨⟨λd hd=>?_,λd hd=>DX (eF.mp B.sc3 d hd) B.bd3 hd (gz.mp h8 d hd),λC hC=>DS (gz.mp h9 C hC),λd hd=>vJ (eF.mp h2.1 d hd),λx hx=>DK (eF.mp h2.2.1 x hx),λd hd=>DO (gz.mp h5 d hd),λd hd=>DW (eF.mp B.sc2 d hd) B.bd2 hd (gz.mp h6 d hd),λd hd=>BU (gz.mp h7 d hd),l2,l3⟩,l1⟩
 obtain⟨f,fd,dV,a,F,D⟩:=HJ (jo:=P.jo) (DH (gz.mp h1 d hd)) (eF.mp h2.2.2.2 d hd);refine⟨⟨f,fd,dV,a,F,?_⟩,yJ (eF.mp B.sc d hd)⟩;rcases D with⟨rfl,hn⟩ | ⟨ds,T,us,n,sl,e1,rfl,e3,e4⟩
 ·exact⟨.all λus hl=>DV B.bd hd F us hl,λds e=>(by rw[hn]at e;cases e),λ_ us hl=>DV B.bd hd F us hl⟩
 ·obtain⟨us⟩:=us;obtain⟨vs,r,b⟩:=Ai (K:=dG hp) e4;have b2:=HL F e3 (by rw[<-oV e4];exact B.df d hd ds e1)
  refine⟨b2.1,λds' e=>?_,λe=>by rw[e1]at e;cases e⟩
  rw[e1]at e;cases e;exact⟨vs,us,r,b,b2.2⟩
def HN(P:Pg)(B:YR P):W.Hook :=
 ⟨Mb,λs=>yM P (dG s.heap) s.heap,λw=>yN P w,λw h=>∃K:W.Frag,K.In h/\DF P w K/\kD K h,λw s e=>⟨_,BS _ _,BV B e⟩,λ_ _ _ ⟨K,a,b,c⟩ k=>⟨K,a.keeps k,b,c.keeps k⟩⟩
noncomputable def BW(p:Program)(row:String)(b:Bool)(N:Nat)(w:World):Option Shared:=(W.fencedOpening treeTable p w N).bind λs₀=>W.topFrom treeTable p (w.withFollow row b) N s₀
def BX{p q:Program}{loose:List Str}{Xt:Shared->Bool}{α:Type}{Yf:Shared->α}{Ya:World->α}{N:Nat}{g0:Bool}(row:String)
  (h1:∀w,(BW p row false N w).map (W.openSeen q loose (importedModules p.main.body) Xt g0)=some (W.openGood q loose)) (h2:∀w,(BW p row true N w).map (W.openSeen q loose (importedModules p.main.body) Xt g0)=some (W.openGood q loose))
  (h3:∀w,(BW p row false N w).map Yf=some (Ya (w.withFollow row false))) (h4:∀w,(BW p row true N w).map Yf=some (Ya (w.withFollow row true))):W.LeftO p q loose Xt Yf Ya N g0:=by
 refine W.LeftO.of_split row λw=>?_
 obtain⟨sA,a1,a2⟩:=jO.mp (h1 w);obtain⟨sB,b1,b2⟩:=jO.mp (h2 w);obtain⟨sC,c1,c2⟩:=jO.mp (h3 w);obtain⟨sD,d1,d2⟩:=jO.mp (h4 w);rw[a1]at c1;rw[b1]at d1;cases c1;cases d1;obtain⟨s0,f0,tA⟩:=Option.bind_eq_some_iff.mp a1;obtain⟨s1,f1,tB⟩:=Option.bind_eq_some_iff.mp b1;rw[f0]at f1;cases f1;rw[f0,yy,tA,tB,yy,yy,a2,b2,c2,d2]
end L2.U
noncomputable section
namespace L2.U
open PySem PySem.W
def topQ(p:Program)(w:World)(m:Nat)(P1:Option Value):Nat->SharedT->Thread->Option SharedT
 | 0,_,_=>none
 | n+1,s,t=>match through t with
  | true=>some s
  | false=>match Fast.tw6613529449190102663 m P1 t with
   | false=>none
   | true=>match Fast.tw10156331382660048174 (Fast.tw11892475500146522536 Fast.tw14364793385576792824) p w s t with
    | some (s',t')=>topQ p w m P1 n s' t'
    | none=>none
theorem topQ_of{p:Program}{w:World}{m:Nat}{P1:Option Value}:∀{n:Nat} {s r:SharedT} {t:Thread},topQ p w m P1 n s t=some r->topRun treeTable p w m P1 n s.abs t=some r.abs
 | 0,_,_,_,h=>by cases h
 | n+1,s,r,t,h=>by
  unfold topQ at h;unfold topRun;rw[<-Fast.te6613529449190102663,<-Fast.te10156331382660048174,<-Fast.te11892475500146522536,<-Fast.te14364793385576792824]at h;cases a:through t with
  | true=>rw[a]at h;cases h;rfl
  | false =>
   rw[a]at h;cases b:stepOk m P1 t with
   | false=>rw[b]at h;cases h
   | true =>
    rw[b]at h;cases c:stepT (denote treeTable) p w s t with
    | none=>rw[c]at h;cases h
    | some y=>rw[c]at h;rw[stepT_spec c];exact topQ_of h
noncomputable def QA(l:List Obj):BT:=(l.foldl (fun(x:BT×Nat) o=>(x.1.ins x.2 o,x.2+1)) (.nil,0)).1
theorem HP(P:Params):absHeap (QA (boot_heap P).objs.toList) (boot_heap P).objs.size (boot_heap P).life=boot_heap P:=by kernel_rfl
theorem HQ(P:Params):(boot_heap P).isNs mainGlobals=true:=by kernel_rfl
def D0(p:Program)(row:String)(b:Bool)(N:Nat)(w:World)(os:OsState):Option SharedT :=
 topQ p (w.withFollow row b) (boot_heap w.params).objs.size ((boot_heap w.params).nsMap mainGlobals "__annotations__") N ⟨QA (boot_heap w.params).objs.toList,(boot_heap w.params).objs.size,(boot_heap w.params).life,.mk [],boot_drawn,boot_toks,os⟩ (topStub p)
def P2(p:Program)(w:World)(s:SharedT):Bool:=staticsOk (importedModules p.main.body) (boot_heap w.params) s.abs.heap&&namesBound p s.abs.heap&&gensDone s.abs&&laidKept (boot_heap w.params) s.abs.heap
theorem nN{p:Program}{row:String}{b:Bool}{N:Nat}{w:World}{α:Type}{g:Shared->α}{a:α}(e:opening p=plainProg p.main.scope.names)(hN:Nat.ble 600 N=true)(f:∀s,fenceModules? p s=some s)
 (h:∀os,(D0 p row b N w os).map (λs=>(P2 p w s,g s.abs))=some (true,a)):(BW p row b N w).map g=some a:=by
 obtain⟨⟨hp,gs,d,k,os⟩,h1,h2⟩:=jO.mp (boot_open e hN f w);obtain⟨rfl,rfl,rfl,rfl⟩:hp=boot_heap w.params/\gs=.mk []/\d=boot_drawn/\k=boot_toks:=by simpa using h2
 obtain⟨s,h3,h4⟩:=jO.mp (h os);have h5:=topQ_of h3;unfold SharedT.abs at h5;rw[HP]at h5;unfold BW;rw[h1];show Option.map g (topFrom treeTable p (w.withFollow row b) N _)=_;unfold topFrom;dsimp only
 rw[HQ,h5];have h6:=(Prod.mk.inj h4).1;unfold P2 SharedT.abs at h6;show Option.map g (match staticsOk (importedModules p.main.body) (boot_heap w.params) (absHeap s.tree s.n s.life)&&namesBound p (absHeap s.tree s.n s.life)&&gensDone ⟨absHeap s.tree s.n s.life,s.gens,s.drawn,s.toks,s.os⟩&&laidKept (boot_heap w.params) (absHeap s.tree s.n s.life)with | true=>_ | false=>_)=_
 rw[h6];exact dm some (Prod.mk.inj h4).2
theorem Mc{p q:Program}{loose:List Str}{Xt:Shared->Bool}{α:Type}{Yf:Shared->α}{Ya:World->α}{N:Nat}{g0:Bool}(row:String)(e:opening p=plainProg p.main.scope.names)(hN:Nat.ble 600 N=true)(f:∀s,fenceModules? p s=some s)
 (h0:∀w os,(D0 p row false N w os).map (λs=>(P2 p w s,openSeen q loose (importedModules p.main.body) Xt g0 s.abs,Yf s.abs))=some (true,openGood q loose,Ya (w.withFollow row false)))
 (h1:∀w os,(D0 p row true N w os).map (λs=>(P2 p w s,openSeen q loose (importedModules p.main.body) Xt g0 s.abs,Yf s.abs))=some (true,openGood q loose,Ya (w.withFollow row true))):LeftO p q loose Xt Yf Ya N g0:=by
 have fs:∀{β γ δ:Type} {o:Option δ} {a:δ->β} {b:δ->γ} {x:β} {y:γ},o.map (λs=>(a s,b s))=some (x,y)->o.map a=some x/\o.map b=some y:=λ{_ _ _ o _ _ _ _} h=>by
  cases o with
  | none=>cases h
  | some s=>cases h;exact⟨rfl,rfl⟩
 exact BX row (λw=>(fs (nN e hN f λos=>h0 w os)).1) (λw=>(fs (nN e hN f λos=>h1 w os)).1) (λw=>(fs (nN e hN f λos=>h0 w os)).2) λw=>(fs (nN e hN f λos=>h1 w os)).2
end L2.U
namespace bS
open PySem L2 L2.U
noncomputable def top(i:Nat):Stmt:=PySem.Challenge.pw_lendrule_k60_plain_straight.main.body.getD i (.Pass ⟨0,0,0,0⟩)
def HR(i j:Nat):Stmt:=match top i with | .ClassDef _ _ _ b _ _ _ _ _ _ _=>b.getD j (.Pass ⟨0,0,0,0⟩) | s=>s
abbrev Ao:Stmt:=HR 54 0
abbrev KI:Stmt:=HR 55 0
abbrev Ap:Stmt:=HR 77 0
abbrev iT:Stmt:=HR 78 0
abbrev kE:Stmt:=HR 78 1
abbrev iU:Stmt:=HR 78 2
abbrev iV:Stmt:=HR 78 3
abbrev qU:Stmt:=HR 78 4
abbrev iu:Stmt:=HR 78 5
noncomputable def fT:List (Str×Str):=[("put","put_acts"),("set","set_acts"),("fill","put_acts"),("copy","copy_acts"),("move","move_acts"),("drop","drop_acts"),("lend","lend_acts"),("sole","lend_acts"),("call","call_acts"),("if","if_acts"),("go","go_acts"),("say","say_acts"),("give","give_acts")]
def aP:Pg where
 defs:=([("leaves",5),("check_part",6),("part",7),("first",8),("is_copied",9),("blank",10),("kind_of",13),("is_holder",14),("shape_of",15),("acts",27),("is_lending",28),("touch",29),("touch_whole",30),("at_acts",31),("operand_acts",32),("target_acts",33),("put_acts",34),("set_acts",35),("copy_acts",36),("move_acts",37),("drop_acts",38),("lend_acts",39),("call_acts",40),("arg_act",41),("owner_act",42),("if_acts",43),("go_acts",44),("say_acts",45),("give_acts",46),("pieces",50),("operands",51),("acts_by_row",56),("row_of",57),("acts_of",58),("run_from_first",59),("begin",60),("run_on",61),("do_row",62),("row_behind",63),("do_acts",64),("do_act",65),("written",66),("strip_of",67),("number_put",68),("numbers_found",69),("do_call",70),("do_give",71),("given_back",72),("owned_by",73),("take_back",74),("played",76),("places_of",79),("taken_back",80),("_law_cell_at",82),("_law_whole",83),("_law_names",84),("_law_spot",85),("_law_operand",86),("_law_copied",87),("_law_row",88),("_law_program",89),("_law_begin",90),("_law_place",91),("_law_number",92),("_law_reckon",93),("_law_done",94),("_law_told",95),("law",96)]:List (String×Nat)).map λd=>(d.1,top d.2)
 cons:=[("HOLDER_WORDS",.aq [(.str "lent"),(.str "sole")]),("ROW",.int 0),("ACT",.int 1),("NAME",.int 2),("THROUGH",.int 3),("FIRST",.int 4),("MANY",.int 5),("TAKER",.int 6),("REST",.aq [(.str "rest"),(.str ""),(.bl false),(.int 0),(.int 0),(.str "")]),("HAND",.aq [(.str "hand"),(.str ""),(.bl false),(.int 0),(.int 0),(.str "")]),("LENDING",.aq [(.str "lend"),(.str "sole")]),("MOST_BEGUN",.int 12)]
 cY:=["bool","dict","enumerate","int","isinstance","len","list","range","str","sum","tuple","zip"]
 tabs:=[("MAKERS",fT)]
 cls:=[("Frame",Ao),("Run",KI),("Place",Ap)]
 fR:=[(("Places.owned":Str),"Places","owned",iT),(("Places.let":Str),"Places","let",kE),(("Places.touch":Str),"Places","touch",iU),(("Places.store":Str),"Places","store",iV),(("Places.lend":Str),"Places","lend",qU),(("Places.let_go":Str),"Places","let_go",iu)]
 jo:=[("played",[.int 400])]
 vA:=["Places"]
 flds:=["at","has","row","program","world","numbers","listed","frames","said","count","value","away"]
 d7:=[("SORTS",[("put",.aq [(.str "spot"),(.str "operand")]),("set",.aq [(.str "spot"),(.str "sign"),(.str "operand"),(.str "operand")]),("fill",.aq [(.str "spot"),(.str "operand")]),("copy",.aq [(.str "spot"),(.str "spot")]),("move",.aq [(.str "spot"),(.str "spot")]),("drop",.aq [(.str "spot")]),("lend",.aq [(.str "name"),(.str "spot")]),("sole",.aq [(.str "name"),(.str "spot")]),("call",.aq [(.str "name"),(.str "function"),(.str "args")]),("if",.aq [(.str "operand"),(.str "operand"),(.str "row")]),("go",.aq [(.str "row")]),("say",.aq [(.str "operand")]),("give",.aq [(.str "name")])])]
 qT:=[]
 Qu:=[(("leaves":Str),[(("told":Str),1)]),(("acts":Str),[(("told":Str),1)]),(("call_acts":Str),[(("told":Str),1)]),(("acts_by_row":Str),[(("told":Str),2)]),(("run_from_first":Str),[(("run":Str),1),(("[return]":Str),1)]),(("begin":Str),[(("has":Str),1),(("frames":Str),2)]),(("run_on":Str),[(("run":Str),1),(("frames":Str),1)]),(("do_row":Str),[(("frame":Str),1),(("run":Str),1),(("frames":Str),1),(("said":Str),1)]),(("do_acts":Str),[(("[return]":Str),7),(("found":Str),1)]),(("do_act":Str),[(("has":Str),1)]),(("numbers_found":Str),[(("numbers":Str),1)]),(("do_give":Str),[(("frames":Str),1)]),(("given_back":Str),[(("has":Str),1)]),(("owned_by":Str),[(("has":Str),1)]),(("take_back":Str),[(("frame":Str),1),(("has":Str),1)]),(("played":Str),[(("going":Str),1),(("said":Str),1)]),(("places_of":Str),[(("has":Str),1)]),(("taken_back":Str),[(("place":Str),1)]),(("_law_names":Str),[(("_law_names_here":Str),1)]),(("_law_program":Str),[(("_law_rows":Str),1)]),(("_law_begin":Str),[(("_law_kept":Str),1),(("[return]":Str),1)]),(("_law_done":Str),[(("_law_kept":Str),1)]),(("law":Str),[(("_law_early":Str),1),(("_law_said":Str),1),(("_law_kept":Str),1)]),(("Places.owned":Str),[(("[return]":Str),21)]),(("Places.touch":Str),[(("place":Str),1)]),(("Places.store":Str),[(("place":Str),1)]),(("Places.lend":Str),[(("taken":Str),21),(("place":Str),1)]),(("Frame":Str),[(("has":Str),1)]),(("Run":Str),[(("frames":Str),2),(("said":Str),1)])]
section
end
end bS
set_option maxHeartbeats 2000000
set_option maxHeartbeats 2000000
set_option maxHeartbeats 2000000
set_option maxHeartbeats 2000000
set_option maxHeartbeats 2000000
set_option maxHeartbeats 2000000
set_option maxHeartbeats 4000000
set_option maxHeartbeats 2000000
set_option maxHeartbeats 2000000
set_option maxHeartbeats 4000000
set_option maxHeartbeats 4000000
set_option maxHeartbeats 2000000
set_option maxHeartbeats 4000000
set_option maxHeartbeats 2000000
set_option maxHeartbeats 4000000
set_option maxHeartbeats 4000000
set_option maxHeartbeats 4000000
set_option maxHeartbeats 4000000
set_option maxHeartbeats 4000000
set_option maxHeartbeats 4000000
set_option maxHeartbeats 4000000
set_option maxHeartbeats 4000000
set_option maxHeartbeats 4000000
set_option maxHeartbeats 4000000
set_option maxHeartbeats 4000000
set_option maxHeartbeats 4000000
set_option maxHeartbeats 4000000
set_option maxHeartbeats 4000000
set_option maxHeartbeats 4000000
set_option maxHeartbeats 4000000
set_option maxHeartbeats 4000000
set_option maxHeartbeats 4000000
set_option maxHeartbeats 4000000
set_option maxHeartbeats 4000000
set_option maxHeartbeats 4000000
set_option maxHeartbeats 4000000
set_option maxHeartbeats 4000000
set_option maxHeartbeats 4000000
set_option maxHeartbeats 4000000
set_option maxHeartbeats 4000000
noncomputable section
namespace bS
open PySem L2 L2.U
theorem Qz:aP.defs.all (λd=>Hk d.2)=true:=by kernel_rfl
theorem hbd:DU aP:=by
 intro kV doc pm an cF ct u;kernel_rfl
theorem VH:aP.cls.all (λd=>Hk d.2)=true:=by kernel_rfl
theorem VI:L9 aP:=by
 intro kV doc pm an cF ct u;kernel_rfl
theorem VJ:aP.fR.all (λd=>Hk d.2.2.2)=true:=by kernel_rfl
theorem VL:DQ aP:=by
 intro kV doc pm an cF ct u;kernel_rfl
theorem YS:(aP.defs.map (·.1)++aP.fR.map (·.1)).Nodup:=by decide +kernel
theorem oW:aP.defs.lookup ("played":Str)=some (top 76):=by kernel_rfl
theorem VM:L8 "played" (top 76) 1:=by
 intro T kV doc pm an cF ct u v;exact⟨⟨_,rfl,rfl⟩,⟨_,rfl,rfl⟩⟩
theorem QB:KH aP:=by
 intro d hd ds e;have h:=jq (yl.mp YS).1 hd;have e:(match d.1==("played":Str)with | true=>some [PV.int 400] | false=>List.lookup d.1 [])=some ds:=e
 cases hc:d.1==("played":Str)
 ·rw[hc]at e;cases e
 ·rw[hc]at e;cases e;rw[gX.mp hc,oW]at h;have h:=bC h;rw[gX.mp hc,<-h];exact VM
noncomputable abbrev pp:Program:=W.OpenLaw.prog PySem.Challenge.rw_lendrule_k60_plain_straight
def qv:Program:=W.view pp [96]
def lo:List Str:=pp.boundNames.filter (· != "law")
def Xt(s:Shared):Bool:=W.xlAt qv [] s&&W.recOk (W.RowW.records (W.OpenRow.toRowW (W.OpenLaw.row PySem.Challenge.rw_lendrule_k60_plain_straight))) s
abbrev hk:W.Hook:=HN aP ⟨Qz,hbd,VH,VI,VJ,VL,QB⟩
theorem kq1(w:World)(os:OsState):(D0 pp "special-get-raises" false 7000 w os).map (λs=>(P2 pp w s,W.openSeen qv lo (importedModules pp.main.body) Xt true s.abs,W.Hook.obs hk s.abs))=some (true,W.openGood qv lo,W.Hook.val hk (w.withFollow "special-get-raises" false)):=by kernel_rfl
theorem kq2(w:World)(os:OsState):(D0 pp "special-get-raises" true 7000 w os).map (λs=>(P2 pp w s,W.openSeen qv lo (importedModules pp.main.body) Xt true s.abs,W.Hook.obs hk s.abs))=some (true,W.openGood qv lo,W.Hook.val hk (w.withFollow "special-get-raises" true)):=by kernel_rfl
theorem ws1:(W.OpenLaw.row PySem.Challenge.rw_lendrule_k60_plain_straight).wellSaid=true:=by kernel_rfl
theorem ws:W.OpenLaw.wellSaid PySem.Challenge.rw_lendrule_k60_plain_straight=true:=by
 unfold W.OpenLaw.wellSaid;rw[ws1];kernel_rfl
end bS
open PySem PySem.W PyProof.Rows PySem.Calls
set_option maxRecDepth 100000 in
set_option maxHeartbeats 0 in
theorem bS.jr(hc:∀d:DefRec,d.name="law"->d.params.defaults=[]->W.WalkO bS.qv bS.lo (XL bS.qv []) (Hook.says bS.hk) (W.OpenRow.toRowW (W.OpenLaw.row PySem.Challenge.rw_lendrule_k60_plain_straight)) d [] (λf vs=>PySem.call f vs)):PySem.Challenge.rw_lendrule_k60_plain_straight.Holds:=by
 w_on;refine W.holds_law bS.ws λbX=>?_
 refine W.holds_open (q:=bS.qv) (loose:=bS.lo) (Xt:=bS.Xt) (XP:=XL bS.qv []) (Yf:=Hook.obs bS.hk) (Ya:=Hook.val bS.hk) (YP:=Hook.says bS.hk) (N:=7000) (L2.U.Mc "special-get-raises" (by kernel_rfl) (by decide) (λ_=>rfl) bS.kq1 bS.kq2) (Hook.of _) (Hook.keeps _) (λs e=>xl_of s (ox.mp e).1) XL.keeps (by rfl) (by rfl) (by rfl) (λs e=>recFacts_of (ox.mp e).2) (by rfl) (by first | assumption | decide +kernel) (by decide +kernel) ⟨rfl,rfl,rfl,rfl,rfl,by decide +kernel⟩ ?hw (hc _ rfl rfl)
 case hw=>w_witness2
end
namespace PySem
open Sem (wp)
section
variable {prog:Program} {w:World} {K:Type} [DecidableEq K] (knd:KeyKind prog w K)
def dQ(h:Heap)(k:K×List K)(a:Addr):Prop:=∃o u b n,h.get? a=some o/\o.cls=.type "tuple"/\o.data=.seq #[u,.ref b] n/\knd.is k.1 u=true/\IsTupleKey knd h k.2 b
noncomputable def oX(k:K×List K):Int:=reduceHash (Builtin.Tuple.tupleHashOf [knd.hash k.1,tupleKeyHash knd k.2])
variable {knd}
theorem dQ.typeIs{s:Shared}{ks:K×List K}{a:Addr}(x:dQ knd s.heap ks a):s.TypeIs (.ref a) "tuple":=let ⟨o,_,_,_,ho,hc,_⟩:=x;⟨o,ho,hc⟩
theorem dQ.inj{h:Heap}{a:Addr}{x y:K×List K}(hx:dQ knd h x a)(hy:dQ knd h y a):x=y:=by
 obtain⟨o,u,b,n,ho,_,hd,hi,hj⟩:=hx;obtain⟨o',u',b',n',lM,_,Dl,hi',hj'⟩:=hy;obtain rfl:o=o':=bC (ho.symm.trans lM);rw[hd]at Dl;injection Dl with h1 _
 cases h1;exact Prod.ext (knd.inj _ _ _ hi hi') (hj.inj hj')
theorem dQ.keeps{h h':Heap}{ks:K×List K}{a d:Addr}{o:Obj}{es ep}(x:dQ knd h ks a)(ho:h.get? d=some o)(hd:o.data=.dict es ep)(hs:Heap.SameBut d h h'):dQ knd h' ks a:=by
 obtain⟨o',u,b,n,lM,hc,Dl,hi,hj⟩:=x;have hne:a≠d:=by
  rintro rfl
  obtain rfl:o'=o:=bC (lM.symm.trans ho);rw[hd]at Dl;exact nomatch Dl
 exact⟨o',u,b,n,(hs.2 a hne).trans lM,hc,Dl,hi,hj.keeps ho hd hs⟩
variable {A:Around} {E:Value->Shared->Prop} {s:Shared}
theorem kF{ks:K×List K}{a:Addr}{Q:Int->Shared->Prop}(hu:A.units+1<cLine)(hk:dQ knd s.heap ks a)(h:Q (oX knd ks) {s with toks:=s.toks+(ks.2.length+3)}) :
  wpAny (model prog w) A (pyHash (.ref a)) Q E s:=by
 have hT:=hk.typeIs;obtain⟨o,u,b,n,ho,_,hd,hi,hj⟩:=hk;unfold pyHash
 first | unfold pyHashByItsType | skip
 first | refine ai (wpAny_cRoomFor_or (.inr (by lia)) ?_) | skip
 refine ai (lZ hT tD.lookup ?_);show wpAny _ _ (if(some (Value.builtin "tuple.__hash__")==some Value.none)=true then _ else _) Q E s
 rw[if_neg (by rw[beq_builtin_none];exact bB)]
 refine ai (lZ hT tD.lookup ?_);show wpAny _ _ (callSpecialIfBoundUnlessNone? (.ref a) "__hash__" _ >>= _) Q E s;refine ai (wpAny_callSpecialIfBoundUnlessNone?_slot hT tD (eE tD hT F.entry_tuple_hash ?_ (F.args_tuple_hash_1 _)));show wpAny _ _ (Builtin.Tuple.tupleItemsOf (.ref a) >>= _) _ _ s;refine ai (yj ho hd ?_);refine ai ?_;rw[<-yk];refine tH _
  (λrest (c:Array Int) s'=>(rest=[u,.ref b]/\c.toList=[]/\s'=s)\/(rest=[.ref b]/\c.toList=[knd.hash ks.1]/\s'={s with toks:=s.toks+1})\/(rest=[]/\c.toList=[knd.hash ks.1,tupleKeyHash knd ks.2]/\s'={s with toks:=s.toks+(ks.2.length+2)}))
  _ ?_ ?_ _ _ (.inl ⟨rfl,rfl,rfl⟩)
 · rintro x rest c s' (⟨h1,h2,rfl⟩ | ⟨h1,h2,rfl⟩ | ⟨h1,_,_⟩)
   · cases h1
     refine ai (knd.pyHash hi ?_)
     first
      | exact ak (.inr (.inl ⟨rfl,by simp[h2],rfl⟩))
      | exact ai (ak (ak (.inr (.inl ⟨rfl,by simp[h2],rfl⟩))))
   · cases h1
     refine ai (wpAny_pyHash_tuple (s:={s with toks:=s.toks+1}) (by show A.in1.units<cLine;exact hu) hj ?_)
     have e:s.toks+1+(ks.2.length+1)=s.toks+(ks.2.length+2):=by lia
     first
      | exact ak (.inr (.inr ⟨rfl,by simp[h2],by rw[<-e]⟩))
      | exact ai (ak (ak (.inr (.inr ⟨rfl,by simp[h2],by rw[<-e]⟩))))
   · cases h1
 · rintro c s' (⟨h1,_,_⟩ | ⟨h1,_,_⟩ | ⟨_,h2,rfl⟩)
   · cases h1
   · cases h1
   · show wpAny _ _ (retInt (Builtin.Tuple.tupleHashOf c.toList)) _ _ _
     rw[h2];refine wpAny_ret_mkInt ?_;show wpAny _ _ (if(decide (-(2:Int)^63<=Builtin.Tuple.tupleHashOf [knd.hash ks.1,tupleKeyHash knd ks.2])&&decide (Builtin.Tuple.tupleHashOf [knd.hash ks.1,tupleKeyHash knd ks.2]<2^63))=true then _ else _) Q E _
     unfold oX reduceHash at h;have e:s.toks+(ks.2.length+2)+1=s.toks+(ks.2.length+3):=by lia
     split
     · rename_i hr
       rw[if_pos hr]at h;exact ak (by simpa[Nat.add_assoc]using h)
     · rename_i hr
       rw[if_neg hr]at h;exact ai (gW (ak (by simpa[Nat.add_assoc]using h)))
theorem ug{x y:K×List K}{a b:Addr}{P:Fin->Shared->Prop}(hu:A.units<cLine)(hx:dQ knd s.heap x a)(hy:dQ knd s.heap y b) (h:P (.done (.ret (.bool (decide (x=y))))) s) :
  wpAny (model prog w) A (Builtin.«tuple.__eq__» ⟨[.ref a,.ref b],[]⟩) P E s:=by
 have hTb:=hy.typeIs;obtain⟨oa,u,ba,na,hoa,_,hda,hia,hja⟩:=hx;obtain⟨ob,v,bb,nb,P4,_,vK,hib,hjb⟩:=hy;show wpAny _ _ (isInstance (.ref b) (.type "tuple") >>= _) _ _ s;refine ai (jT hTb ya ?_);simp only[gT,dO,cD];refine ai (yj hoa hda ?_);refine ai (yj P4 vK ?_);refine ai ?_;refine tH _
  (λrest r s'=>r.1=none/\s'=s/\(rest=[(u,v),(.ref ba,.ref bb)]\/(rest=[(.ref ba,.ref bb)]/\x.1=y.1)\/(rest=[]/\x=y)))
  _ ?_ ?_ _ _ ⟨rfl,rfl,.inl rfl⟩
 · rintro⟨p,q⟩ rest r s' ⟨hr,rfl,(e | ⟨e,e1⟩ | ⟨e,_⟩)⟩
   · cases e
     refine ai (knd.eqBool hia hib ?_);by_cases hk:x.1=y.1
     · rw[dA hk]
       simp only[gT,dO,cD];exact ak ⟨rfl,rfl,by simp[hk]⟩
     · rw[cL hk]
       simp only[tV,d5];have hf:decide (x=y)=false:=cL λe=>hk (by rw[e])
       rw[hf]at h;exact ai (ak (ak (ak h)))
   · cases e
     refine ai (wpAny_eqBool_tuple hu hja hjb ?_);by_cases hk:x.2=y.2
     · rw[dA hk]
       simp only[gT,dO,cD];exact ak ⟨rfl,rfl,by simp[Prod.ext_iff,e1,hk]⟩
     · rw[cL hk]
       simp only[tV,d5];have hf:decide (x=y)=false:=cL λe=>hk (by rw[e])
       rw[hf]at h;exact ai (ak (ak (ak h)))
   · cases e
 · rintro⟨r1,r2⟩ s' ⟨hr,rfl,(e | ⟨e,_⟩ | ⟨_,e⟩)⟩
   · cases e
   · cases e
   · simp only at hr
     subst hr;rw[dA e]at h;exact ak h
theorem kG{x y:K×List K}{a b:Addr}{Q:Bool->Shared->Prop}(hu:A.units+1<cLine)(hx:dQ knd s.heap x a)(hy:dQ knd s.heap y b)(h:Q (decide (x=y)) s) :
  wpAny (model prog w) A (eqBool (.ref a) (.ref b)) Q E s:=by
 unfold eqBool
 try with_reducible refine dB ?_
 show wpAny _ _ (if(Value.ref a==Value.ref b)=true then _ else _) Q E s
 by_cases VN:(Value.ref a==Value.ref b)=true
 · rw[if_pos VN]
   have e:a=b:=by have:=aR VN;injection this
   subst e;obtain rfl:=hx.inj hy;exact ai (gW (ak (by simpa using h)))
 · rw[if_neg VN]
   exact ai (wpAny_richCompare_same_room (op:=.Eq) hx.typeIs hy.typeIs tN
    (eE tN hx.typeIs F.entry_tuple_eq (ug (by show A.in1.units<cLine;exact hu) hx hy ⟨_,rfl,(λe=>nomatch e),iM h⟩) (F.args_tuple_eq_2 _ _)) (by lia))
theorem oY{ks:List K}{n:Nat}{a:Addr}{Q:Bool->Shared->Prop}(hk:IsTupleKey knd s.heap ks a)(h:Q true s):wpAny (model prog w) A (eqIsQuiet (n+1) (.ref a)) Q E s:=by
 have hT:=hk.typeIs;obtain⟨o,items,m,ho,_,hd,hi⟩:=hk;unfold eqIsQuiet;refine ai (lZ hT tN.lookup ?_);show wpAny _ _ (isInstance (.ref a) (.type "tuple") >>= _) _ _ s;refine ai (jT hT ya ?_);simp only[gT,dO,cD];refine ai (eG ho hd ?_);refine ai ?_;show wpAny _ _ (forIn items _ _) _ _ s;rw[<-yk];refine tH _ (λrest r s'=>r.1=none/\s'=s/\∀v∈rest,carriedByValue v=true) _ ?_ ?_ _ _ ⟨rfl,rfl,hi.byValue⟩
 · rintro v rest r s' ⟨hr,rfl,hall⟩
   rw[eqIsQuiet_byValue _ (hall v dj)];refine ai (ak ?_);simp only[gT,dO,cD];exact ak ⟨rfl,rfl,λu hu'=>hall u (cH _ hu')⟩
 · rintro⟨r1,r2⟩ s' ⟨hr,rfl,_⟩
   simp only at hr;subst hr;exact ak h
theorem iW{ks:K×List K}{a:Addr}{Q:Bool->Shared->Prop}(hk:dQ knd s.heap ks a)(h:Q true s):wpAny (model prog w) A (eqIsQuiet 8 (.ref a)) Q E s:=by
 have hT:=hk.typeIs;obtain⟨o,u,b,n,ho,_,hd,hi,hj⟩:=hk;unfold eqIsQuiet;refine ai (lZ hT tN.lookup ?_);show wpAny _ _ (isInstance (.ref a) (.type "tuple") >>= _) _ _ s;refine ai (jT hT ya ?_);simp only[gT,dO,cD];refine ai (eG ho hd ?_);refine ai ?_;show wpAny _ _ (forIn #[u,Value.ref b] _ _) _ _ s;rw[<-yk];refine tH _ (λrest r s'=>r.1=none/\s'=s/\(rest=[u,.ref b]\/rest=[.ref b]\/rest=[])) _ ?_ ?_ _ _ ⟨rfl,rfl,.inl rfl⟩
 · rintro v rest r s' ⟨hr,rfl,(e | e | e)⟩
   · cases e
     rw[eqIsQuiet_byValue _ (knd.byValue _ _ hi)];refine ai (ak ?_);simp only[gT,dO,cD];exact ak ⟨rfl,rfl,by simp⟩
   · cases e
     refine ai (oY hj ?_);simp only[gT,dO,cD];exact ak ⟨rfl,rfl,by simp⟩
   · cases e
 · rintro⟨r1,r2⟩ s' ⟨hr,rfl,_⟩
   simp only at hr;subst hr;exact ak h
end
def iX{prog:Program}{w:World}{K:Type} [DecidableEq K] (knd:KeyKind prog w K):HeapKind prog w (K×List K) where
 is:=dQ knd
 hash:=oX knd
 draws:=λks=>ks.2.length+3
 room:=λA=>A.units+1<cLine
 inj:=λhx hy=>hx.inj hy
 keeps:=λx ho hd hs=>x.keeps ho hd hs
 pyHash:=λhu hk h=>kF hu hk h
 eqBool:=λhu hx hy h=>kG hu hx hy h
 quiet:=λhk h=>iW hk h
theorem eP{prog:Program}{w:World}{K:Type} [DecidableEq K] {knd:KeyKind prog w K} {A:Around} (hu:A.units+2<cLine):(iX knd).room A.in1:=hu
end PySem
namespace L2
open PySem PySem.Spec PyProof.Rows
noncomputable def rE:bG->Value->Bool
 | .inl k,v=>Value.isInt k v
 | .inr x,v=>Value.isStrOf x v
noncomputable def VO(w:World):bG->Int
 | .inl k=>hashInt k
 | .inr x=>hashStr w x
theorem cB:∀{k:bG} {v:Value},rE k v=true->(∃i t,k=Sum.inl i/\v=Value.int i t)\/(∃x t,k=Sum.inr x/\v=Value.str x t)
 | .inl i,v,h=>by
  obtain⟨t,e⟩:=Value.isInt_shape h;exact .inl ⟨i,t,rfl,e⟩
 | .inr x,v,h=>by
  obtain⟨t,e⟩:=Value.isStrOf_shape h;exact .inr ⟨x,t,rfl,e⟩
def BY(i:Int)(t:Tok):rE (.inl i) (.int i t)=true:=by simp[rE,Value.isInt]
def BZ(x:Str)(t:Tok):rE (.inr x) (.str x t)=true:=by simp[rE,Value.isStrOf]
def Md(a b:Int):decide ((Sum.inl a:bG)=Sum.inl b)=(a==b):=by
 grind
def Me(a b:Str):decide ((Sum.inr a:bG)=Sum.inr b)=decide (a=b):=by
 grind
def Mf(a:Int)(b:Str):decide ((Sum.inl a:bG)=Sum.inr b)=false:=by grind
def Mg(a:Str)(b:Int):decide ((Sum.inr a:bG)=Sum.inl b)=false:=by grind
def cP(prog:Program)(w:World):PySem.KeyKind prog w bG where
 is:=rE
 hash:=VO w
 inj:=λv a b ha hb=>by
  rcases cB ha with⟨i,t,rfl,rfl⟩ | ⟨x,t,rfl,rfl⟩
  ·rcases cB hb with⟨j,u,rfl,e⟩ | ⟨y,u,rfl,e⟩
   ·injection e with e1 _;rw[e1]
   ·exact nomatch e
  ·rcases cB hb with⟨j,u,rfl,e⟩ | ⟨y,u,rfl,e⟩
   ·exact nomatch e
   ·injection e with e1 _;rw[e1]
 byValue:=λk v h=>by
  rcases cB h with⟨i,t,rfl,rfl⟩ | ⟨x,t,rfl,rfl⟩<;>rfl
 pyHash:=λhv h=>by
  rcases cB hv with⟨i,t,rfl,rfl⟩ | ⟨x,t,rfl,rfl⟩
  ·exact wpAny_pyHash_int h
  ·exact wpAny_pyHash_str h
 eqBool:=λhu hv h=>by
  rcases cB hu with⟨i,t,rfl,rfl⟩ | ⟨x,t,rfl,rfl⟩
  ·rcases cB hv with⟨j,u,rfl,rfl⟩ | ⟨y,u,rfl,rfl⟩
   ·rw[Md]at h;exact wpAny_eqBool_int h
   ·rw[Mf]at h;exact SeqAt.EqAt.int_str i t y u _ _ _ _ h
  ·rcases cB hv with⟨j,u,rfl,rfl⟩ | ⟨y,u,rfl,rfl⟩
   ·rw[Mg]at h;exact SeqAt.EqAt.str_int x t j u _ _ _ _ h
   ·rw[Me]at h;exact wpAny_eqBool_str h
 «strs» := λk x t v h=>by
  rcases cB h with⟨i,u,rfl,e⟩ | ⟨y,u,rfl,e⟩
  ·exact nomatch e
  ·injection e with e1 _
   subst e1;cases v<;>rfl
def vL(prog:Program)(w:World)(i:Int)(t:Tok):(cP prog w).is (.inl i) (.int i t)=true:=BY i t
def vM(prog:Program)(w:World)(x:Str)(t:Tok):(cP prog w).is (.inr x) (.str x t)=true:=BZ x t
def Vals.length(r:Vals xs us):xs.length=us.length:=l4 r
theorem Vals.get:∀{xs:List V} {us:List Value} {i:Nat} {x:V},Vals xs us->xs[i]?=some x->∃u,us[i]?=some u/\RelV x u
 | _,_,_,_,.nil,e=>by simp at e
 | _,_,0,_,.cons r _,e=>by grind
 | _,_,i+1,x,.cons _ t,e=>by
  obtain⟨u,h1,h2⟩:=Vals.get t (by simpa using e)
  exact⟨u,by grind,h2⟩
theorem Vals.set(r:RelV x u):∀{xs:List V} {us:List Value} (i:Nat),Vals xs us->Vals (xs.set i x) (us.set i u)
 | _,_,_,.nil=>.nil
 | _,_,0,.cons _ t=>.cons r t
 | _,_,i+1,.cons q t=>.cons q (Vals.set r i t)
theorem Vals.append:∀{xs ys:List V} {us ws:List Value},Vals xs us->Vals ys ws->Vals (xs++ys) (us++ws)
 | _,_,_,_,.nil,s=>s
 | _,_,_,_,.cons r t,s=>.cons r (Vals.append t s)
theorem Vals.take:∀{xs:List V} {us:List Value} (n:Nat),Vals xs us->Vals (xs.take n) (us.take n)
 | _,_,0,_=>.nil
 | _,_,_+1,.nil=>.nil
 | _,_,n+1,.cons r t=>.cons r (Vals.take n t)
theorem Vals.drop:∀{xs:List V} {us:List Value} (n:Nat),Vals xs us->Vals (xs.drop n) (us.drop n)
 | _,_,0,r=>r
 | _,_,_+1,.nil=>.nil
 | _,_,n+1,.cons _ t=>Vals.drop n t
def Vals.none_of:∀{xs:List V} {us:List Value} {i:Nat},Vals xs us->xs[i]?=none->us[i]?=none:=λ{xs us i} r e=>by
 have h1:=r.length;have h2:=gy.mp e;exact gy.mpr (by lia)
def mX:Option V->Option Value->Prop
 | some v,some u=>RelV v u
 | none,none=>True
 | _,_=>False
def KV{κ:Type}:List (κ×V)->List (κ×Value)->Prop:=Paired fun(p:κ×V) (q:κ×Value)=>p.1=q.1/\RelV p.2 q.2
noncomputable def cy(H:Hp)(a:Addr)(o:HO):Hp:=λb=>if b=a then some o else H b
def aA:cy H a o a=some o:=by unfold cy;rw[if_pos rfl]
def aH(h:b≠a):cy H a o b=H b:=by unfold cy;rw[if_neg h]
def cQ{H:Hp}{a b:Addr}{o:HO}(h:H a=some o)(h':H b=none):a≠b:=by
 grind
def mY(h:Heap)(a:Addr)(aw:Array Value):Prop:=∃o,h.get? a=some o/\o.cls=.type "tuple"/\(∃n,o.data=.seq aw n)/\o.dict=none
def mY.new(h:Heap)(aw:Array Value):mY (h.push {cls:=.type "tuple",data:=.seq aw}) h.objs.size aw:=⟨_,bu _ rfl,rfl,⟨_,rfl⟩,rfl⟩
def mY.is(t:mY h a aw):IsTup h a aw:=let ⟨o,e,c,n,_⟩:=t;⟨o,e,c,n⟩
section
variable (P:Program) (w:World)
def eS(H:Hp)(h:Heap)(a:Addr):HO->Prop
 | .lst xs=>xs.length<=sizeLine/\∃(aw:List Value) (n:Nat),Vals xs aw/\h.get? a=some {cls:=.type "list",data:=.seq aw.toArray n}
 | .aq xs=>xs.length<=sizeLine/\∃aw:List Value,Vals xs aw/\mY h a aw.toArray
 | .dK kvs=>kvs.length<=sizeLine/\(a==sysModules)=false/\∃vs,KV kvs vs/\h.DictOf (cP P w) a vs
 | .dT xs=>xs.length<=sizeLine/\(a==sysModules)=false/\∃o es ep,h.get? a=some o/\o.ExactDict/\o.data=.dict es ep/\es.toList=xs.map (entryOfKey (iX (cP P w)))/\(xs.map (·.1)).Nodup
 | .set S n=>h.SetOf (intKind P w) a S n
 | .ins C dx fs=>H dx=some (.own a)/\fs.length<=1000/\dx≠a/\h.get? a=some (W.instObj C dx) /\
   ∃mA,h.Ns1 dx mA/\(∀f,mX (fs.lookup f) (mA f))/\PySem.Within mA (fs.map (·.1))
 | .own _=>∃o,h.get? a=some o
 | .xd fs=>∃mA,h.Ns1 a mA/\∀f,mX (fs.lookup f) (mA f)
 | .UU lo hi=>∃t u v,h.get? a=some {cls:=.type "range",data:=.fields #[.int lo t,.int hi u,.int 1 v]}
 | .vH o u=>h.get? a=some o/\eS H h a u
 | .yE q=>∃ps:Array Value,h.get? a=some {cls:=.none,data:=.fields ps}/\TriplesOk ps.toList/\∀(pos:Pos) (cv:Value),codeAmong pos ps.toList=some cv ->
   ∃(c:Addr) (oc:Obj) (u:HO) (vs:Array Value) (t:Tok),cv=.ref c/\H c=some (.vH oc u)/\oc.data=.fields vs/\vs[1]?=some (.str q t)
 | .UT f x=>h.get? a=some (W.methodObj (.ref f) (.ref x))
 | .ext φ=>φ h/\(∃o,h.get? a=some o)/\∀h1 h2:Heap,φ h1->(∀o,h1.get? a=some o->h2.get? a=some o)->φ h2
def kB(H:Hp)(h:Heap):Prop:=∀a o,H a=some o->eS P w H h a o
end
section
variable {P:Program} {w:World} {H H':Hp} {h h':Heap} {a:Addr} {o:HO}
def eS.lt(x:eS P w H h a o):a<h.objs.size:=by
 cases o with
 | lst xs=>obtain⟨_,_,_,_,e⟩:=x;exact aG e
 | aq xs=>obtain⟨_,_,_,p⟩:=x;exact p.is.lt
 | dK kvs=>obtain⟨_,_,_,_,o,_,_,e,_⟩:=x;exact aG e
 | dT kvs=>obtain⟨_,_,o,_,_,e,_⟩:=x;exact aG e
 | set S n=>obtain⟨o,_,_,_,e,_⟩:=x;exact aG e
 | ins C dx fs=>obtain⟨_,_,_,e,_⟩:=x;exact aG e
 | own y=>obtain⟨_,e⟩:=x;exact aG e
 | xd fs=>obtain⟨_,⟨_,_,_,e,_⟩,_⟩:=x;exact aG e
 | UU lo hi=>obtain⟨_,_,_,e⟩:=x;exact aG e
 | vH ob u=>obtain⟨e,_⟩:=x;exact aG e
 | yE q=>obtain⟨_,e,_⟩:=x;exact aG e
 | UT f y=>exact aG (x)
 | ext φ=>obtain⟨_,⟨_,e⟩,_⟩:=x;exact aG e
def eS.vN(x:eS P w H h a o)(k:∀b u,(b=a\/H b=some (.own a))->h.get? b=some u->h'.get? b=some u)
  (ho:∀b,H b=some (.own a)->H' b=some (.own a)) (ht:∀b xs,H b=some (.aq xs)->H' b=some (.aq xs)) (hz:∀b ob u,H b=some (.vH ob u)->H' b=some (.vH ob u)):eS P w H' h' a o:=by
 induction o with
 | lst xs=>obtain⟨z,aw,n,r,e⟩:=x;exact⟨z,aw,n,r,k _ _ (.inl rfl) e⟩
 | aq xs=>obtain⟨z,aw,r,ob,e,c⟩:=x;exact⟨z,aw,r,ob,k _ _ (.inl rfl) e,c⟩
 | dK kvs=>obtain⟨z,y,vs,r,ob,es,ep,e,c⟩:=x;exact⟨z,y,vs,r,ob,es,ep,k _ _ (.inl rfl) e,c⟩
 | dT kvs=>obtain⟨z,y,ob,es,ep,e,c⟩:=x;exact⟨z,y,ob,es,ep,k _ _ (.inl rfl) e,c⟩
 | set S n=>obtain⟨ob,es,ep,t,e,c⟩:=x;exact⟨ob,es,ep,t,k _ _ (.inl rfl) e,c⟩
 | ins C dx fs =>
  obtain⟨d,z,ne,e,mA,⟨od,es,ep,e2,c⟩,r⟩:=x;exact⟨ho _ d,z,ne,k _ _ (.inl rfl) e,mA,⟨od,es,ep,k _ _ (.inr d) e2,c⟩,r⟩
 | own y=>obtain⟨ob,e⟩:=x;exact⟨ob,k _ _ (.inl rfl) e⟩
 | xd fs=>obtain⟨mA,⟨od,es,ep,e,c⟩,r⟩:=x;exact⟨mA,⟨od,es,ep,k _ _ (.inl rfl) e,c⟩,r⟩
 | UU lo hi=>obtain⟨t,u,v,e⟩:=x;exact⟨t,u,v,k _ _ (.inl rfl) e⟩
 | vH ob u ih=>obtain⟨e,q⟩:=x;exact⟨k _ _ (.inl rfl) e,ih q⟩
 | yE q =>
  obtain⟨ps,e,t,c⟩:=x;exact⟨ps,k _ _ (.inl rfl) e,t,λpos cv z=>let ⟨c,oc,u,vs,tk,h1,h2,h3⟩:=c pos cv z;⟨c,oc,u,vs,tk,h1,hz _ _ _ h2,h3⟩⟩
 | UT f y =>
  have e:=x;exact k a _ (.inl rfl) e
 | ext φ=>obtain⟨p,⟨o,e⟩,st⟩:=x;exact⟨st _ _ p λo q=>k _ _ (.inl rfl) q,⟨o,k _ _ (.inl rfl) e⟩,st⟩
def kB.lt(x:kB P w H h)(e:H a=some o):a<h.objs.size:=(x a o e).lt
def kB.fresh(x:kB P w H h)(e:h.objs.size<=a):H a=none:=by
 cases q:H a with
 | none=>rfl
 | some u=>exact absurd (bQ (x.lt q) e) (eI _)
def kB.kept(x:kB P w H h)(k:∀b u,h.get? b=some u->h'.get? b=some u):kB P w H h':=λa o e =>
 (x a o e).vN (λb u _ q=>k b u q) (λ_ q=>q) (λ_ _ q=>q) λ_ _ _ q=>q
def kB.laid(x:kB P w H h)(k:∀b u,h.get? b=some u->h'.get? b=some u)(hp:h.objs.size<=a)(new:eS P w (cy H a o) h' a o):kB P w (cy H a o) h':=λb u e=>by
 have hn:=x.fresh hp;by_cases hb:b=a
 ·subst hb;rw[aA]at e;cases e;exact new
 ·rw[aH hb]at e;exact(x b u e).vN (λc v _ q=>k c v q) (λc q=>by rw[aH (cQ q hn)];exact q) (λc xs q=>by rw[aH (cQ q hn)];exact q) λc ob v q=>by rw[aH (cQ q hn)];exact q
end
def Rd.ok(r:Rd H a u)(x:kB P w H h):eS P w H h a u:=by
 rcases r with r | ⟨o,r⟩
 ·exact x a u r
 ·obtain⟨_,q⟩:=x a _ r;exact q
def UX:Option HO->Prop
 | some (.lst _)=>True
 | some (.dK _)=>True
 | some (.dT _)=>True
 | some (.set _ _)=>True
 | some (.ins _ _ _)=>True
 | some (.ext _)=>True
 | _=>False
section
variable {P:Program} {w:World} {H:Hp} {h h':Heap} {x e:Addr} {o':HO}
def kB.write(ok:kB P w H h)(mu:UX (H x))(he:e=x\/H e=some (.own x))(k:∀b u,b≠e->h.get? b=some u->h'.get? b=some u)(P5:∃u,h'.get? e=some u)
  (new:eS P w (cy H x o') h' x o'):kB P w (cy H x o') h':=λb u q=>by
 have QC:∀c y,H c=some (.own y)->c≠x:=λc y r z=>by subst z;rw[r]at mu;exact mu
 have VP:∀c xs,H c=some (.aq xs)->c≠x:=λc xs r z=>by subst z;rw[r]at mu;exact mu
 have VQ:∀c ob v,H c=some (.vH ob v)->c≠x:=λc ob v r z=>by subst z;rw[r]at mu;exact mu
 by_cases hb:b=x
 ·subst hb;rw[aA]at q;cases q;exact new
 ·rw[aH hb]at q;by_cases Mh:b=e
  ·have q':H b=some (.own x):=by
    rcases he with z | z
    ·exact absurd (Mh.trans z) hb
    ·rw[Mh];exact z
   rw[q]at q';cases q';obtain⟨v,hv⟩:=P5;exact⟨v,by rw[Mh];exact hv⟩
  ·refine(ok b u q).vN (λc v hc r=>k c v ?_ r) (λc r=>by rw[aH (QC c b r)];exact r) (λc xs r=>by rw[aH (VP c xs r)];exact r) λc ob v r=>by rw[aH (VQ c ob v r)];exact r
   rcases hc with rfl | hc
   ·exact Mh
   ·rintro rfl
    rcases he with z | z
    ·exact QC c b hc z
    ·rw[hc]at z;cases z;exact hb rfl
end
structure Un (fs ex:List Addr) (H H':Hp) (h h':Heap):Prop where
 keep:∀b o,h.get? b=some o->H b=none->b∉fs->b∉ex->h'.get? b=some o
 slot:∀b o,h.get? b=some o->H b=none->b∈fs->b∉ex->∃sl,h'.get? b=some {o with slots:=sl}
 free:∀b o,h.get? b=some o->H b=none->b∉ex->H' b=none
 there:∀b o,h.get? b=some o->b∉ex->∃o',h'.get? b=some o'
 tups:∀b xs,H b=some (.aq xs)->H' b=some (.aq xs)
 frzs:∀b o u,H b=some (.vH o u)->H' b=some (.vH o u)
 tbls:∀b q,H b=some (.yE q)->H' b=some (.yE q)
section
variable {fs KJ ex ex':List Addr} {H H1 H2:Hp} {h h1 h2 h':Heap} {a x e:Addr} {o:HO}
def Un.any(u:Un fs ex H H1 h h1)(q:h.get? b=some ob)(n:H b=none)(hx:b∉ex):∃sl,h1.get? b=some {ob with slots:=sl}:=by
 by_cases hb:b∈fs
 ·exact u.slot b ob q n hb hx
 ·exact⟨ob.slots,u.keep b ob q n hb hx⟩
def Un.trans(a:Un fs ex H H1 h h1)(b:Un fs ex H1 H2 h1 h2):Un fs ex H H2 h h2 where
 keep:=λc ob q n hc hx=>b.keep c ob (a.keep c ob q n hc hx) (a.free c ob q n hx) hc hx
 slot:=λc ob q n hc hx=>by
  obtain⟨sl,e1⟩:=a.slot c ob q n hc hx;obtain⟨QD,e2⟩:=b.slot c _ e1 (a.free c ob q n hx) hc hx;exact⟨QD,e2⟩
 free:=λc ob q n hx=>by
  obtain⟨o',e1⟩:=a.there c ob q hx;exact b.free c o' e1 (a.free c ob q n hx) hx
 there:=λc ob q hx=>by
  obtain⟨o',e1⟩:=a.there c ob q hx;exact b.there c o' e1 hx
 tups:=λc xs q=>b.tups c xs (a.tups c xs q)
 frzs:=λc ob xs q=>b.frzs c ob xs (a.frzs c ob xs q)
 tbls:=λc q e=>b.tbls c q (a.tbls c q e)
def Un.kept(k:∀b u,h.get? b=some u->h'.get? b=some u):Un fs ex H H h h' :=
 ⟨λb ob q _ _ _=>k b ob q,λb ob q _ _ _=>⟨ob.slots,k b ob q⟩,λ_ _ _ n _=>n,λb ob q _=>⟨ob,k b ob q⟩,λ_ _ q=>q,λ_ _ _ q=>q,λ_ _ q=>q⟩
def Un.refl:Un fs ex H H h h:=Un.kept λ_ _ q=>q
def Un.laid(k:∀b u,h.get? b=some u->h'.get? b=some u)(hp:h.objs.size<=a)(hn:H a=none):Un fs ex H (cy H a o) h h' where
 keep:=λb u q _ _ _=>k b u q
 slot:=λb u q _ _ _=>⟨u.slots,k b u q⟩
 free:=λb u q n _=>by rw[aH (aZ (bQ (aG q) hp))];exact n
 there:=λb u q _=>⟨u,k b u q⟩
 tups:=λb xs q=>by rw[aH (cQ q hn)];exact q
 frzs:=λb u xs q=>by rw[aH (cQ q hn)];exact q
 tbls:=λb ps q=>by rw[aH (cQ q hn)];exact q
def Un.write(mu:UX (H x))(he:e=x\/H e=some (.own x))(k:∀b u,b≠e->h.get? b=some u->h'.get? b=some u)(P5:∃u,h'.get? e=some u):Un fs ex H (cy H x o) h h':=by
 have hx:∀b,H b=none->b≠x:=λb n z=>by subst z;rw[n]at mu;exact mu
 have hb:∀b,H b=none->b≠e:=λb n z=>by
  subst z;rcases he with r | r
  ·exact hx b n r
  ·rw[n]at r;cases r
 have hm:∀b u,H b=some u->¬UX (some u)->b≠x:=λb u q nm z=>by subst z;rw[q]at mu;exact nm mu
 refine⟨λb u q n _ _=>k b u (hb b n) q,λb u q n _ _=>⟨u.slots,k b u (hb b n) q⟩,λb u q n _=>by rw[aH (hx b n)];exact n,λb u q _=>?_,
  λb xs q=>by rw[aH (hm b _ q λz=>z)];exact q,λb u xs q=>by rw[aH (hm b _ q λz=>z)];exact q,λb ps q=>by rw[aH (hm b _ q λz=>z)];exact q⟩
 by_cases Mh:b=e
 ·subst Mh;exact P5
 ·exact⟨u,k b u Mh q⟩
end
noncomputable def UY(h:Heap)(H:Hp):List Addr:=(List.range h.objs.size).filter λa=>(H a).isSome
def vO(h:Heap)(H:Hp):Heap:=W.hideAll h (UY h H)
def B0(h:Heap)(H:Hp):(vO h H).objs.size=h.objs.size:=W.hideAll_size _ _
def hidT_get(e:h.get? b=some o)(n:H b=none):(vO h H).get? b=some o :=
 W.hideAll_get _ e λhm=>by
  have q:=(yD.mp hm).2;rw[n]at q;simp at q
def of_hidT(e:(vO h H).get? b=some o):h.get? b=some o/\H b=none:=by
 have e':=W.of_hideAll (UY h H) e;refine⟨e',?_⟩;cases q:H b with
 | none=>rfl
 | some x =>
  have hm:b∈UY h H:=yD.mpr ⟨tW.mpr (aG e'),by simp[q]⟩
  have z:(vO h H).get? b=none:=W.hideAll_none (UY h H) hm;rw[z]at e;cases e
structure Mod (K:W.Frag) (mg:Str->Option Value) (base:Heap):Prop where
 kin:K.In base
 glob:base.Ns mainGlobals mg
 blt:∃mb,base.Ns builtinsNs mb/\∀x:Str,x≠"__name__"->mb x=bootBuiltins x
 nolimit:base.NoLimit
structure Cx where
 prog:Program
 w:World
 K:W.Frag
 mg:Str->Option Value
 base:Heap
 A:Around
 N:List Str
 s₀:Shared
 af:Hp
 env:Env
 aB:List Env
 stack:List Env
 ex:List Addr
 fn:Str->Bool
 calm:Bool
 pn:List (Addr×Obj)
 xe:Value->Shared->Prop
noncomputable def kH(l:List Env):List Addr:=l.filterMap (·.frame)
abbrev Cx.fs(X:Cx):List Addr:=kH X.aB
def QE(sc:Scope)(x:Str):Prop:=sc.names.lookup x=some .local\/sc.names.lookup x=some .cell\/sc.names.lookup x=some .free
def KL(sc:Scope)(x:Str):Prop:=sc.names.lookup x=some .local\/sc.names.lookup x=some .cell
def Look(env:Env)(h:Heap)(m:Str->Option Value)(x:Str)(u:Value):Prop :=
 (env.kindOf x=some .local/\m x=some u)\/((env.kindOf x=some .cell\/env.kindOf x=some .free)/\∃c,env.cells.lookup x=some c/\h.IsCell c (some u))
noncomputable def HS(x:Str):Str:=x++".<locals>."++"<lambda>"
def oZ(K:W.Frag)(H:Hp):Prop:=∀x∈dq,∀c T,W.tabIn K x=some (c,T)->H T=some (.yE (HS x))
structure Cx.Ok (X:Cx):Prop where
 mod:Mod X.K X.mg X.base
 kind:X.env.scope.kind=.function
 glob:X.env.globals=mainGlobals
 blt:X.env.builtins=builtinsNs
 above:X.s₀.heap.objs.size<=X.env.locals
 inj:∀x y c,X.env.cells.lookup x=some c->X.env.cells.lookup y=some c->x=y
 has:∀x,(X.env.kindOf x=some .cell\/X.env.kindOf x=some .free)->∃c,X.env.cells.lookup x=some c
 cab:∀x c,X.fn x=true->X.env.cells.lookup x=some c->X.s₀.heap.objs.size<=c
 hd:X.calm=true->X.A.handled=none
 frames:X.A.frames=some X.stack
 stk:X.stack=X.aB\/(X.stack=X.env::X.aB/\X.env.frame=some X.env.locals)
 exf:∀b∈X.ex,b≠X.env.locals/\∀x c,X.env.cells.lookup x=some c->c≠b
 bs:∀b o,X.base.get? b=some o->X.s₀.heap.get? b=some o/\X.af b=none
 bsz:X.base.objs.size<=X.s₀.heap.objs.size
 noex:∀b o,X.base.get? b=some o->b∉X.ex
 exfs:∀b∈X.ex,b∉X.fs
 funs:X.s₀.heap.FunFrames X.base X.aB
 frf:∀b∈X.fs,X.af b=none
 tabs:oZ X.K X.af
structure Inv (X:Cx) (ah:List (Addr×Obj)) (σ:List (Option V)) (H:Hp) (s:Shared):Prop where
 ok:X.Ok
 os:s.os=X.s₀.os
 bare:AllBare s.gens
 base:Un X.fs X.ex X.af H X.s₀.heap s.heap
 loc:∃m,s.heap.Ns X.env.locals m/\∀(i:Nat) (x:Str) (v:V),X.N[i]?=some x->σ[i]?=some (some v)->QE X.env.scope x->∃u,RelV v u/\Look X.env s.heap m x u
 cell:∀x c,X.env.cells.lookup x=some c->∃v,s.heap.IsCell c v
 free:H X.env.locals=none
 freeC:∀x c,X.env.cells.lookup x=some c->H c=none
 pin:∀p∈X.pn++ah,s.heap.get? p.1=some p.2/\H p.1=none/\p.1≠X.env.locals/\p.1∉X.fs/\∀v,p.2.data≠.cell v
 hok:kB X.prog X.w H s.heap
 len:σ.length=X.N.length
section
variable {X:Cx} {ah:List (Addr×Obj)} {σ:List (Option V)} {H H':Hp} {s:Shared} {h':Heap}
def Cx.Ok.VR(ok:X.Ok)(e:X.base.get? b=some o):b∉X.fs:=λhb=>by
 have:=(ok.funs.mem hb).1;rw[e]at this;cases this
def Inv.bs(I:Inv X ah σ H s):∀b o,X.base.get? b=some o->s.heap.get? b=some o/\H b=none:=λb o e =>
 ⟨I.base.keep b o (I.ok.bs b o e).1 (I.ok.bs b o e).2 (I.ok.VR e) (I.ok.noex b o e),I.base.free b o (I.ok.bs b o e).1 (I.ok.bs b o e).2 (I.ok.noex b o e)⟩
def Inv.bk(I:Inv X ah σ H s):∀b o,X.base.get? b=some o->s.heap.get? b=some o:=λb o e=>(I.bs b o e).1
def Inv.mod(I:Inv X ah σ H s):Mod X.K X.mg X.base:=I.ok.mod
def Inv.mh(I:Inv X ah σ H s):X.K.In s.heap:=I.ok.mod.kin.keeps I.bk
def Inv.lt(I:Inv X ah σ H s):X.env.locals<s.heap.objs.size:=let ⟨_,hn,_⟩:=I.loc;hn.lt
def Inv.sz(I:Inv X ah σ H s):X.s₀.heap.objs.size<=s.heap.objs.size:=aJ I.ok.above (oO I.lt)
def Inv.VS(I:Inv X ah σ H s){a:Addr}(h:s.heap.objs.size<=a):a∉X.fs:=λhb=>by
 obtain⟨_,o,ho,_⟩:=I.ok.funs.mem hb;exact absurd (bQ (aG ho) (aJ I.sz h)) (eI _)
def Inv.Mi(I:Inv X ah σ H s):∀x c,X.env.cells.lookup x=some c->c≠X.env.locals:=λx c e z=>by
 obtain⟨v,o,ho,hd⟩:=I.cell x c e;obtain⟨m,⟨o',es,ep,lM,Dl,_⟩,_⟩:=I.loc;rw[z,lM]at ho;cases ho;rw[Dl]at hd;cases hd
def Inv.funs(I:Inv X ah σ H s):s.heap.FunFrames X.base X.aB:=by
 have all:∀l,(∀b∈kH l,b∈X.fs)->X.s₀.heap.FunFrames X.base l->s.heap.FunFrames X.base l:=by
  intro l;induction l with
  | nil=>intro _ _;trivial
  | cons env r ih =>
   intro hs hl;obtain⟨hk,⟨L,o,hf,hn,ho,hd⟩,hr⟩:=hl;have hL:=hs L (by unfold kH;rw[yg,hf];exact dj)
   obtain⟨sl,e⟩:=I.base.slot L o ho (I.ok.frf L hL) hL λz=>I.ok.exfs L z hL
   exact⟨hk,⟨L,_,hf,hn,e,hd⟩,ih (λb hb=>hs b (by unfold kH;rw[yg,hf];exact cH _ hb)) hr⟩
 exact all X.aB (λ_ hb=>hb) I.ok.funs
def Inv.stack(I:Inv X ah σ H s):s.heap.FunFrames X.base X.stack:=by
 rcases I.ok.stk with e | ⟨e,hf⟩
 ·rw[e];exact I.funs
 ·rw[e];obtain⟨m,hn,_⟩:=I.loc;refine .cons (by rw[I.ok.kind];decide) hf hn ?_ I.funs
  exact Heap.get?_none_of_le (aJ I.ok.bsz I.ok.above)
def Inv.uh(I:Inv X ah σ H s):∀b∈kH X.stack,b∈X.env.locals::X.fs:=λb hb=>by
 rcases I.ok.stk with e | ⟨e,hf⟩
 ·rw[e]at hb;exact cH _ hb
 ·rw[e]at hb;unfold kH at hb;rw[yg,hf]at hb;exact hb
def Inv.ui(I:Inv X ah σ H s):∀b∈kH X.stack,H b=none:=λb hb=>by
 rcases aW.mp (I.uh b hb)with e | hb
 ·rw[e];exact I.free
 ·obtain⟨_,o,ho,_⟩:=I.ok.funs.mem hb;exact I.base.free b o ho (I.ok.frf b hb) λz=>I.ok.exfs b z hb
def Inv.tabs(I:Inv X ah σ H s):oZ X.K H:=λx hx c T e=>I.base.tbls T _ (I.ok.tabs x hx c T e)
def Inv.step{g':Array GenState}{t':Nat}{d':Drawn}{ch:List Addr}(I:Inv X ah σ H s)
  (KN:∀b∈ch,(b∈X.ex\/X.s₀.heap.objs.size<=b)/\b≠X.env.locals/\(∀x c,X.env.cells.lookup x=some c->c≠b)/\∀p∈X.pn++ah,p.1≠b)
  (keep:∀b o,b≠X.env.locals->b∉X.fs->b∉ch->s.heap.get? b=some o->H b=none->h'.get? b=some o)
  (slot:∀b o,b≠X.env.locals->b∈X.fs->b∉ch->s.heap.get? b=some o->H b=none->∃sl,h'.get? b=some {o with slots:=sl}) (free:∀b o,b∉ch->s.heap.get? b=some o->H b=none->H' b=none)
  (there:∀b o,b∉ch->s.heap.get? b=some o->∃o',h'.get? b=some o')
  (tups:∀b xs,H b=some (.aq xs)->H' b=some (.aq xs)) (frzs:∀b o u,H b=some (.vH o u)->H' b=some (.vH o u)) (tbls:∀b q,H b=some (.yE q)->H' b=some (.yE q))
  (ns:∀m,s.heap.Ns X.env.locals m->h'.Ns X.env.locals m) (hok:kB X.prog X.w H' h') (hg:AllBare g') :
  Inv X ah σ H' {s with heap:=h',gens:=g',drawn:=d',toks:=t'}:=by
 have YT:∀b o,X.s₀.heap.get? b=some o->b≠X.env.locals:=λb o e=>aZ (bQ (aG e) I.ok.above)
 have UZ:∀b o,X.s₀.heap.get? b=some o->b∉X.ex->b∉ch:=λb o e hx hb=>by
  rcases(KN b hb).1 with z | z
  ·exact hx z
  ·exact absurd (bQ (aG e) z) (eI _)
 have cellK:∀x c,X.env.cells.lookup x=some c->∀v,s.heap.IsCell c v->h'.IsCell c v:=by
  rintro x c e v ⟨o,ho,hd⟩
  have QF:c∉ch:=by grind
  by_cases hc:c∈X.fs
  ·obtain⟨sl,q⟩:=slot c o (I.Mi x c e) hc QF ho (I.freeC x c e);exact⟨_,q,hd⟩
  ·exact⟨o,keep c o (I.Mi x c e) hc QF ho (I.freeC x c e),hd⟩
 refine⟨I.ok,I.os,hg,⟨λb o e n hb hx=>?_,λb o e n hb hx=>?_,λb o e n hx=>?_,λb o e hx=>?_,λb xs e=>tups b xs (I.base.tups b xs e),λb o xs e=>frzs b o xs (I.base.frzs b o xs e),λb ps e=>?_⟩,?_,λx c e=>?_,?_,λx c e=>?_,λp hp=>?_,hok,I.len⟩
 ·exact keep b o (YT b o e) hb (UZ b o e hx) (I.base.keep b o e n hb hx) (I.base.free b o e n hx)
 ·obtain⟨sl,e1⟩:=I.base.slot b o e n hb hx;obtain⟨QD,e2⟩:=slot b _ (YT b o e) hb (UZ b o e hx) e1 (I.base.free b o e n hx);exact⟨QD,e2⟩
 ·obtain⟨o',e1⟩:=I.base.there b o e hx;exact free b o' (UZ b o e hx) e1 (I.base.free b o e n hx)
 ·obtain⟨o',e1⟩:=I.base.there b o e hx;exact there b o' (UZ b o e hx) e1
 ·exact tbls b ps (I.base.tbls b ps e)
 ·obtain⟨m,hn,hl⟩:=I.loc;refine⟨m,ns m hn,λi x v e1 e2 e3=>?_⟩
  obtain⟨u,r,l⟩:=hl i x v e1 e2 e3;refine⟨u,r,?_⟩;rcases l with l | ⟨k,c,e,z⟩
  ·exact .inl l
  ·exact .inr ⟨k,c,e,cellK x c e _ z⟩
 ·obtain⟨v,z⟩:=I.cell x c e;exact⟨v,cellK x c e v z⟩
 ·obtain⟨m,⟨o,_,_,ho,_⟩,_⟩:=I.loc;exact free _ o (λz=>(KN _ z).2.1 rfl) ho I.free
 ·obtain⟨v,o,ho,hd⟩:=I.cell x c e;exact free c o (λz=>(KN c z).2.2.1 x c e rfl) ho (I.freeC x c e)
 ·obtain⟨e,n,ne,nf,d⟩:=I.pin p hp;have QF:p.1∉ch:=by grind
  exact⟨keep p.1 p.2 ne nf QF e n,free p.1 p.2 QF e n,ne,nf,d⟩
def Inv.un{t':Nat}(I:Inv X ah σ H s)(u:Un X.fs [] H H' s.heap h')(hok:kB X.prog X.w H' h'):Inv X ah σ H' {s with heap:=h',toks:=t'}:=by
 obtain⟨m,⟨o,es,ep,ho,r⟩,_⟩:=id I.loc;obtain⟨sl,hL⟩:=u.any ho I.free (by simp)
 exact I.step (ch:=[]) (λ_ z=>nomatch z) (λb o _ hb _ e n=>u.keep b o e n hb (by simp)) (λb o _ hb _ e n=>u.slot b o e n hb (by simp)) (λb o _ e n=>u.free b o e n (by simp)) (λb o _ e=>u.there b o e (by simp)) u.tups u.frzs u.tbls (λm' hm=>by
  obtain⟨o',QG,VT,lM,r'⟩:=hm;rw[ho]at lM;cases lM;exact⟨_,QG,VT,hL,r'⟩) hok I.bare
def Inv.call{g':Array GenState}{t':Nat}{d':Drawn}{ch:List Addr}(I:Inv X ah σ H s)(u:Un (kH X.stack) ch H H' s.heap h')(hok:kB X.prog X.w H' h')(hg:AllBare g')
  (KN:∀b∈ch,(b∈X.ex\/X.s₀.heap.objs.size<=b)/\b≠X.env.locals/\(∀x c,X.env.cells.lookup x=some c->c≠b)/\∀p∈X.pn++ah,p.1≠b) :
  Inv X ah σ H' {s with heap:=h',gens:=g',drawn:=d',toks:=t'}:=by
 obtain⟨m,⟨o,es,ep,ho,r⟩,_⟩:=id I.loc;obtain⟨sl,hL⟩:=u.any ho I.free λz=>(KN _ z).2.1 rfl
 exact I.step KN (λb o hL hb hc e n=>u.keep b o e n (λz=>(aW.mp (I.uh b z)).elim hL hb) hc) (λb o _ _ hc e n=>u.any e n hc) (λb o hc e n=>u.free b o e n hc) (λb o hc e=>u.there b o e hc) u.tups u.frzs u.tbls (λm' hm=>by
  obtain⟨o',QG,VT,lM,r'⟩:=hm;rw[ho]at lM;cases lM;exact⟨_,QG,VT,hL,r'⟩) hok hg
def Inv.turned{t':Nat}(I:Inv X ah σ H s)(k:∀b o,b≠it->s.heap.get? b=some o->h'.get? b=some o)(hn:H it=none)(hL:it≠X.env.locals)
  (h1:it∈X.ex\/X.s₀.heap.objs.size<=it) (h2:∀x c,X.env.cells.lookup x=some c->c≠it) (h3:∀p∈X.pn++ah,p.1≠it):Inv X ah σ H {s with heap:=h',toks:=t'}:=by
 have QH:∀b u,H b=some u->b≠it:=λb u e z=>by rw[z,hn]at e;cases e
 refine I.step (ch:=[it]) (λb hb=>?_) (λb o _ _ hc e _=>k b o (λz=>hc (by simp[z])) e) (λb o _ _ hc e _=>⟨o.slots,k b o (λz=>hc (by simp[z])) e⟩) (λ_ _ _ _ n=>n)
  (λb o hc e=>⟨o,k b o (λz=>hc (by simp[z])) e⟩) (λ_ _ e=>e) (λ_ _ _ e=>e) (λ_ _ e=>e) (λm hm=>?_) (λb u e=>?_) I.bare
 ·have e:b=it:=by simpa using hb
  subst e;exact⟨h1,hL,h2,h3⟩
 ·obtain⟨o,es,ep,ho,r⟩:=hm;exact⟨o,es,ep,k _ o (bR hL) ho,r⟩
 ·refine(I.hok b u e).vN (λc v hc q=>k c v ?_ q) (λ_ q=>q) (λ_ _ q=>q) λ_ _ _ q=>q
  rcases hc with z | z
  ·rw[z];exact QH b u e
  ·exact QH c _ z
def Inv.tok(I:Inv X ah σ H s)(t:Nat):Inv X ah σ H {s with toks:=t}:=I.un Un.refl I.hok
def Inv.kept(I:Inv X ah σ H s)(k:∀b u,s.heap.get? b=some u->h'.get? b=some u):Inv X ah σ H {s with heap:=h',toks:=t'}:=I.un (Un.kept k) (I.hok.kept k)
def Inv.laid{a:Addr}{o:HO}{t':Nat}(I:Inv X ah σ H s)(k:∀b u,s.heap.get? b=some u->h'.get? b=some u)(hp:s.heap.objs.size<=a)(new:eS X.prog X.w (cy H a o) h' a o) :
  Inv X ah σ (cy H a o) {s with heap:=h',toks:=t'}:=I.un (Un.laid k hp (I.hok.fresh hp)) (I.hok.laid k hp new)
def Inv.write(I:Inv X ah σ H s)(mu:UX (H x))(he:e=x\/H e=some (.own x))(k:∀b u,b≠e->s.heap.get? b=some u->h'.get? b=some u)(P5:∃u,h'.get? e=some u)
  (new:eS X.prog X.w (cy H x o) h' x o):Inv X ah σ (cy H x o) {s with heap:=h',toks:=t'}:=I.un (Un.write mu he k P5) (I.hok.write mu he k P5 new)
def Inv.kJ(I:Inv X ah σ H s)(h:∀p∈QI,s.heap.get? p.1=some p.2/\H p.1=none/\p.1≠X.env.locals/\p.1∉X.fs/\∀v,p.2.data≠.cell v):Inv X QI σ H s :=
 ⟨I.ok,I.os,I.bare,I.base,I.loc,I.cell,I.free,I.freeC,λp hp=>(dk.mp hp).elim (λz=>I.pin p (lQ _ z)) (h p),I.hok,I.len⟩
def vP{N:List Str}(hN:N.Nodup){i j:Nat}(a:N[i]?=some x)(b:N[j]?=some x):i=j:=by
 obtain⟨h1,e1⟩:=di.mp a;obtain⟨h2,e2⟩:=di.mp b;exact(List.getElem_inj hN).mp (e1.trans e2.symm)
def store_ok2{M:Model}{A:Around}{E:Value->Shared->Prop}{i:Nat}{v:V}{u:Value}{Q:Unit->Shared->Prop}(I:Inv X ah σ H s)(hN:X.N.Nodup)(hi:X.N[i]?=some x)(hx:KL X.env.scope x)(r:RelV v u)
  (h:∀s',Inv X ah (σ.set i (some v)) H s'->(∃a,Heap.SameBut a s.heap s'.heap/\(a=X.env.locals\/X.env.cells.lookup x=some a))->Q () s') (hf:X.fn x=true\/X.env.scope.names.lookup x=some .local):wpAny M A (storeName X.env x u) Q E s:=by
 obtain⟨m,hn,hl⟩:=id I.loc;have VU:(X.env.scope.kind==.class || (X.env.scope.kind==.module&&X.env.locals != X.env.globals))=false:=by rw[I.ok.kind];rfl
 have QJ:i<σ.length:=by rw[I.len];exact(di.mp hi).1
 have Mi:=I.Mi;have Aq:∀{a:Addr} {h':Heap},(∃o,s.heap.get? a=some o/\H a=none)->Heap.SameBut a s.heap h'->kB X.prog X.w H h':=λ{a h'} ha hs b ob e=>by
  obtain⟨_,_,vQ⟩:=ha;refine(I.hok b ob e).vN (λc w' hc q=>(hs.2 c ?_).trans q) (λ_ q=>q) (λ_ _ q=>q) λ_ _ _ q=>q
  rintro rfl
  rcases hc with rfl | hc
  ·grind
  ·grind
 rcases hx with hk | hk
 ·refine wpAny_storeName_local hk hn (λh' hn' hs=>?_) VU
  obtain⟨oL,_,_,hoL,_⟩:=id hn;refine h _ ⟨I.ok,I.os,I.bare,⟨λb o e n hb hx=>?_,λb o e n hb hx=>?_,I.base.free,λb o e hx=>?_,I.base.tups,I.base.frzs,I.base.tbls⟩,⟨_,hn',λj y v' e1 e2 e3=>?_⟩,λy c e=>?_,I.free,I.freeC,λp hp=>?_,Aq ⟨oL,hoL,I.free⟩ hs,by simpa using I.len⟩ ⟨_,hs,.inl rfl⟩
  ·exact(hs.2 b (aZ (bQ (aG e) I.ok.above))).trans (I.base.keep b o e n hb hx)
  ·obtain⟨sl,e1⟩:=I.base.slot b o e n hb hx;exact⟨sl,(hs.2 b (aZ (bQ (aG e) I.ok.above))).trans e1⟩
  ·obtain⟨o',e1⟩:=I.base.there b o e hx;exact⟨o',(hs.2 b (aZ (bQ (aG e) I.ok.above))).trans e1⟩
  ·by_cases hj:j=i
   ·subst hj;rw[hi]at e1;cases e1;rw[s9 QJ]at e2;cases e2;exact⟨u,r,.inl ⟨hk,by simp⟩⟩
   ·rw[bV (bR hj)]at e2;obtain⟨u',r',q⟩:=hl j y v' e1 e2 e3;refine⟨u',r',?_⟩;rcases q with⟨k,e⟩ | ⟨k,c,e,z⟩
    ·refine .inl ⟨k,?_⟩;have:y≠x:=λe=>hj (vP hN e1 (e▸hi))
     simp[this,e]
    ·exact .inr ⟨k,c,e,z.sameBut hs (Mi y c e)⟩
  ·obtain⟨w',z⟩:=I.cell y c e;exact⟨w',z.sameBut hs (Mi y c e)⟩
  ·obtain⟨e,n,ne,nf,d⟩:=I.pin p hp;exact⟨(hs.2 p.1 ne).trans e,n,ne,nf,d⟩
 ·have QK:X.fn x=true:=by
   grind
  obtain⟨c,hc⟩:=I.ok.has x (.inl hk);obtain⟨w',z⟩:=I.cell x c hc;refine wpAny_storeName_cell I.ok.kind hk hc z (λh' Dn hs=>?_)
  obtain⟨oc,YU,aaK⟩:=id z;refine h {s with heap:=h'} ⟨I.ok,I.os,I.bare,⟨λb o e n hb hx=>?_,λb o e n hb hx=>?_,I.base.free,λb o e hx=>?_,I.base.tups,I.base.frzs,I.base.tbls⟩,⟨m,hn.sameBut hs (bR (Mi x c hc)),λj y v' e1 e2 e3=>?_⟩,λy c' e=>?_,I.free,I.freeC,λp hp=>?_,Aq ⟨oc,YU,I.freeC x c hc⟩ hs,by simpa using I.len⟩ ⟨c,hs,.inr hc⟩
  ·exact(hs.2 b (aZ (bQ (aG e) (I.ok.cab x c QK hc)))).trans (I.base.keep b o e n hb hx)
  ·obtain⟨sl,e1⟩:=I.base.slot b o e n hb hx;exact⟨sl,(hs.2 b (aZ (bQ (aG e) (I.ok.cab x c QK hc)))).trans e1⟩
  ·obtain⟨o',e1⟩:=I.base.there b o e hx;exact⟨o',(hs.2 b (aZ (bQ (aG e) (I.ok.cab x c QK hc)))).trans e1⟩
  ·by_cases hj:j=i
   ·subst hj;rw[hi]at e1;cases e1;rw[s9 QJ]at e2;cases e2;exact⟨u,r,.inr ⟨.inl hk,c,hc,Dn⟩⟩
   ·rw[bV (bR hj)]at e2;obtain⟨u',r',q⟩:=hl j y v' e1 e2 e3;refine⟨u',r',?_⟩;rcases q with q | ⟨k,c',e,z'⟩
    ·exact .inl q
    ·refine .inr ⟨k,c',e,z'.sameBut hs ?_⟩
     rintro rfl
     exact hj (vP hN e1 (I.ok.inj _ _ _ e hc▸hi))
  ·by_cases Mj:c'=c
   ·grind
   ·obtain⟨w2,z2⟩:=I.cell y c' e;exact⟨w2,z2.sameBut hs Mj⟩
  ·obtain⟨e,n,ne,nf,d⟩:=I.pin p hp;refine⟨(hs.2 p.1 ?_).trans e,n,ne,nf,d⟩;intro q;rw[q,YU]at e;have q':=bC e;exact d w' (by grind)
def o6(I:Inv X ah σ H s)(hN:X.N.Nodup)(hi:X.N[i]?=some x)(hx:KL X.env.scope x)(r:RelV v u)
  (h:∀s',Inv X ah (σ.set i (some v)) H s'->Q () s') (hf:X.fn x=true\/X.env.scope.names.lookup x=some .local):wpAny M A (storeName X.env x u) Q E s :=
 store_ok2 I hN hi hx r (λs' I' _=>h s' I') hf
def Inv.KO(I:Inv X ah σ H s)(ho:s'.os=s.os)(u:Un (kH X.stack) ch H H' s.heap s'.heap)(hok:kB X.prog X.w H' s'.heap)(hg:AllBare s'.gens)
  (KN:∀b∈ch,(b∈X.ex\/X.s₀.heap.objs.size<=b)/\b≠X.env.locals/\(∀x c,X.env.cells.lookup x=some c->c≠b)/\∀p∈X.pn++ah,p.1≠b):Inv X ah σ H' s':=by
 obtain⟨h',g',d',t',o'⟩:=s';have e:=ho;subst e;exact I.call u hok hg KN
end
abbrev XK:=Value->Option Addr->Hp->Prop
abbrev St:=List (Option V)
abbrev VK:=V->Hp->Prop
abbrev TE:=St->Hp->VK->Prop
abbrev TT:=St->Hp->(Bool->Hp->Prop)->Prop
abbrev TA:=St->Hp->(List V->Hp->Prop)->Prop
structure vR where
 nx:St->Hp->Prop
 rt:VK
 bk:St->Hp->Prop:=λ_ _=>False
 ct:St->Hp->Prop:=λ_ _=>False
abbrev TS:=vR->St->Hp->Prop
def EP(X:Cx)(ah:List (Addr×Obj))(σ:St)(Q:VK)(u:Value)(s':Shared):Prop:=∃v H',Inv X ah σ H' s'/\RelV v u/\Q v H'
def TP(X:Cx)(ah:List (Addr×Obj))(σ:St)(Q:Bool->Hp->Prop)(b:Bool)(s':Shared):Prop:=∃H',Inv X ah σ H' s'/\Q b H'
def AP(X:Cx)(ah:List (Addr×Obj))(σ:St)(Q:List V->Hp->Prop)(us:List Value)(s':Shared):Prop:=∃vs H',Inv X ah σ H' s'/\Vals vs us/\Q vs H'
def SP(X:Cx)(ah:List (Addr×Obj))(D:vR)(f:Flow)(s':Shared):Prop :=
 match f with
 | .next=>∃bz H',Inv X ah bz H' s'/\D.nx bz H'
 | .brk=>∃bz H',Inv X ah bz H' s'/\D.bk bz H'
 | .cont=>∃bz H',Inv X ah bz H' s'/\D.ct bz H'
 | .ret u=>∃v bz H',Inv X ah bz H' s'/\RelV v u/\D.rt v H'
def PE(X:Cx)(e:Expr)(t:TE):Prop :=
 ∀(ah:List (Addr×Obj)) (s:Shared) (σ:St) (H:Hp) (Q:VK),Inv X ah σ H s->t σ H Q->wpAny (model X.prog X.w) X.A (eval e X.env) (EP X ah σ Q) X.xe s
def PT(X:Cx)(e:Expr)(t:TT):Prop :=
 ∀(ah:List (Addr×Obj)) (s:Shared) (σ:St) (H:Hp) (Q:Bool->Hp->Prop),Inv X ah σ H s->t σ H Q->wpAny (model X.prog X.w) X.A (isTrue e X.env (eval e X.env)) (TP X ah σ Q) X.xe s
def PW(X:Cx)(e:Expr)(t:TT):Prop :=
 ∀(iw:Sem Value) (ah:List (Addr×Obj)) (s:Shared) (σ:St) (H:Hp) (Q:Bool->Hp->Prop),Inv X ah σ H s->t σ H Q->wpAny (model X.prog X.w) X.A (isTrue e X.env iw) (TP X ah σ Q) X.xe s
def PW.pt(h:PW X e t):PT X e t:=h _
def PA(X:Cx)(es:List Expr)(t:TA):Prop :=
 ∀(pos:Pos) (ah:List (Addr×Obj)) (s:Shared) (σ:St) (H:Hp) (Q:List V->Hp->Prop),Inv X ah σ H s->t σ H Q->wpAny (model X.prog X.w) X.A (spliced (backTo pos (starEach es X.env))) (AP X ah σ Q) X.xe s
def PS(X:Cx)(st:Stmt)(t:TS):Prop :=
 ∀(ah:List (Addr×Obj)) (s:Shared) (σ:St) (H:Hp) (D:vR),Inv X ah σ H s->t D σ H->wpAny (model X.prog X.w) X.A (exec st X.env) (SP X ah D) X.xe s
def PSs(X:Cx)(st:List Stmt)(t:TS):Prop :=
 ∀(ah:List (Addr×Obj)) (s:Shared) (σ:St) (H:Hp) (D:vR),Inv X ah σ H s->t D σ H->wpAny (model X.prog X.w) X.A (execs st X.env) (SP X ah D) X.xe s
def thn{α:Type}{t:Sem α}{Q Q':α->Shared->Prop}{M:Model}{A:Around}{E:Value->Shared->Prop}(h:wpAny M A t Q E s)(hQ:∀a s,Q a s->Q' a s):wpAny M A t Q' E s:=j3 h hQ λ_ _ x=>x
section
variable {X:Cx}
def Ml(i:Nat):TE:=λσ H Q=>∃v,σ[i]?=some (some v)/\Q v H
def tC(v:V):TE:=λ_ H Q=>Q v H
def pe_var{i:Nat}{x:Str}{pos:Pos}(hN:X.N[i]?=some x)(hv:QE X.env.scope x)(hd:(x==("__debug__":Str))=false:=by decide)(xM:(x==("__classdict__":Str))=false:=by decide):PE X (.Name x pos) (Ml i):=by
 intro ah s σ H Q I h;obtain⟨v,e,h⟩:=h;obtain⟨m,hn,hl⟩:=I.loc;obtain⟨u,r,l⟩:=hl i x v hN e hv;have jr:EP X ah σ Q u s:=⟨v,H,I,r,h⟩;rcases l with⟨hk,hm⟩ | ⟨hk,c,hc,rF⟩
 ·exact wpAny_Name (wpAny_loadName_local I.ok.kind hk hn hm jr) hd
 ·rcases hk with hk | hk
  ·exact wpAny_Name (wpAny_loadName_cell I.ok.kind hk hc rF jr) hd
  ·exact wpAny_Name (wpAny_loadName_free I.ok.kind hk hc rF jr xM) hd
def Mm{i j pos}:PE X (.Constant (.int i) j pos) (tC (.int i)):=λ_ _ _ H _ I h=>wpAny_Constant_int ⟨.int i,H,I.tok _,⟨_,rfl⟩,h⟩
def QL{b j pos}:PE X (.Constant (.bool b) j pos) (tC (.bl b)):=λ_ _ _ H _ I h=>Constant_bool ⟨.bl b,H,I,rfl,h⟩
def Mn{j pos}:PE X (.Constant .none j pos) (tC .aL):=λ_ _ _ H _ I h=>Constant_none ⟨.aL,H,I,rfl,h⟩
def Mo{x j pos}:PE X (.Constant (.str x) j pos) (tC (.str x)):=λ_ _ _ H _ I h=>Calls.Constant_str ⟨.str x,H,I.tok _,⟨_,rfl⟩,h⟩
def Gl(X:Cx)(x:Str):Prop:=X.env.kindOf x=some .globalImplicit
def ld_glob{E:Value->Shared->Prop}{ah:List (Addr×Obj)}{s:Shared}{σ:St}{H:Hp}{x:Str}{u:Value}{pos:Pos}{Q:Value->Shared->Prop}(I:Inv X ah σ H s)(hg:Gl X x)(hm:X.mg x=some u)(h:Q u s)
  (hd:(x==("__debug__":Str))=false:=by decide):wpAny (model X.prog X.w) X.A (eval (.Name x pos) X.env) Q E s :=
 DA I.ok.kind hg (Calls.loadGlobal_global (by rw[I.ok.glob];exact I.mod.glob.keeps I.bk) hm h) hd
def ld_blt{E:Value->Shared->Prop}{ah:List (Addr×Obj)}{s:Shared}{σ:St}{H:Hp}{x:Str}{u:Value}{pos:Pos}{Q:Value->Shared->Prop}(I:Inv X ah σ H s)(hg:Gl X x)(hm:X.mg x=none)(hv:bootBuiltins x=some u)(h:Q u s)
  (hn:x≠"__name__":=by decide) (hd:(x==("__debug__":Str))=false:=by decide):wpAny (model X.prog X.w) X.A (eval (.Name x pos) X.env) Q E s:=by
 obtain⟨mb,h1,h2⟩:=I.mod.blt;exact DA I.ok.kind hg (Calls.loadGlobal_builtin (by rw[I.ok.glob];exact I.mod.glob.keeps I.bk) hm (by rw[I.ok.blt];exact h1.keeps I.bk) ((h2 x hn).trans hv) h) hd
def uj(hg:Gl X x)(hm:X.mg x=some u)(r:RelV v u)(hd:(x==("__debug__":Str))=false:=by decide):PE X (.Name x pos) (tC v) :=
 λ_ _ _ H _ I h=>ld_glob I hg hm ⟨v,H,I,r,h⟩ hd
def HU{x:Str}{v:V}{u:Value}{pos:Pos}(hg:Gl X x)(hm:X.mg x=none)(hv:bootBuiltins x=some u)(r:RelV v u)(hn:x≠"__name__":=by decide)(hd:(x==("__debug__":Str))=false:=by decide):PE X (.Name x pos) (tC v) :=
 λ_ _ _ H _ I h=>ld_blt I hg hm hv ⟨v,H,I,r,h⟩ hn hd
variable {a b:Expr} {ta tb:TE} {pos:Pos}
variable {tA U0:TT} {rest:List Expr}
def VV(t u:TT):TT:=λσ H Q=>t σ H λc H1=>if c=true then u σ H1 Q else Q false H1
def tOr(t u:TT):TT:=λσ H Q=>t σ H λc H1=>if c=true then Q true H1 else u σ H1 Q
def VW(t:TT):TT:=λσ H Q=>t σ H λc H1=>Q (!c) H1
def HV(ha:PT X a tA):PW X (.BoolOp .And [a] pos) tA:=by
 intro wh ah s σ H Q I h;refine isTrue_and (thn (ha ah s σ H Q I h) λc s1 e=>?_)
 cases c with
 | true=>exact isTrue_and_nil e
 | false=>exact e
def Mp(ha:PT X a tA):PW X (.BoolOp .Or [a] pos) tA:=by
 intro wh ah s σ H Q I h;refine isTrue_or (thn (ha ah s σ H Q I h) λc s1 e=>?_)
 cases c with
 | false=>exact isTrue_or_nil e
 | true=>exact e
def Mq(ha:PT X a tA)(hb:PW X (.BoolOp .And (b::rest) pos) U0):PW X (.BoolOp .And (a::b::rest) pos) (VV tA U0):=by
 intro wh ah s σ H Q I h;refine isTrue_and (thn (ha ah s σ H _ I h) λc s1 ⟨H1,I1,q1⟩=>?_)
 cases c with
 | true=>exact hb wh ah s1 σ H1 Q I1 q1
 | false=>exact⟨H1,I1,q1⟩
def QM(ha:PT X a tA)(hb:PW X (.BoolOp .Or (b::rest) pos) U0):PW X (.BoolOp .Or (a::b::rest) pos) (tOr tA U0):=by
 intro wh ah s σ H Q I h;refine isTrue_or (thn (ha ah s σ H _ I h) λc s1 ⟨H1,I1,q1⟩=>?_)
 cases c with
 | true=>exact⟨H1,I1,q1⟩
 | false=>exact hb wh ah s1 σ H1 Q I1 q1
def Mr(ha:PT X a tA):PT X (.UnaryOp .Not a pos) (VW tA):=by
 intro ah s σ H Q I h;exact isTrue_not (ha ah s σ H (λc H1=>Q (!c) H1) I h)
def QN(ta:TE):TE:=λσ H Q=>ta σ H λx H1=>∃c,x=.bl c/\Q (.bl (!c)) H1
def D2{op}(h:PE X a t):PE X (.BoolOp op [a] pos) t:=λah s σ H Q I hw=>BoolOp_one (h ah s σ H Q I hw)
def Ms(ha:PE X a ta):PE X (.UnaryOp .Not a pos) (QN ta):=by
 intro ah s σ H Q I h;refine UnaryOp_ (thn (ha ah s σ H _ I h) λv s1 ⟨x,H1,I1,r1,q1⟩=>?_)
 obtain⟨c,rfl,q1⟩:=q1;cases r1;exact not_of (iM ⟨.bl (!c),H1,I1,rfl,q1⟩)
def tIf(t:TT)(ta tb:TE):TE:=λσ H Q=>t σ H λc H1=>if c=true then ta σ H1 Q else tb σ H1 Q
def D3(hc:PT X c tA)(ha:PE X a ta)(hb:PE X b tb):PE X (.IfExp c a b pos) (tIf tA ta tb):=by
 intro ah s σ H Q I h;refine wpAny_IfExp (thn (hc ah s σ H _ I h) λd s1 ⟨H1,I1,q1⟩=>?_)
 cases d with
 | true=>exact ha ah s1 σ H1 Q I1 q1
 | false=>exact hb ah s1 σ H1 Q I1 q1
end
def uk(K:W.Frag)(H:Hp)(a:Addr)(xs:List V):Prop :=
 Rd H a (.lst xs) \/
  ∃(o:Obj) (aw:Array Value) (n:Nat),K.lookup a=some o/\o.cls=.type "list"/\o.dict=none/\o.data=.seq aw n/\aw.size<=sizeLine/\Vals xs aw.toList
def gZ.sq{K:W.Frag}{H:Hp}{a:Addr}{xs:List V}(h:gZ K H a xs):uk K H a xs:=by
 rcases h with h | ⟨aw,n,e,z,r⟩
 ·exact .inl h
 ·exact .inr ⟨_,aw.toArray,n,e,rfl,rfl,rfl,by grind,by grind⟩
noncomputable def VX:Value->Option V
 | .none=>some .aL
 | .bool b=>some (.bl b)
 | .int i _=>some (.int i)
 | .str x _=>some (.str x)
 | .bytes b _=>some (.PY b)
 | .float b _=>some (.UQ b)
 | .ref a=>some (.ref a)
 | .type n=>some (.ty n)
 | _=>none
def RelV.abs(r:RelV x u):VX u=some x:=by
 cases x with
 | aL=>cases r;rfl
 | bl _=>cases r;rfl
 | int _=>obtain⟨t,rfl⟩:=r;rfl
 | str _=>obtain⟨t,rfl⟩:=r;rfl
 | PY _=>obtain⟨t,rfl⟩:=r;rfl
 | UQ _=>obtain⟨t,rfl⟩:=r;rfl
 | ref _=>cases r;rfl
 | ty _=>cases r;rfl
def RelV.inj(r:RelV x u)(q:RelV y u):x=y:=bC (r.abs.symm.trans q.abs)
theorem Vals.inj:∀{xs ys:List V} {us:List Value},Vals xs us->Vals ys us->xs=ys
 | _,_,_,.nil,.nil=>rfl
 | _,_,_,.cons r t,.cons r' t'=>by rw[r.inj r',Vals.inj t t']
section
variable {X:Cx} {ah:List (Addr×Obj)} {σ:St} {H:Hp} {s:Shared} {a:Addr} {xs ys:List V}
def gY.of{K:W.Frag}(h:H a=some (.aq xs)):gY K H a xs:=.inl (.inl h)
def Inv.list(I:Inv X ah σ H s)(h:uk X.K H a xs):∃aw:List Value,Vals xs aw/\PlainL s.heap a aw.toArray/\xs.length<=sizeLine:=by
 rcases h with h | ⟨o,aw,n,hk,hc,hd,hs,hz,r⟩
 ·obtain⟨z,aw,n,r,e⟩:=h.ok I.hok;exact⟨aw,r,⟨_,n,e,rfl,rfl,rfl⟩,z⟩
 ·refine⟨aw.toList,r,⟨o,n,I.mh a o hk,hc,hd,by simp_all⟩,?_⟩
  have e:=r.length;simp only[lR]at e
  lia
def Inv.Mt(I:Inv X ah σ H s)(h:gY X.K H a xs):∃aw:List Value,Vals xs aw/\mY s.heap a aw.toArray/\xs.length<=sizeLine:=by
 rcases h with h | ⟨o,aw,n,hk,hc,⟨hs,hd⟩,hz,r⟩
 ·obtain⟨z,aw,r,p⟩:=h.ok I.hok;exact⟨aw,r,p,z⟩
 ·refine⟨aw.toList,r,⟨o,I.mh a o hk,hc,⟨n,by simp_all⟩,hd⟩,?_⟩
  have e:=r.length;simp only[lR]at e
  lia
def Inv.tuple(I:Inv X ah σ H s)(h:gY X.K H a xs):∃aw:List Value,Vals xs aw/\IsTup s.heap a aw.toArray/\xs.length<=sizeLine:=by
 obtain⟨aw,r,p,z⟩:=I.Mt h;exact⟨aw,r,p.is,z⟩
def Inv.kL(I:Inv X ah σ H s)(h:uk X.K H a xs)(h':uk X.K H a ys):xs=ys:=by
 obtain⟨aw,r,⟨o,n,e,_,_,d⟩,_⟩:=I.list h;obtain⟨its',r',⟨o',n',e',_,_,d'⟩,_⟩:=I.list h';rw[e]at e';cases e';rw[d]at d';injection d' with d1 _
 have:aw=its':=by grind
 subst this;exact r.inj r'
def Inv.js(I:Inv X ah σ H s)(h:gY X.K H a xs)(h':gY X.K H a ys):xs=ys:=by
 obtain⟨aw,r,⟨o,e,_,n,d⟩,_⟩:=I.tuple h;obtain⟨its',r',⟨o',e',_,n',d'⟩,_⟩:=I.tuple h';rw[e]at e';cases e';rw[d]at d';injection d' with d1 _
 have:aw=its':=by grind
 subst this;exact r.inj r'
end
section
variable {X:Cx} {st:Stmt} {rest:List Stmt} {t u:TS} {e:Expr} {te:TE} {pos:Pos}
def KP:TS:=λD σ H=>D.nx σ H
def VY(t u:TS):TS:=λD σ H=>t {D with nx:=u D} σ H
def HW:PSs X [] KP:=λ_ _ σ H _ I h=>tO ⟨σ,H,I,h⟩
def D4(h1:PS X st t)(h2:PSs X rest u):PSs X (st::rest) (VY t u):=by
 intro ah s σ H D I h;refine wpAny_execs_cons (thn (h1 ah s σ H {D with nx:=u D} I h) λf s1 q=>?_)
 cases f with
 | next =>
  obtain⟨bz,H',I',q⟩:=q;exact h2 ah s1 bz H' D I' q
 | ret v=>exact q
 | brk=>exact q
 | cont=>exact q
def HX(h1:PS X st t):PSs X [st] t:=by
 intro ah s σ H D I h;refine wpAny_execs_cons (thn (h1 ah s σ H D I h) λf s1 q=>?_)
 cases f with
 | next=>exact tO q
 | ret v=>exact q
 | brk=>exact q
 | cont=>exact q
def Mu:TS:=λD σ H=>D.bk σ H
def QO:TS:=λD σ H=>D.ct σ H
def HY:PS X (.Pass pos) KP:=λ_ _ σ H _ I h=>wpAny_Pass ⟨σ,H,I,h⟩
def D5:PS X (.Break pos) Mu:=λ_ _ σ H _ I h=>wpAny_Break ⟨σ,H,I,h⟩
def vS:PS X (.Continue pos) QO:=λ_ _ σ H _ I h=>wpAny_Continue ⟨σ,H,I,h⟩
def Inv.quiet{ah:List (Addr×Obj)}{σ:St}{H:Hp}{s:Shared}(I:Inv X ah σ H s):interactive X.env=false:=by simp[interactive,I.ok.kind]
def QP(te:TE):TS:=λD σ H=>te σ H λ_ H1=>D.nx σ H1
def HZ(he:PE X e te)(hs:swapsWith e none pos.line X.env=pure false:=by rfl):PS X (.Expr e pos) (QP te):=by
 intro ah s σ H D I h;exact wpAny_Expr_any (thn (he ah s σ H _ I h) (by rintro v s1 ⟨x,H1,I1,r1,q1⟩;exact⟨σ,H1,I1,q1⟩)) I.quiet hs
def VZ(te:TE):TS:=λD σ H=>te σ H D.rt
def Mv(he:PE X e te):PS X (.Return (some e) pos) (VZ te):=by
 intro ah s σ H D I h;exact wpAny_Return_some (thn (he ah s σ H _ I h) (by rintro v s1 ⟨x,H1,I1,r1,q1⟩;exact⟨x,σ,H1,I1,r1,q1⟩))
def QQ:TS:=λD _ H=>D.rt .aL H
def H0:PS X (.Return none pos) QQ:=λ_ _ σ H _ I h=>wpAny_Return_none ⟨.aL,σ,H,I,rfl,h⟩
def V1(c:TT)(t u:TS):TS:=λD σ H=>c σ H λb H1=>if b=true then t D σ H1 else u D σ H1
def QR(hc:PT X c tc)(ha:PSs X a t)(hb:PSs X b u):PS X (.If c a b pos) (V1 tc t u):=by
 intro ah s σ H D I h;refine wpAny_If (thn (hc ah s σ H _ I h) λd s1 ⟨H1,I1,q1⟩=>?_)
 cases d with
 | true=>exact ha ah s1 σ H1 D I1 q1
 | false=>exact hb ah s1 σ H1 D I1 q1
end
abbrev TG:=V->St->Hp->(St->Hp->Prop)->Prop
abbrev KQ:=List V->St->Hp->(St->Hp->Prop)->Prop
def PG(X:Cx)(target:Expr)(t:TG):Prop :=
 ∀(ah:List (Addr×Obj)) (s:Shared) (σ:St) (H:Hp) (v:V) (u:Value) (Q:St->Hp->Prop),Inv X ah σ H s->RelV v u->t v σ H Q ->
  wpAny (model X.prog X.w) X.A (assign target X.env u) (λ_ s'=>∃bz H',Inv X ah bz H' s'/\Q bz H') X.xe s
def PGs(X:Cx)(ts:List Expr)(t:KQ):Prop :=
 ∀(ah:List (Addr×Obj)) (s:Shared) (σ:St) (H:Hp) (vs:List V) (us:List Value) (Q:St->Hp->Prop),Inv X ah σ H s->Vals vs us->t vs σ H Q ->
  wpAny (model X.prog X.w) X.A (assignInOrder ((assignEach ts X.env).map (·.2)) us) (λ_ s'=>∃bz H',Inv X ah bz H' s'/\Q bz H') X.xe s
abbrev D6:=V->V->V->Hp->(Hp->Prop)->Prop
def D7(X:Cx)(t:D6):Prop :=
 ∀(ah:List (Addr×Obj)) (s:Shared) (σ:St) (H:Hp) (o i v:V) (ov iv u:Value) (Q:Hp->Prop),Inv X ah σ H s->RelV o ov->RelV i iv->RelV v u->t o i v H Q ->
  wpAny (model X.prog X.w) X.A (setItem ov iv u) (λ_ s'=>∃H',Inv X ah σ H' s'/\Q H') X.xe s
abbrev YV:=V->V->Hp->VK->Prop
def PIp(X:Cx)(op:Operator)(t:YV):Prop :=
 ∀(ah:List (Addr×Obj)) (s:Shared) (σ:St) (H:Hp) (x y:V) (v u:Value) (Q:VK),Inv X ah σ H s->RelV x v->RelV y u->t x y H Q ->
  wpAny (model X.prog X.w) X.A (inplaceOp op v u) (EP X ah σ Q) X.xe s
section
variable {X:Cx} {pos:Pos}
def gName(i:Nat):TG:=λv σ H Q=>Q (σ.set i (some v)) H
def H9(hN:X.N.Nodup)(hi:X.N[i]?=some x)(hx:KL X.env.scope x)(hf:X.fn x=true\/X.env.scope.names.lookup x=some .local):PG X (.Name x pos) (gName i):=by
 intro ah s σ H v u Q I r h;exact wpAny_assign_Name (o6 I hN hi hx r (λs' I'=>⟨_,H,I',h⟩) hf)
def V2:KQ:=λvs σ H Q=>vs=[]/\Q σ H
def QS(t:TG)(u:KQ):KQ:=λvs σ H Q=>∃v r,vs=v::r/\t v σ H λbz H'=>u r bz H' Q
def Ia:PGs X [] V2:=by
 intro ah s σ H vs us Q I r h;obtain⟨e,h⟩:=h;subst e;cases r;exact assignInOrder_nil ⟨σ,H,I,h⟩
def D8(h1:PG X e t)(h2:PGs X es u)
  (hs:(assignEach (e::es) X.env).map (·.2)=assign e X.env::(assignEach es X.env).map (·.2):=by rfl):PGs X (e::es) (QS t u):=by
 intro ah s σ H vs us Q I r h;obtain⟨v,vr,e1,h⟩:=h;subst e1;cases r with
 | cons r rr =>
  rw[hs];refine assignInOrder_cons (thn (h1 ah s σ H _ _ _ I r h) λ_ s1 ⟨g8,H1,I1,q1⟩=>?_)
  exact h2 ah s1 g8 H1 _ _ Q I1 rr q1
def V3(K:W.Frag)(n:Nat)(t:KQ):TG:=λv σ H Q=>∃a xs,v=.ref a/\gY K H a xs/\xs.length=n/\t xs σ H Q
def Mw{es:List Expr}{k:Nat}{t:KQ}{n:Nat}(hc:X.calm=true)(h:PGs X es t)
  (hn:(assignEach es X.env).length=n:=by rfl) (qO:(assignEach es X.env).findIdx? (·.1)=none:=by rfl):PG X (.Tuple es k pos) (V3 X.K n t):=by
 intro ah s σ H v u Q I r hw;obtain⟨a,xs,e1,hq,hl,hw⟩:=hw;subst e1;cases r;obtain⟨aw,rv,ht,hz⟩:=I.tuple hq;refine assign_Tuple_tuple (I.ok.hd hc) ht (by simp[hn,<-hl,rv.length]) qO λh' hx=>?_
 have I1:=I.kept (t':=s.toks) λb o e=>hx b o (aZ (aG e)) e
 exact h ah _ σ H xs _ Q I1 (by grind) hw
def V4(to ti:TE)(t:D6):TG:=λv σ H Q=>to σ H λo H1=>ti σ H1 λi H2=>t o i v H2 λH3=>Q σ H3
def Mx(ho:PE X o to)(hi:PE X i ti)(hs:D7 X t)
  (ha:∀v,assign (.Subscript o i pos) X.env v=(do
   let ov <-holding [v] (eval o X.env)
   let iv <-holding [v,ov] (eval i X.env)
   standAt pos
   holding [v,ov,iv] (setItem ov iv v)
   release [v,ov,iv] []):=by intro _;rfl):PG X (.Subscript o i pos) (V4 to ti t):=by
 intro ah s σ H v u Q I r h;rw[ha];refine ai (dB (thn (ho ah s σ H _ I h) λov s1 ⟨x,H1,I1,r1,q1⟩=>?_))
 refine ai (dB (thn (hi ah s1 σ H1 _ I1 q1) λiv s2 ⟨y,H2,I2,r2,q2⟩=>?_))
 refine ai (t9 (ai (dB (thn (hs ah s2 σ H2 x y v ov iv u _ I2 r1 r2 r q2) λ_ s3 ⟨H3,I3,q3⟩=>?_))))
 exact wpAny_release ⟨σ,H3,I3,q3⟩
def Ib(te:TE)(g:TG):TS:=λD σ H=>te σ H λx H1=>g x σ H1 D.nx
def D9(he:PE X e te)(hg:PG X tg g)(hs:swapsWithSole [tg] e pos.line X.env=pure false:=by rfl)(hw:swappedStores [tg] e X.env=pure none:=by rfl)
  (h1:(assignEach [tg] X.env).map (·.2)=[assign tg X.env]:=by rfl):PS X (.Assign [tg] e pos) (Ib te g):=by
 intro ah s σ H D I h;refine wpAny_Assign_stores (thn (he ah s σ H _ I h) λv s1 ⟨x,H1,I1,r1,q1⟩=>?_) hs hw
 rw[h1];exact thn (hg ah s1 σ H1 x v _ I1 r1 q1) λ_ s2 q=>q
def My(hN:X.N.Nodup)(hi:X.N[i]?=some x)(hx:KL X.env.scope x)(he:PE X e te)(hs:swapsWith e (some (.Name x mZ)) pos.line X.env=pure false:=by rfl)(hf:X.fn x=true\/X.env.scope.names.lookup x=some .local) :
  PS X (.Assign [.Name x mZ] e pos) (Ib te (gName i)):=by
 intro ah s σ H D I h;refine wpAny_Assign_Name (thn (he ah s σ H _ I h) λv s1 ⟨y,H1,I1,r1,q1⟩=>?_) hs
 exact o6 I1 hN hi hx r1 (λs2 I2=>⟨_,H1,I2,q1⟩) hf
def V5(i:Nat)(te:TE)(ti:YV):TS:=λD σ H=>∃x,σ[i]?=some (some x)/\te σ H λy H1=>ti x y H1 λz H2=>D.nx (σ.set i (some z)) H2
def Mz(hN:X.N.Nodup)(hi:X.N[i]?=some x)(hx:KL X.env.scope x)(he:PE X e te)(ho:PIp X op ti)(hf:X.fn x=true\/X.env.scope.names.lookup x=some .local) :
  PS X (.AugAssign (.Name x mZ) op e pos) (V5 i te ti):=by
 intro ah s σ H D I h;obtain⟨v,e1,h⟩:=h;obtain⟨m,hn,hl⟩:=I.loc;have P6:QE X.env.scope x:=by rcases hx with k | k;exact .inl k;exact .inr (.inl k)
 obtain⟨u,r,l⟩:=hl i x v hi e1 P6;refine wpAny_AugAssign_Name ?_;have go:wpAny (model X.prog X.w) X.A (eval e X.env) (λw MA=>wpAny (model X.prog X.w) X.A (inplaceOp op u w) (λr V6=>wpAny (model X.prog X.w) X.A (storeName X.env x r) (λ_=>SP X ah D .next) X.xe V6) X.xe MA) X.xe s:=by
  refine thn (he ah s σ H _ I h) λw s1 ⟨y,H1,I1,r1,q1⟩=>?_
  refine thn (ho ah s1 σ H1 v y u w _ I1 r r1 q1) λz s2 ⟨zv,H2,I2,r2,q2⟩=>?_
  exact o6 I2 hN hi hx r2 (λs3 I3=>⟨_,H2,I3,q2⟩) hf
 rcases l with⟨hk,hm⟩ | ⟨hk,c,hc,rF⟩
 ·exact wpAny_loadName_local I.ok.kind hk hn hm go
 ·rcases hk with hk | hk
  ·exact wpAny_loadName_cell I.ok.kind hk hc rF go
  ·rcases hx with k | k
   ·have:X.env.scope.names.lookup x=some .free:=hk;rw[k]at this;cases this
   ·have:X.env.scope.names.lookup x=some .free:=hk;rw[k]at this;cases this
end
section
variable {X:Cx} {pos:Pos}
def MB(c:TT)(tb:TS):TS:=λD σ H=>∃W:Nat->St->Hp->Prop,(∃m,W m σ H)/\∀m σ H,W m σ H ->
 c σ H λb H1=>if b=true then ∃N:St->Hp->Prop,(∀bz H',N bz H'->∃m',m'<m/\W m' bz H')/\tb {D with nx:=N,ct:=N,bk:=D.nx} σ H1 else D.nx σ H1
def Ea(hp:PassesOwn (model X.prog X.w) X.A X.env X.xe)(hc:PT X c tc)(hb:PSs X body tb):PS X (.While c body [] pos) (MB tc tb):=by
 intro ah s σ H D I h;obtain⟨W,⟨m0,w0⟩,o7⟩:=h;refine wpAny_While (codeAny_whileLoop (λn s'=>∃bz H',Inv X ah bz H' s'/\W n bz H') ?_ m0 ⟨σ,H,I,w0⟩)
 rintro n s1 ⟨g8,H1,I1,w1⟩
 refine jU hp (thn (hc ah s1 g8 H1 _ I1 (o7 n g8 H1 w1)) λb s2 ⟨H2,I2,q2⟩=>?_)
 cases b with
 | true =>
  obtain⟨N,hN,q2⟩:=q2;rw[if_pos rfl];refine jU hp (thn (hb ah s2 g8 H2 _ I2 q2) λf s3 q3=>?_)
  cases f with
  | next =>
   obtain⟨m7,H3,I3,n3⟩:=q3;obtain⟨m',hm,w3⟩:=hN m7 H3 n3;exact⟨m',hm,m7,H3,I3,w3⟩
  | cont =>
   obtain⟨m7,H3,I3,n3⟩:=q3;obtain⟨m',hm,w3⟩:=hN m7 H3 n3;exact⟨m',hm,m7,H3,I3,w3⟩
  | brk=>exact q3
  | ret v=>exact q3
 | false =>
  rw[if_neg bB];exact tO ⟨g8,H2,I2,q2⟩
end
structure It where
 go:Nat->Hp->Prop
 yld:Nat->Hp->V->Hp->Prop
 stop:Nat->Hp->Prop
def o8(X:Cx)(ah:List (Addr×Obj))(H:Hp)(b:Addr):Prop :=
 H b=none/\b≠X.env.locals/\b∉X.fs/\(b∈X.ex\/X.s₀.heap.objs.size<=b)/\(∀x c,X.env.cells.lookup x=some c->c≠b)/\∀p∈X.pn++ah,p.1≠b
def Inv.um{X:Cx}{ah:List (Addr×Obj)}{σ:St}{H H':Hp}{s:Shared}{b:Addr}(I:Inv X ah σ H s)(hb:s.heap.objs.size<=b)(hn:H' b=none):o8 X ah H' b:=by
 refine⟨hn,oK (bQ I.lt hb),I.VS hb,.inr (aJ I.sz hb),λx c e z=>?_,λp hp z=>?_⟩
 ·obtain⟨v,q⟩:=I.cell x c e;exact absurd (bQ q.lt (by grind)) (eI _)
 ·exact absurd (bQ (aG (I.pin p hp).1) (by grind)) (eI _)
structure Turn (P:Program) (w:World) (K:W.Frag) (tg:Expr) (J:It) (fp:List Addr) (it:Addr) (tn:Nat->Heap->Prop):Prop where
 mem:it∈fp
 obj:∀i h,tn i h->∀b∈fp,∃o,h.get? b=some o/\∀v,o.data≠.cell v
 keep:∀i h h',tn i h->(∀b∈fp,∀o,h.get? b=some o->h'.get? b=some o)->tn i h'
 item:∀(X:Cx),X.prog=P->X.w=w->X.K=K->X.calm=true->∀(i:Nat) (ah:List (Addr×Obj)) (s:Shared) (σ:St) (H:Hp) (E:Value->Shared->Prop),Inv X ah σ H s->(∀b∈fp,o8 X ah H b)->tn i s.heap->J.go i H ->
  wpAny (model P w) X.A (pyNext (.ref it)) (λr s1=>∃u,r=some u /\
   wpAny (model P w) X.A (letOwnedTupleGo tg (.ref it) u) (λ_ s2=>∃x H',Inv X ah σ H' s2/\RelV x u/\J.yld i H x H'/\tn (i+1) s2.heap/\∀b∈fp,H' b=none) E s1) E s
 done:∀(X:Cx),X.prog=P->X.w=w->X.K=K->X.calm=true->∀(i:Nat) (ah:List (Addr×Obj)) (s:Shared) (σ:St) (H:Hp) (E:Value->Shared->Prop),Inv X ah σ H s->(∀b∈fp,o8 X ah H b)->tn i s.heap->J.stop i H ->
  wpAny (model P w) X.A (pyNext (.ref it)) (λr s1=>r=none/\Inv X ah σ H s1) E s
 self:∀(A:Around) (i:Nat) (s:Shared) (Q:Value->Shared->Prop) (E:Value->Shared->Prop),tn i s.heap->Q (.ref it) s->wpAny (model P w) A (pyIter (.ref it)) Q E s
abbrev TI:=St->Hp->(It->Hp->Prop)->Prop
def YW(X:Cx)(ah:List (Addr×Obj))(σ:St)(tg:Expr)(R:It->Hp->Prop)(V7:Value)(s2:Shared):Prop :=
 ∃(it:Addr) (fp:List Addr) (tn:Nat->Heap->Prop) (J:It) (H':Hp),V7=.ref it/\Inv X ah σ H' s2/\Turn X.prog X.w X.K tg J fp it tn/\tn 0 s2.heap/\(∀b∈fp,o8 X ah H' b)/\R J H'
def PI(X:Cx)(tg iter:Expr)(wi:TI):Prop :=
 ∀(ah:List (Addr×Obj)) (s:Shared) (σ:St) (H:Hp) (R:It->Hp->Prop),Inv X ah σ H s->wi σ H R ->
  wpAny (model X.prog X.w) X.A (eval iter X.env) (λv s1=>wpAny (model X.prog X.w) X.A (pyIter v) (YW X ah σ tg R) X.xe s1) X.xe s
def Ar(ho:s.heap.get? it=some o)(hc:o.cls=.type n)(hd:o.data=.fields vs)
  (hn:["enumerate","zip","dict_itemiterator","dict_reverseitemiterator","odict_iterator","itertools.zip_longest","itertools.pairwise"].contains n=false) (hQ:Q () s):wpAny M A (letOwnedTupleGo tg (.ref it) u) Q E s:=by
 unfold letOwnedTupleGo;cases tg<;>first
  | exact ak hQ
  | (cases u<;>first
    | exact ak hQ
    | (refine ai (wpAny_load ho ?_)
       rw[hc,hd];show wpAny M A (if(["enumerate","zip","dict_itemiterator","dict_reverseitemiterator","odict_iterator","itertools.zip_longest","itertools.pairwise"].contains n&&vs[0]?==some (rawInt _))=true then _ else _) Q E s
       rw[if_neg (by grind)]
       exact ak hQ))
noncomputable def U1(K:W.Frag)(a:Addr):It :=
 ⟨λi H=>∃xs x,uk K H a xs/\xs[i]?=some x,λi H x H'=>H'=H/\∀xs,uk K H a xs->xs[i]?=some x,λi H=>∃xs,uk K H a xs/\xs.length<=i⟩
noncomputable def V8(K:W.Frag)(a:Addr):It :=
 ⟨λi H=>∃xs x,gY K H a xs/\xs[i]?=some x,λi H x H'=>H'=H/\∀xs,gY K H a xs->xs[i]?=some x,λi H=>∃xs,gY K H a xs/\xs.length<=i⟩
noncomputable def U2(lo:Int)(n:Nat):It:=⟨λi _=>i<n,λi H x H'=>H'=H/\x=.int (lo+i),λi _=>n<=i⟩
def B2{P:Program}{w:World}{K:W.Frag}{tg:Expr}(a it:Addr):Turn P w K tg (U1 K a) [it] it (λi h=>h.IsListIter it a i) where
 mem:=by simp
 obj:=λi h st b hb=>by
  have e:b=it:=by grind
  subst e;obtain⟨o,e,c,d⟩:=st;exact⟨o,e,λv z=>by grind⟩
 keep:=λi h h' st k=>st.at λo e=>k it (by simp) o e
 item:=by
  intro X hP hw hK hc i ah s σ H E I hf st hg;subst hP hw hK;obtain⟨xs,x,hq,hx⟩:=hg;obtain⟨aw,rv,p,hz⟩:=I.list hq;obtain⟨u,hu,ru⟩:=rv.get hx;obtain⟨f0,f1,f2,f3,f4,f5⟩:=hf it (by simp)
  refine wpAny_pyNext_list_item st p.isList (by simpa using hu) λh' st' sb=>?_
  have I1:=I.turned (t':=s.toks) (λb o hb e=>(sb.2 b hb).trans e) f0 f1 f3 f4 f5
  obtain⟨o,e,c,d⟩:=id st';exact⟨u,rfl,Ar e c d (by decide) ⟨x,H,I1,ru,⟨rfl,λys hy=>by rw[I.kL hy hq];exact hx⟩,st',λb hb=>(hf b hb).1⟩⟩
 done:=by
  intro X hP hw hK hc i ah s σ H E I hf st hg;subst hP hw hK;obtain⟨xs,hq,hx⟩:=hg;obtain⟨aw,rv,p,hz⟩:=I.list hq;obtain⟨f0,f1,f2,f3,f4,f5⟩:=hf it (by simp)
  have hl:=rv.length;exact wpAny_pyNext_list_end (I.ok.hd hc) st p.isList (by simp;lia) λh' eb=>⟨rfl,I.turned (λb o hb e=>eb b o hb e) f0 f1 f3 f4 f5⟩
 self:=λ_ _ _ _ _ st h=>wpAny_pyIter_listiter st h
def yO{P:Program}{w:World}{K:W.Frag}{tg:Expr}(a it:Addr):Turn P w K tg (V8 K a) [it] it (λi h=>h.IsTupleIter it a i) where
 mem:=by simp
 obj:=λi h st b hb=>by
  have e:b=it:=by grind
  subst e;obtain⟨o,e,c,d⟩:=st;exact⟨o,e,λv z=>by grind⟩
 keep:=λi h h' st k=>st.at λo e=>k it (by simp) o e
 item:=by
  intro X hP hw hK hc i ah s σ H E I hf st hg;subst hP hw hK;obtain⟨xs,x,hq,hx⟩:=hg;obtain⟨aw,rv,p,hz⟩:=I.tuple hq;obtain⟨u,hu,ru⟩:=rv.get hx;obtain⟨f0,f1,f2,f3,f4,f5⟩:=hf it (by simp)
  refine wpAny_pyNext_tuple_item st (p) (by simpa using hu) λh' st' sb=>?_
  have I1:=I.turned (t':=s.toks) (λb o hb e=>(sb.2 b hb).trans e) f0 f1 f3 f4 f5
  obtain⟨o,e,c,d⟩:=id st';exact⟨u,rfl,Ar e c d (by decide) ⟨x,H,I1,ru,⟨rfl,λys hy=>by rw[I.js hy hq];exact hx⟩,st',λb hb=>(hf b hb).1⟩⟩
 done:=by
  intro X hP hw hK hc i ah s σ H E I hf st hg;subst hP hw hK;obtain⟨xs,hq,hx⟩:=hg;obtain⟨aw,rv,p,hz⟩:=I.tuple hq;obtain⟨f0,f1,f2,f3,f4,f5⟩:=hf it (by simp)
  have hl:=rv.length;exact wpAny_pyNext_tuple_end (I.ok.hd hc) st (p) (by simp;lia) λh' eb=>⟨rfl,I.turned (λb o hb e=>eb b o hb e) f0 f1 f3 f4 f5⟩
 self:=λ_ _ _ _ _ st h=>wpAny_pyIter_tupleiter st h
def yP{P:Program}{w:World}{K:W.Frag}{tg:Expr}(it:Addr)(lo:Int)(n:Nat):Turn P w K tg (U2 lo n) [it] it (λi h=>IsRangeIter h it (lo+(i:Nat)*1) ((n:Int)-(i:Nat)) 1) where
 mem:=by simp
 obj:=λi h st b hb=>by
  grind
 keep:=λi h h' st k=>k it (by simp) _ st
 item:=by
  intro X hP hw hK hc i ah s σ H E I hf st hg;subst hP hw hK;obtain⟨f0,f1,f2,f3,f4,f5⟩:=hf it (by simp)
  have W:=Walks.range (prog:=X.prog) (w:=X.w) (I.ok.hd hc) it lo 1 n;refine W.item i s _ _ hg st λv h' tk hv st' kk=>?_
  obtain⟨t,rfl⟩:=hv;have I1:Inv X ah σ H {s with heap:=h',toks:=tk}:=I.turned (λb o hb e=>kk b o (by grind) e) f0 f1 f3 f4 f5
  refine⟨_,rfl,Ar st' rfl rfl (by decide) ⟨.int (lo+i),H,I1,⟨t,?_⟩,⟨rfl,rfl⟩,st',λb hb=>(hf b hb).1⟩⟩
  rw[Int.mul_one]
 done:=by
  intro X hP hw hK hc i ah s σ H E I hf st hg;subst hP hw hK;obtain⟨f0,f1,f2,f3,f4,f5⟩:=hf it (by simp)
  exact wpAny_pyNext_range_end (I.ok.hd hc) st (by have:n<=i:=hg;lia) λh' eb=>⟨rfl,I.turned (λb o hb e=>eb b o hb e) f0 f1 f3 f4 f5⟩
 self:=λ_ _ _ _ _ st h=>wpAny_pyIter_rangeiter st h
section
variable {X:Cx} {tg:Expr}
def QT(K:W.Frag)(tl:TE):TI:=λσ H R=>tl σ H λx H1=>∃a,x=.ref a/\(∃xs,uk K H1 a xs)/\R (U1 K a) H1
def V9(K:W.Frag)(tl:TE):TI:=λσ H R=>tl σ H λx H1=>∃a,x=.ref a/\(∃xs,gY K H1 a xs)/\R (V8 K a) H1
def As{l:Expr}{tl:TE}(hl:PE X l tl):PI X tg l (QT X.K tl):=by
 intro ah s σ H R I h;refine thn (hl ah s σ H _ I h) λv s1 ⟨x,H1,I1,r1,q1⟩=>?_
 obtain⟨a,e,⟨xs,hq⟩,q⟩:=q1;subst e;cases r1;obtain⟨aw,rv,p,hz⟩:=I1.list hq;refine yn p.isList ?_;refine⟨s1.heap.objs.size,[s1.heap.objs.size],_,_,H1,rfl,I1.kept λb o e=>aE _ e,B2 a _,⟨_,bu _ rfl,rfl,rfl⟩,λb hb=>?_,q⟩
 have e:b=s1.heap.objs.size:=by grind
 subst e;exact I1.um (az _) (I1.hok.fresh (az _))
def Eb{l:Expr}{tl:TE}(hl:PE X l tl):PI X tg l (V9 X.K tl):=by
 intro ah s σ H R I h;refine thn (hl ah s σ H _ I h) λv s1 ⟨x,H1,I1,r1,q1⟩=>?_
 obtain⟨a,e,⟨xs,hq⟩,q⟩:=q1;subst e;cases r1;obtain⟨aw,rv,p,hz⟩:=I1.tuple hq;refine wpAny_pyIter_tuple (p) ?_;refine⟨s1.heap.objs.size,[s1.heap.objs.size],_,_,H1,rfl,I1.kept λb o e=>aE _ e,yO a _,⟨_,bu _ rfl,rfl,rfl⟩,λb hb=>?_,q⟩
 have e:b=s1.heap.objs.size:=by grind
 subst e;exact I1.um (az _) (I1.hok.fresh (az _))
def Ec{ah:List (Addr×Obj)}{σ:St}{H:Hp}{s:Shared}{R:It->Hp->Prop}{E:Value->Shared->Prop}{lo hi:Int}{t u v:Tok}{tk:Nat}(I:Inv X ah σ H s)(h1:-(2^62)<=lo)(h2:lo<2^62)(h3:-(2^62)<=hi)(h4:hi<2^62)
  (q:R (U2 lo (hi-lo).toNat) H):wpAny (model X.prog X.w) X.A (pyIter (.ref s.heap.objs.size)) (YW X ah σ tg R) E {s with heap:=s.heap.push {cls:=.type "range",data:=.fields #[.int lo t,.int hi u,.int 1 v]},toks:=tk}:=by
 refine wpAny_pyIter_range (IsRange.new ..) (small_one h1 h2 h3 h4) ?_;have I1:Inv X ah σ H {s with heap:=s.heap.push {cls:=.type "range",data:=.fields #[.int lo t,.int hi u,.int 1 v]},toks:=tk}:=I.kept λb o e=>aE _ e
 refine⟨(s.heap.push {cls:=.type "range",data:=.fields #[.int lo t,.int hi u,.int 1 v]}).objs.size,[(s.heap.push {cls:=.type "range",data:=.fields #[.int lo t,.int hi u,.int 1 v]}).objs.size],_,_,H,rfl,
  I1.kept λb o e=>aE _ e,yP _ lo (hi-lo).toNat,?_,λb hb=>?_,q⟩
 ·have e1:lo+(0:Nat)*1=lo:=by simp
  have e2:(((hi-lo).toNat:Nat):Int)-(0:Nat)=Builtin.Range.rangeSize lo hi 1:=by rw[rangeSize_one];split<;>lia
  rw[e1,e2];exact bu _ rfl
 ·have e:b=(s.heap.push {cls:=.type "range",data:=.fields #[.int lo t,.int hi u,.int 1 v]}).objs.size:=by grind
  subst e;exact I1.um (az _) (I1.hok.fresh (az _))
def QU(ta:TA):TI:=λσ H R=>ta σ H λvs H1=>∃j:Int,vs=[.int j] /\ -(2^62)<=j/\j<2^62/\R (U2 0 j.toNat) H1
def B3{a:Expr}{ta:TA}{p pos:Pos}(hg:Gl X "range")(hm:X.mg "range"=none)(ha:PA X [a] ta)(hs:starEach [a] X.env=[(false,eval a X.env)]:=by rfl):PI X tg (.Call (.Name "range" p) [a] [] pos) (QU ta):=by
 intro ah s σ H R I h;refine Call_ (ld_blt I hg hm boot_range (gw (thn (ha pos ah s σ H _ I h) λus s1 ⟨vs,H1,I1,r1,q1⟩=>?_) hs rfl))
 obtain⟨j,e,q1,q2,q⟩:=q1;subst e;cases r1 with
 | cons r rr =>
  cases rr;obtain⟨t,rfl⟩:=r;exact call_range_1 (Ec I1 (by lia) (by lia) q1 q2 (by grind))
def Wa(wi:TI)(g:TG)(tb:TS):TS:=λD σ H=>wi σ H λJ H1=>∃W:Nat->Nat->St->Hp->Prop,(∃m,W 0 m σ H1)/\∀i m σ H,W i m σ H ->
 (J.stop i H/\D.nx σ H)\/(J.go i H/\∃N:St->Hp->Prop,(∀bz H',N bz H'->∃m',m'<m/\W (i+1) m' bz H')/\∀x H',J.yld i H x H'->g x σ H' λAu H2=>tb {D with nx:=N,ct:=N,bk:=D.nx} Au H2)
noncomputable def o9(fp:List Addr)(h:Heap):List (Addr×Obj):=fp.filterMap λb=>(h.get? b).map λo=>(b,o)
def g9(hb:b∈fp)(e:h.get? b=some o):(b,o)∈o9 fp h:=oA.mpr ⟨b,hb,by rw[e];rfl⟩
def B4(hp:p∈o9 fp h):p.1∈fp/\h.get? p.1=some p.2:=by
 obtain⟨b,hb,e⟩:=oA.mp hp;cases q:h.get? b with
 | none=>rw[q]at e;cases e
 | some o =>
  rw[q]at e;have e':=bC e;subst e';exact⟨hb,q⟩
def Inv.pinned{ah:List (Addr×Obj)}{σ:St}{H:Hp}{s:Shared}{fp:List Addr}(I:Inv X ah σ H s)(hf:∀b∈fp,o8 X ah H b)(ho:∀b∈fp,∃o,s.heap.get? b=some o/\∀v,o.data≠.cell v):Inv X (ah++o9 fp s.heap) σ H s :=
 I.kJ λp hp=>(dk.mp hp).elim (λz=>I.pin p (eu _ z)) λz=>by
  obtain⟨hb,e⟩:=B4 z;obtain⟨f0,f1,f2,_⟩:=hf p.1 hb;obtain⟨o,e',d⟩:=ho p.1 hb;rw[e]at e';cases e';exact⟨e,f0,f1,f2,d⟩
def Inv.pd{ah pl:List (Addr×Obj)}{σ:St}{H:Hp}{s:Shared}(I:Inv X (ah++pl) σ H s):Inv X ah σ H s:=I.kJ λp hp=>I.pin p (eu _ (lQ _ hp))
def MC(hp:PassesOwn (model X.prog X.w) X.A X.env X.xe)(hc:X.calm=true)(hi:PI X tg iter wi)(hg:PG X tg g)(hb:PSs X body tb)
  (hs:∀x,foldedSetIterable iter X.env x=pure x:=by intro _;rfl):PS X (.For tg iter body [] pos) (Wa wi g tb):=by
 intro ah s σ H D I h;refine wpAny_For (thn (hi ah s σ H _ I h) λv s1 h1=>thn h1 λV7 s2 h2=>?_) hs
 obtain⟨it,fp,tn,J,H2,e,I2,T,dh,f2,W,⟨m0,w0⟩,o7⟩:=h2;subst e;have yQ:∀{H':Hp},(∀b∈fp,H' b=none)->∀b∈fp,o8 X ah H' b:=λhn b hb=>⟨hn b hb,(f2 b hb).2⟩
 refine codeAny_forLoop_any (λn s'=>∃i bz H',Inv X ah bz H' s'/\tn i s'.heap/\(∀b∈fp,H' b=none)/\W i n bz H') ?_ m0 ⟨0,σ,H2,I2,dh,λb hb=>(f2 b hb).1,w0⟩
 rintro n s3 ⟨i,m7,H3,I3,vB,YX,w3⟩
 rcases o7 i n m7 H3 w3 with⟨stop,qn⟩ | ⟨go,N,hN,step⟩
 ·refine jU hp (thn (T.done X rfl rfl rfl hc i ah s3 m7 H3 X.xe I3 (yQ YX) vB stop) λr s4 ⟨hr,I4⟩=>?_)
  subst hr;exact tO ⟨m7,H3,I4,qn⟩
 ·refine jU hp (thn (T.item X rfl rfl rfl hc i ah s3 m7 H3 X.xe I3 (yQ YX) vB go) λr s4 ⟨u,hr,h4⟩=>?_)
  subst hr;refine jU hp (thn h4 λ_ s5 z9=>?_)
  obtain⟨x,H5,I5,r5,y5,MD,Wb⟩:=z9;have Wc:=I5.pinned (yQ Wb) (T.obj _ _ MD);refine jU hp (thn (hg _ s5 m7 H5 x u _ Wc r5 (step x H5 y5)) λ_ s6 ⟨U3,H6,I6,q6⟩=>?_)
  refine jU hp (thn (hb _ s6 U3 H6 _ I6 q6) λf s7 q7=>?_)
  have again:∀{Ed:St} {H7:Hp},Inv X (ah++o9 fp s5.heap) Ed H7 s7->N Ed H7->∃m,m<n/\∃i bz H',Inv X ah bz H' s7/\tn i s7.heap/\(∀b∈fp,H' b=none)/\W i m bz H':=λ{Ed H7} I7 n7=>by
   obtain⟨m',hm,w7⟩:=hN Ed H7 n7;refine⟨m',hm,i+1,Ed,H7,I7.pd,T.keep _ _ _ MD λb hb o e=>(I7.pin (b,o) (eu _ (eu _ (g9 hb e)))).1,λb hb=>?_,w7⟩
   obtain⟨o,e,d⟩:=T.obj _ _ MD b hb;exact(I7.pin (b,o) (eu _ (eu _ (g9 hb e)))).2.1
  cases f with
  | next=>obtain⟨Ed,H7,I7,n7⟩:=q7;exact again I7 n7
  | cont=>obtain⟨Ed,H7,I7,n7⟩:=q7;exact again I7 n7
  | brk=>obtain⟨Ed,H7,I7,q7⟩:=q7;exact⟨Ed,H7,I7.pd,q7⟩
  | ret v=>obtain⟨x7,Ed,H7,I7,r7,q7⟩:=q7;exact⟨x7,Ed,H7,I7.pd,r7,q7⟩
end
abbrev R2:=V->V->Hp->VK->Prop
def OpR(X:Cx)(f:Value->Value->Sem Value)(r:R2):Prop :=
 ∀(ah:List (Addr×Obj)) (s:Shared) (σ:St) (H:Hp) (x y:V) (v u:Value) (Q:VK),Inv X ah σ H s->RelV x v->RelV y u->r x y H Q ->
  wpAny (model X.prog X.w) X.A (f v u) (EP X ah σ Q) X.xe s
def UnR(X:Cx)(f:Value->Sem Value)(r:V->Hp->VK->Prop):Prop :=
 ∀(ah:List (Addr×Obj)) (s:Shared) (σ:St) (H:Hp) (x:V) (v:Value) (Q:VK),Inv X ah σ H s->RelV x v->r x H Q ->
  wpAny (model X.prog X.w) X.A (f v) (EP X ah σ Q) X.xe s
def jI(X:Cx)(f:Value)(r:List V->Hp->VK->Prop):Prop :=
 ∀(ah:List (Addr×Obj)) (s:Shared) (σ:St) (H:Hp) (xs:List V) (us:List Value) (Q:VK),Inv X ah σ H s->Vals xs us->r xs H Q ->
  wpAny (model X.prog X.w) X.A (call f us) (EP X ah σ Q) X.xe s
def Wd(X:Cx)(r:V->Hp->(Bool->Hp->Prop)->Prop):Prop :=
 ∀(ah:List (Addr×Obj)) (s:Shared) (σ:St) (H:Hp) (x:V) (v:Value) (Q:Bool->Hp->Prop),Inv X ah σ H s->RelV x v->r x H Q ->
  wpAny (model X.prog X.w) X.A (truthy v) (TP X ah σ Q) X.xe s
def QV(r:R2)(ta tb:TE):TE:=λσ H Q=>ta σ H λx H1=>tb σ H1 λy H2=>r x y H2 Q
def tUn(r:V->Hp->VK->Prop)(ta:TE):TE:=λσ H Q=>ta σ H λx H1=>r x H1 Q
def rI(C:Int->Int->Prop)(g:Int->Int->V):R2:=λx y H Q=>∃i j,x=.int i/\y=.int j/\C i j/\Q (g i j) H
def Hl(g:Int->Int->V):R2:=λx y H Q=>∃i j,x=.int i/\y=.int j/\Q (g i j) H
def rU(g:Int->V):V->Hp->VK->Prop:=λx H Q=>∃i,x=.int i/\Q (g i) H
section
variable {X:Cx} {a b c:Expr} {ta tb tc:TE} {pos:Pos}
def ME(ha:PE X a ta)(hb:PE X b tb){ah:List (Addr×Obj)}{s:Shared}{σ:St}{H:Hp}{R:V->V->Hp->Prop}(I:Inv X ah σ H s)
  (h:ta σ H λx H1=>tb σ H1 λy H2=>R x y H2) {Q:Value->Shared->Prop} {f:Value->Value->Sem Value}
  (hf:∀v u s2 x y H2,Inv X ah σ H2 s2->RelV x v->RelV y u->R x y H2->wpAny (model X.prog X.w) X.A (f v u) Q X.xe s2) :
  wpAny (model X.prog X.w) X.A (eval a X.env) (λv s₁=>wpAny (model X.prog X.w) X.A (eval b X.env) (λu MA=>wpAny (model X.prog X.w) X.A (f v u) Q X.xe MA) X.xe s₁) X.xe s:=by
 refine thn (ha ah s σ H _ I h) λv s1 ⟨x,H1,I1,r1,q1⟩=>?_
 refine thn (hb ah s1 σ H1 _ I1 q1) λu s2 ⟨y,H2,I2,r2,q2⟩=>?_
 exact hf v u s2 x y H2 I2 r1 r2 q2
def KR(ho:OpR X (binaryOp op) r)(ha:PE X a ta)(hb:PE X b tb):PE X (.BinOp a op b pos) (QV r ta tb):=by
 intro ah s σ H Q I h;exact wpAny_BinOp (ME ha hb I h λv u s2 x y H2 I2 rx ry q=>ho ah s2 σ H2 x y v u Q I2 rx ry q)
def QW{r:V->Hp->VK->Prop}(ho:UnR X (unaryOp op) r)(ha:PE X a ta):PE X (.UnaryOp op a pos) (tUn r ta):=by
 intro ah s σ H Q I h;exact UnaryOp_ (thn (ha ah s σ H _ I h) (by rintro v s1 ⟨x,H1,I1,r1,q1⟩;exact ho ah s1 σ H1 x v Q I1 r1 q1))
def QX{f:Value->Value->Sem Value}{C:Int->Int->Prop}{g:Int->Int->Int}
  (rule:∀(i j:Int) (t u:Tok) (s:Shared) (Q:Value->Shared->Prop) (E:Value->Shared->Prop),C i j->Q (.int (g i j) s.toks) {s with toks:=s.toks+1}->wpAny (model X.prog X.w) X.A (f (.int i t) (.int j u)) Q E s) :
  OpR X f (rI C λi j=>.int (g i j)):=by
 intro ah s σ H x y v u Q I rx ry h;obtain⟨i,j,rfl,rfl,hc,q⟩:=h;obtain⟨t,rfl⟩:=rx;obtain⟨t',rfl⟩:=ry;exact rule i j t t' s _ _ hc ⟨.int (g i j),H,I.tok _,⟨_,rfl⟩,q⟩
def MF{f:Value->Value->Sem Value}{g:Int->Int->Int}
  (rule:∀(i j:Int) (t u:Tok) (s:Shared) (Q:Value->Shared->Prop) (E:Value->Shared->Prop),Q (.int (g i j) s.toks) {s with toks:=s.toks+1}->wpAny (model X.prog X.w) X.A (f (.int i t) (.int j u)) Q E s) :
  OpR X f (Hl λi j=>.int (g i j)):=by
 intro ah s σ H x y v u Q I rx ry h;obtain⟨i,j,rfl,rfl,q⟩:=h;obtain⟨t,rfl⟩:=rx;obtain⟨t',rfl⟩:=ry;exact rule i j t t' s _ _ ⟨.int (g i j),H,I.tok _,⟨_,rfl⟩,q⟩
def Ic{f:Value->Value->Sem Value}{g:Int->Int->Bool}
  (rule:∀(i j:Int) (t u:Tok) (s:Shared) (Q:Value->Shared->Prop) (E:Value->Shared->Prop),Q (.bool (g i j)) s->wpAny (model X.prog X.w) X.A (f (.int i t) (.int j u)) Q E s) :
  OpR X f (Hl λi j=>.bl (g i j)):=by
 intro ah s σ H x y v u Q I rx ry h;obtain⟨i,j,rfl,rfl,q⟩:=h;obtain⟨t,rfl⟩:=rx;obtain⟨t',rfl⟩:=ry;exact rule i j t t' s _ _ ⟨.bl (g i j),H,I,rfl,q⟩
def We(i j:Int):Prop:=0<j/\j<1073741824
def Wf(i j:Int):Prop:=0<=j/\j<=1000000/\i.natAbs<2^64
def Ie(i j:Int):Prop:=(-(2^64)<i/\i<2^64)\/(-(2^64)<j/\j<2^64)
def Ie.ok(h:Ie i j):IntMulOk i j:=by
 rcases h with⟨h1,h2⟩ | ⟨h1,h2⟩
 ·exact .of_left (intBits_le_64 h1 h2)
 ·exact .of_right (intBits_le_64 h1 h2)
def MH:OpR X (binaryOp .Add) (Hl λi j=>.int (i+j)):=MF λ_ _ _ _ _ _ _ q=>add_int q
def MI:OpR X (binaryOp .Sub) (Hl λi j=>.int (i-j)):=MF λ_ _ _ _ _ _ _ q=>sub_int q
def MJ:OpR X (binaryOp .Mult) (rI Ie λi j=>.int (i*j)):=QX λ_ _ _ _ _ _ _ hc q=>mul_int q hc.ok
def Ig:OpR X (binaryOp .FloorDiv) (rI We λi j=>.int (i/j)):=QX λi j _ _ _ _ _ hc q=>by
 have h1:=hc.1;have h2:=hc.2;exact floordiv_int (by lia) (by rw[Int.fdiv_eq_ediv_of_nonneg i (by lia)];exact q) (.inl (PyProof.noPylong_small (by lia)))
def MK:OpR X (binaryOp .Mod) (rI (λ_ j=>0<j) λi j=>.int (i%j)):=QX λi j _ _ _ _ _ hc q=>by
 have h1:=hc;exact mod_int' (by lia) (by rw[Int.fmod_eq_emod_of_nonneg i (by lia)];exact q)
def ML:OpR X (binaryOp .Pow) (rI Wf λi j=>.int (i^j.toNat)):=QX λ_ _ _ _ _ _ _ hc q=>pow_int_small hc.1 hc.2.1 hc.2.2 q
def Ih:OpR X (inplaceOp .Add) (Hl λi j=>.int (i+j)):=MF λ_ _ _ _ _ _ _ q=>iadd_int q
def unI{f:Value->Sem Value}{g:Int->Int}
  (rule:∀(i:Int) (t:Tok) (s:Shared) (Q:Value->Shared->Prop) (E:Value->Shared->Prop),Q (.int (g i) s.toks) {s with toks:=s.toks+1}->wpAny (model X.prog X.w) X.A (f (.int i t)) Q E s) :
  UnR X f (rU λi=>.int (g i)):=by
 intro ah s σ H x v Q I rx h;obtain⟨i,rfl,q⟩:=h;obtain⟨t,rfl⟩:=rx;exact rule i t s _ _ ⟨.int (g i),H,I.tok _,⟨_,rfl⟩,q⟩
def MM:UnR X (unaryOp .USub) (rU λi=>.int (-i)):=unI λ_ _ _ _ _ q=>neg_int q
end
section
variable {X:Cx} {a b c:Expr} {ta tb tc:TE} {pos:Pos}
def Ee{ah:List (Addr×Obj)}{σ:St}{H:Hp}{s:Shared}{Q:VK}{k k':Bool}(I:Inv X ah σ H s)(q:Q (.bl k) H)(e:k=k'):EP X ah σ Q (.bool k') s:=by
 subst e;exact⟨.bl k,H,I,rfl,q⟩
def QY:OpR X (compareOp .Lt) (Hl λi j=>.bl (decide (i<j))):=Ic λ_ _ _ _ _ _ _ q=>lt_int q
def QZ:OpR X (compareOp .LtE) (Hl λi j=>.bl (decide (i<=j))):=Ic λ_ _ _ _ _ _ _ q=>le_int q
def Q3:OpR X (compareOp .Gt) (Hl λi j=>.bl (decide (j<i))):=Ic λ_ _ _ _ _ _ _ q=>gt_int q
def Q4:OpR X (compareOp .GtE) (Hl λi j=>.bl (decide (j<=i))):=Ic λ_ _ _ _ _ _ _ q=>ge_int q
def MN:OpR X (compareOp .Is) (λx y H Q=>y=.aL/\Q (.bl (decide (x=.aL))) H):=by
 intro ah s σ H x y v u Q I rx ry h;obtain⟨rfl,q⟩:=h;cases ry;refine is_none_gen (Ee I q ?_);cases x<;>first
  | (cases rx;rfl)
  | (obtain⟨t,rfl⟩:=rx;rfl)
def Ij:OpR X (compareOp .IsNot) (λx y H Q=>y=.aL/\Q (.bl (!decide (x=.aL))) H):=by
 intro ah s σ H x y v u Q I rx ry h;obtain⟨rfl,q⟩:=h;cases ry;refine isnot_none_gen (Ee I q ?_);cases x<;>first
  | (cases rx;rfl)
  | (obtain⟨t,rfl⟩:=rx;rfl)
def Ik(ho:OpR X (compareOp op) r)(ha:PE X a ta)(hb:PE X b tb)(hm:behindInMarks op b=false):PE X (.Compare a [op] [b] pos) (QV r ta tb):=by
 intro ah s σ H Q I h;exact wpAny_Compare1 (ME ha hb I h λv u s2 x y H2 I2 rx ry q=>ho ah s2 σ H2 x y v u Q I2 rx ry q) hm
def KS(t:TE):TT:=λσ H Q=>t σ H λx H'=>∃k,x=.bl k/\Q k H'
def Il(ho:OpR X (compareOp op) r)(ha:PE X a ta)(hb:PE X b tb)(hm:behindInMarks op b=false):PT X (.Compare a [op] [b] pos) (KS (QV r ta tb)):=by
 intro ah s σ H Q I h;refine wpAny_isTrue_Compare1 (thn (ha ah s σ H _ I h) λv s1 ⟨x,H1,I1,r1,q1⟩=>thn (hb ah s1 σ H1 _ I1 q1) λu s2 ⟨y,H2,I2,r2,q2⟩ =>
  thn (ho ah s2 σ H2 x y v u _ I2 r1 r2 q2) λc s3 ⟨z,H3,I3,r3,k,e,q3⟩=>?_) hm
 subst e;cases r3;exact iM ⟨H3,I3,q3⟩
def yR(r r':R2)(ta tb tc:TE):TE:=λσ H Q=>ta σ H λx H1=>tb σ H1 λy H2=>r x y H2 λz H3=>∃k,z=.bl k /\
 (if k=true then tc σ H3 λw' H4=>r' y w' H4 Q else Q (.bl false) H3)
def Ef(ho:OpR X (compareOp op) r)(lM:OpR X (compareOp vC) r')(ha:PE X a ta)(hb:PE X b tb)(hc:PE X c tc)
  (hm:lastMarks [op,vC] [b,c]=false:=by with_unfolding_all rfl):PE X (.Compare a [op,vC] [b,c] pos) (yR r r' ta tb tc):=by
 intro ah s σ H Q I h;refine Compare_chain (thn (ha ah s σ H _ I h) λv s1 ⟨x,H1,I1,r1,q1⟩=>chain_link (thn (hb ah s1 σ H1 _ I1 q1) λu s2 ⟨y,H2,I2,r2,q2⟩ =>
  thn (ho ah s2 σ H2 x y v u _ I2 r1 r2 q2) λd s3 ⟨z,H3,I3,r3,k,e,q3⟩=>?_)) hm
 subst e;cases r3;refine iM ?_;cases k with
 | false=>exact ite_ff ⟨.bl false,H3,I3,rfl,q3⟩
 | true=>exact ite_tt (chain_last (thn (hc ah s3 σ H3 _ I3 q3) (by rintro w' s4 ⟨z',H4,I4,r4,q4⟩;exact lM ah s4 σ H4 y z' u w' Q I4 r2 r4 q4)))
def Eg(ho:OpR X (compareOp op) r)(lM:OpR X (compareOp vC) r')(ha:PE X a ta)(hb:PE X b tb)(hc:PE X c tc)
  (hm:lastMarks [op,vC] [b,c]=false:=by with_unfolding_all rfl):PT X (.Compare a [op,vC] [b,c] pos) (KS (yR r r' ta tb tc)):=by
 intro ah s σ H Q I h;refine isTrue_chain (thn (ha ah s σ H _ I h) λv s1 ⟨x,H1,I1,r1,q1⟩=>test_link (thn (hb ah s1 σ H1 _ I1 q1) λu s2 ⟨y,H2,I2,r2,q2⟩ =>
  thn (ho ah s2 σ H2 x y v u _ I2 r1 r2 q2) λd s3 ⟨z,H3,I3,r3,k,e,q3⟩=>?_)) hm
 subst e;cases r3;refine iM ?_;cases k with
 | false =>
  obtain⟨k',e',q'⟩:=q3;cases e';exact ite_ff ⟨H3,I3,q'⟩
 | true =>
  refine ite_tt (test_last (thn (hc ah s3 σ H3 _ I3 q3) λw' s4 ⟨z',H4,I4,r4,q4⟩=>thn (lM ah s4 σ H4 y z' u w' _ I4 r2 r4 q4) λd' s5 z9=>?_))
  obtain⟨z2,H5,I5,r5,k2,e2,q5⟩:=z9;subst e2;cases r5;exact iM ⟨H5,I5,q5⟩
def Im(K:W.Frag)(x:V)(H:Hp)(k:Bool):Prop :=
 match x with
 | .aL=>k=false
 | .bl b=>k=b
 | .int i=>k=(i != 0)
 | .str y=>y.length<=sizeLine/\k=((y.length:Int) != 0)
 | .PY y=>y.size<=sizeLine/\k=((y.size:Int) != 0)
 | .ref p=>(∃xs,uk K H p xs/\k = !xs.isEmpty)\/(∃xs,gY K H p xs/\k = !xs.isEmpty)\/∃kvs,H p=some (.dK kvs)/\k = !kvs.isEmpty
 | _=>False
def yS{κ:Type}{kvs:List (κ×V)}{vs:List (κ×Value)}(r:KV kvs vs):(!vs.isEmpty) = !kvs.isEmpty:=by
 cases r<;>rfl
def pe(r:Vals xs aw):(!aw.toArray.isEmpty) = !xs.isEmpty:=by
 cases r<;>simp
def j6:(sizeLine:Nat)<2^63:=by rw[j2];decide
def Eh:Wd X (λx H Q=>∃k,Im X.K x H k/\Q k H):=by
 intro ah s σ H x v Q I rx h;obtain⟨k,e,q⟩:=h;have hl:=j6;have hs:=j2;cases x with
 | aL =>
  cases rx;have e':=e;subst e';exact truthy_none ⟨H,I,q⟩
 | bl b =>
  cases rx;have e':=e;subst e';exact iM ⟨H,I,q⟩
 | int i =>
  obtain⟨t,rfl⟩:=rx;have e':=e;subst e';exact PySem.P.truthy_int ⟨H,I,q⟩
 | str y =>
  obtain⟨t,rfl⟩:=rx;obtain⟨hy,e'⟩:y.length<=sizeLine/\k=((y.length:Int) != 0):=e;subst e';exact PySem.P.truthy_str (by lia) ⟨H,I.tok _,q⟩
 | PY y =>
  obtain⟨t,rfl⟩:=rx;obtain⟨hy,e'⟩:y.size<=sizeLine/\k=((y.size:Int) != 0):=e;subst e';exact W.truthy_bytes (by lia) ⟨H,I.tok _,q⟩
 | ref p =>
  cases rx;have e':=e;rcases e' with⟨xs,hx,e'⟩ | ⟨xs,hx,e'⟩ | ⟨kvs,hx,e'⟩
  ·subst e';obtain⟨aw,r,pl,hz⟩:=I.list hx;have d8:=r.length;exact wpAny_truthy_list pl.isList (by grind) ⟨H,I.tok _,by rw[pe r];exact q⟩
  ·subst e';obtain⟨aw,r,pl,hz⟩:=I.tuple hx;have d8:=r.length;exact truthy_tuple pl (by grind) ⟨H,I.tok _,by rw[pe r];exact q⟩
  ·subst e';obtain⟨hz,hS,vs,r,m⟩:kvs.length<=sizeLine/\(p==sysModules)=false/\∃vs,KV kvs vs/\s.heap.DictOf (cP X.prog X.w) p vs:=I.hok p _ hx
   have d8:=l4 r;exact wpAny_truthy_dict hS m (by lia) ⟨H,I.tok _,by rw[yS r];exact q⟩
 | _=>exact(e).elim
def Ei(ha:PE X a ta)(he:∀iw,isTrue a X.env iw=(do let v <-iw;standAt a.pos;holding [v] (truthy v))) :
  PT X a (λσ H Q=>ta σ H λx H'=>∃k,Im X.K x H' k/\Q k H'):=by
 intro ah s σ H Q I h;exact isTrue_plain (thn (ha ah s σ H _ I h) (by rintro v s1 ⟨x,H1,I1,r1,q1⟩;exact Eh ah s1 σ H1 x v Q I1 r1 q1)) (he _)
def yT:OpR X (binaryOp .Add) (λx y H Q=>∃i j,x=.str i/\y=.str j/\i.length+j.length<=sizeLine/\Q (.str (i++j)) H):=by
 intro ah s σ H x y v u Q I rx ry h;obtain⟨i,j,rfl,rfl,hz,q⟩:=h;obtain⟨t,rfl⟩:=rx;obtain⟨t',rfl⟩:=ry;exact add_str (λt' tk=>⟨.str (i++j),H,I.tok _,⟨_,rfl⟩,q⟩) hz
def iY(r:Vals [x] us):∃u,us=[u]/\RelV x u:=by
 cases r with
 | cons r1 r2=>cases r2;exact⟨_,rfl,r1⟩
def Av(r:Vals [x,y] us):∃u w',us=[u,w']/\RelV x u/\RelV y w':=by
 cases r with
 | cons r1 r2 =>
  cases r2 with
  | cons r3 r4=>cases r4;exact⟨_,_,rfl,r1,r3⟩
def rG:jI X (.type "int") (λxs H Q=>(∃i,xs=[.int i]/\Q (.int i) H)\/∃k,xs=[.bl k]/\Q (.int (if k then 1 else 0)) H):=by
 intro ah s σ H xs us Q I r h;rcases h with⟨i,rfl,q⟩ | ⟨k,rfl,q⟩
 ·obtain⟨u,rfl,t,rfl⟩:=iY r;exact call_int_int ⟨.int i,H,I,⟨_,rfl⟩,q⟩
 ·obtain⟨u,rfl,r1⟩:=iY r;cases r1;exact call_int_bool ⟨.int (if k then 1 else 0),H,I.tok _,⟨_,rfl⟩,q⟩
def uo:jI X (.type "str") (λxs H Q=>∃i,xs=[.int i]/\i.natAbs.log2<1920/\Q (.str (toString i)) H):=by
 intro ah s σ H xs us Q I r h;obtain⟨i,rfl,hz,q⟩:=h;obtain⟨u,rfl,t,rfl⟩:=iY r;exact PySem.P.str_of_int hz ⟨.str _,H,I.tok _,⟨_,rfl⟩,q⟩
end
structure yU (h:Heap) (x dx C:Addr) (mA:Str->Option Value):Prop where
 obj:h.get? x=some (W.instObj C dx)
 ns:h.Ns1 dx mA
 ne:dx≠x
def B5{h:Heap}{mA:Str->Option Value}(n:h.Ns1 dx mA):∃od,h.get? dx=some od/\∀name,W.lookIn name od=some (mA name):=by
 obtain⟨o,es,ep,ho,hd,hk,_,hm⟩:=n;refine⟨o,ho,λname=>?_⟩
 have e:=hm name;unfold nsFind findBy at e;rw[<-Array.find?_toList]at e;unfold W.lookIn;rw[hd];dsimp only
 split
 ·grind
 ·rename_i q;rw[q]at e;have a:es.toList.any (·.refKey)=false:=by
   rw[yo];intro y hy;obtain⟨z,t,MO⟩:=hk y (Array.mem_toList_iff.mp hy);simp[DictEntry.refKey,MO]
  have a':¬es.toList.any (·.refKey)=true:=by grind
  rw[if_neg a'];exact dm some e
def yU.j7(I:yU h x dx C mA):∃od,W.InstAt h x (W.instObj C dx) C (some od)/\∀name,W.lookIn name od=some (mA name) :=
 let ⟨od,ho,hl⟩:=B5 I.ns
 ⟨od,⟨I.obj,rfl,rfl,ho⟩,hl⟩
section
variable {prog:Program} {w:World} {A:Around} {E:Value->Shared->Prop} {s:Shared} {K:W.Frag} {x dx C f:Addr} {mA:Str->Option Value} {name:Str} {v:Value}
def Io(X:K.In s.heap)(I:yU s.heap x dx C mA)(hg:W.plainGet K C name=true)(hh:W.hasDictIn K C=true)
  (ha:W.findIn K (.ref C) name=some none) (hv:mA name=some v) (hv':W.handedIn v=true) (h:Q v {s with toks:=s.toks+1}) :
  wpAny (model prog w) A (getAttr (.ref x) name expr) Q E s:=by
 obtain⟨od,J,hl⟩:=I.j7;exact W.get_value X J (W.plainGet_of hg).1 (W.findObj_own hh ha rfl (by rw[hl,hv])) hv' h
def Ip(X:K.In s.heap)(I:yU s.heap x dx C mA)
  (hs:W.findIn K (.ref C) "__setattr__"=some (some (.builtin "object.__setattr__"))) (hp:W.plainOver K C=true) (ht:W.takerIn K C name=some none) (hh:W.hasDictIn K C=true)
  (hw:PySem.Within mA ns) (hsz:ns.length<=sizeLine)
  (h:∀h',yU h' x dx C (λy=>if y=name then some v else mA y)->Heap.SameBut dx s.heap h'->Q () {s with heap:=h',toks:=s.toks+2}) :
  wpAny (model prog w) A (setAttr (.ref x) name v) Q E s:=by
 obtain⟨od,J,hl⟩:=I.j7;refine W.set_plain X J hs (W.osa_open X J hp ht λb=>?_)
 obtain⟨cd,hc,Dl⟩:=W.any_some hh;have hx:=I.obj;refine ai (ak (ai (ai (wpAny_loadPart hx (ai (W.Looks.here (W.looks_clsIn X hc) ?_))))));rw[Dl];refine ak (ai (ak (ai ?_)));refine wpAny_nsSet1 I.ns λh' YY B6=>?_
 obtain⟨oD,esD,epD,hoD,hdD,hcD⟩:=YY.count (PySem.Within.cons name v hw);refine ai (wpAny_lookBehind hoD (by rw[hdD];exact pastItsLine_dict (aJ hcD (by grind))) ?_)
 exact ak (h _ ⟨(B6.2 _ (bR I.ne)).trans I.obj,YY,I.ne⟩ B6)
def Ej(X:K.In s.heap)(hm:W.makesIn K C=true)
  (hi:W.findIn K (.ref C) "__init__"=some (some (.ref f))) (hf:W.typeIn K (.ref f)=some (.type "function"))
  (h:codeAny (model prog w) (A.under (.builtin "type.__call__" ⟨.ref C::vs,kw⟩)) (.call (.ref f) ⟨.ref (s.heap.objs.size+1)::vs,kw⟩) (W.InitBack (s.heap.objs.size+1) R)
   {s with heap:=(s.heap.push W.emptyDict).push (W.instObj C s.heap.objs.size)}) :
  codeAny (model prog w) A (.call (.ref C) ⟨vs,kw⟩) R s:=by
 obtain⟨hh,g,d,t,os⟩:=s;exact W.make_core (W.makes_of X hm) (W.looks_findIn X hi) (λself=>W.bind_fn X self hf) (.inl rfl) h
end
noncomputable def gi(f:Str)(v:V):List (Str×V)->List (Str×V)
 | []=>[(f,v)]
 | (g,x)::r=>if g=f then(g,v)::r else(g,x)::gi f v r
theorem mP(f g:Str)(v:V):∀fs:List (Str×V),(gi f v fs).lookup g=if g=f then some v else fs.lookup g
 | []=>by
  show List.lookup g [(f,v)]=_;by_cases h:g=f
  ·grind
  ·grind
 | (k,x)::r=>by
  have ih:=mP f g v r;rw[show gi f v ((k,x)::r)=(if k=f then(k,v)::r else(k,x)::gi f v r)from rfl]
  by_cases hk:k=f
  ·grind
  ·grind
theorem mi(f:Str)(v:V):∀fs:List (Str×V),f∈(gi f v fs).map (·.1)/\∀g,g∈fs.map (·.1)->g∈(gi f v fs).map (·.1)
 | []=>⟨by simp[gi],λg h=>by simp at h⟩
 | (k,x)::r=>by
  obtain⟨i1,i2⟩:=mi f v r;rw[show gi f v ((k,x)::r)=(if k=f then(k,v)::r else(k,x)::gi f v r)from rfl]
  by_cases hk:k=f
  ·grind
  ·grind
theorem mQ(f:Str)(v:V):∀fs:List (Str×V),(gi f v fs).length<=fs.length+1
 | []=>by simp[gi]
 | (k,x)::r=>by
  have ih:=mQ f v r;rw[show gi f v ((k,x)::r)=(if k=f then(k,v)::r else(k,x)::gi f v r)from rfl]
  by_cases hk:k=f
  ·grind
  ·grind
def mX.Iq(r:mX (some v) o):∃u,o=some u/\RelV v u:=by
 cases o with
 | none=>exact(r).elim
 | some u=>exact⟨u,rfl,r⟩
def mX.none_of(r:mX none o):o=none:=by
 cases o with
 | none=>rfl
 | some u=>exact(r).elim
def B7(r:RelV v u):W.handedIn u=true:=by
 cases v with
 | aL=>cases(r);rfl
 | bl b=>cases(r);rfl
 | int i=>obtain⟨t,e⟩:=(r);cases e;rfl
 | str x=>obtain⟨t,e⟩:=(r);cases e;rfl
 | PY b=>obtain⟨t,e⟩:=(r);cases e;rfl
 | UQ b=>obtain⟨t,e⟩:=(r);cases e;rfl
 | ref a=>cases(r);rfl
 | ty n=>cases(r);rfl
section
variable {P:Program} {w:World} {H H':Hp} {h h':Heap} {a C dx:Addr} {fs KJ:List (Str×V)}
def uq(hok:kB P w H h)(e:H a=some (.ins C dx fs)):∃mA,yU h a dx C mA/\(∀f,mX (fs.lookup f) (mA f))/\PySem.Within mA (fs.map (·.1))/\fs.length<=1000/\H dx=some (.own a):=by
 obtain⟨d,z,ne,ob,mA,n,r,q⟩:=(hok a _ e);exact⟨mA,⟨ob,n,ne⟩,r,q,z,d⟩
end
def qN.get{K:W.Frag}{C:Addr}(c:qN K C)(f:Str):W.plainGet K C f=true:=c.pg
def fQ.Q5{K:W.Frag}{C:Addr}{f:Str}(n:fQ K C f):W.takerIn K C f=some none:=by
 unfold W.takerIn;rw[show W.findIn K (.ref C) f=some none from n]
 rfl
section
variable {X:Cx} {ah:List (Addr×Obj)} {σ:St} {H:Hp} {s:Shared} {a C dx:Addr} {fs:List (Str×V)} {f:Str} {v:V} {A:Around} {E:Value->Shared->Prop}
def pf(I:Inv X ah σ H s)(e:H a=some (.ins C dx fs))(c:qN X.K C)(n:fQ X.K C f)(l:fs.lookup f=some v)
  (h:∀u s',Inv X ah σ H s'->RelV v u->Q u s'):wpAny (model X.prog X.w) A (getAttr (.ref a) f b) Q E s:=by
 obtain⟨mA,O,r,_,_,_⟩:=uq I.hok e;obtain⟨u,hu,ru⟩:=mX.Iq (by rw[<-l];exact r f)
 exact Io I.mh O (c.get f) c.hd n hu (B7 ru) (h u _ (I.tok _) ru)
def ph(I:Inv X ah σ H s)(e:H a=some (.ins C dx fs))(c:qN X.K C)(n:fQ X.K C f)(hl:fs.length<1000)(ry:RelV y u)
  (h:∀s',Inv X ah σ (cy H a (.ins C dx (gi f y fs))) s'->Q () s'):wpAny (model X.prog X.w) A (setAttr (.ref a) f u) Q E s:=by
 obtain⟨mA,O,r,wi,_,ho⟩:=uq I.hok e;have hz:(fs.map (·.1)).length<=sizeLine:=by rw[aQ,j2];lia
 refine Ip I.mh O c.sa c.po n.Q5 c.hd wi hz λh' O' sb=>h _ ?_
 have hd:∃o,h'.get? dx=some o:=let ⟨o,_,_,e',_⟩:=O'.ns;⟨o,e'⟩
 refine I.write (by rw[e];exact True.intro) (.inr ho) (λb q hb z=>(sb.2 b hb).trans z) hd ?_
 refine⟨by rw[aH O.ne];exact ho,?_,O.ne,O'.obj,_,O'.ns,λg=>?_,λg hg=>?_⟩
 ·have:=mQ f y fs;lia
 ·rw[mP];by_cases q:g=f
  ·rw[if_pos q,if_pos q];exact ry
  ·rw[if_neg q,if_neg q];exact r g
 ·by_cases q:g=f
  ·rw[q];exact(mi f y fs).1
  ·refine(mi f y fs).2 g (wi g λz=>hg ?_)
   show(if g=f then some u else mA g)=none
   rw[if_neg q];exact z
def Inv.made(I:Inv X ah σ H s):Inv X ah σ (cy (cy H s.heap.objs.size (.own (s.heap.objs.size+1))) (s.heap.objs.size+1) (.ins C s.heap.objs.size []))
  {s with heap:=(s.heap.push W.emptyDict).push (W.instObj C s.heap.objs.size)}:=by
 have e1:(s.heap.push W.emptyDict).get? s.heap.objs.size=some W.emptyDict:=bu s.heap rfl;have e2:((s.heap.push W.emptyDict).push (W.instObj C s.heap.objs.size)).get? (s.heap.objs.size+1)=some (W.instObj C s.heap.objs.size):=by
  have:=bu (s.heap.push W.emptyDict) (o:=W.instObj C s.heap.objs.size) rfl
  rwa [dz]at this
 have e3:(s.heap.push W.emptyDict).Ns s.heap.objs.size (λ_=>none):=⟨W.emptyDict,#[],_,e1,rfl,(λe he=>absurd he (by simp)),λ_=>rfl⟩
 have I1:=I.laid (o:=.own (s.heap.objs.size+1)) (t':=s.toks) (λb u q=>aE _ q) (az _) ⟨_,e1⟩
 refine I1.laid (t':=s.toks) (λb u q=>aE _ q) (iR (dz _ _)) ?_
 have ne:s.heap.objs.size≠s.heap.objs.size+1:=by grind
 refine⟨by rw[aH ne,aA],gV _,ne,e2,λ_=>none,(Heap.Ns1.of_empty e3).at λo q=>aE _ q,λ_=>True.intro,λy hy=>absurd rfl hy⟩
def Ir(hb:attributeBase e f env (eval e env)=eval e env)
  (h:wpAny (model prog w) A (eval e env) (λo s₁=>wpAny (model prog w) A (getAttr o f true) Q E s₁) E s):wpAny (model prog w) A (eval (.Attribute e f pos) env) Q E s :=
 Attribute_any_ h (by rw[arm_eval_Attribute,hb])
end
def Wg(K:W.Frag)(ta:TE)(f:Str):TE:=λσ H Q=>ta σ H λx H1=>∃a C dx fs v,x=.ref a/\H1 a=some (.ins C dx fs)/\qN K C/\fQ K C f/\fs.lookup f=some v/\Q v H1
def Wh(K:W.Frag)(ta tv:TE)(f:Str):TS:=λD σ H=>tv σ H λy H1=>ta σ H1 λx H2=>∃a C dx fs,x=.ref a/\H2 a=some (.ins C dx fs)/\qN K C/\fQ K C f/\fs.length<1000 /\
 D.nx σ (cy H2 a (.ins C dx (gi f y fs)))
section
variable {X:Cx} {o e value:Expr} {f:Str} {pos mZ pj:Pos} {ta tv:TE}
def MP(he:PE X e ta)(hb:attributeBase e f X.env (eval e X.env)=eval e X.env):PE X (.Attribute e f pos) (Wg X.K ta f):=by
 intro ah s σ H Q I h;refine Ir hb (thn (he ah s σ H _ I h) λu s1 z9=>?_)
 obtain⟨x,H1,I1,rx,a,C,dx,fs,v,ex,ea,c,n,l,q⟩:=z9;subst ex;obtain rfl:u=Value.ref a:=rx;exact pf I1 ea c n l λu' s2 I2 ru=>⟨v,H1,I2,ru,q⟩
def MQ(ha:PE X o ta)(hv:PE X value tv)(hs:swapsWith value (some (.Attribute o f mZ)) pos.line X.env=pure false):PS X (.Assign [.Attribute o f mZ] value pos) (Wh X.K ta tv f):=by
 intro ah s σ H D I h;refine plainObj_wpAny_Assign_Attribute (thn (hv ah s σ H _ I h) λu s1 ⟨y,H1,I1,ry,q⟩=>thn (ha ah s1 σ H1 _ I1 q) λov s2 z9=>?_) hs
 obtain⟨x,H2,I2,rx,a,C,dx,fs,ex,ea,c,n,l,q2⟩:=z9;subst ex;obtain rfl:ov=Value.ref a:=rx;exact ph I2 ea c n l ry λs3 I3=>⟨σ,_,I3,q2⟩
end
structure cN (k:Nat) (A:Around):Prop where
 hd:A.handled=none
 dp:A.depth+3*k+5<recursionLimit
 un:A.units+16*k+1200<cLine
def cN.mono(r:cN k A)(h:j<=k):cN j A:=⟨r.hd,by have:=r.dp;lia,by have:=r.un;lia⟩
def cN.deeper(r:cN (k+1) A)(env:Env):cN k (A.deeper env) :=
 ⟨r.hd,by have:=r.dp;show A.depth+1+3*k+5<_;lia,by have:=r.un;show A.units+3+16*k+1200<_;lia⟩
def yV{A:Around}:(A.under (.builtin "type.__call__" ⟨.ref C::us,kw⟩)).depth=A.depth+1:=by
 first | rfl | simp[Around.under,Code.weight,Code.isCreation,Code.isGuard,Code.isCaller,Code.frames,Code.isFrame,guardIds]
def yW{A:Around}:(A.under (.builtin "type.__call__" ⟨.ref C::us,kw⟩)).units=A.units+1:=by
 first | rfl | simp[Around.under,Code.cUnits,Code.frames,Code.isFrame]
def cN.make(r:cN (k+1) A)(C:Addr)(us:List Value)(kw:List (Str×Value)):cN k (A.under (.builtin "type.__call__" ⟨.ref C::us,kw⟩)) :=
 ⟨r.hd,by have:=r.dp;rw[yV];lia,by have:=r.un;rw[yW];lia⟩
def cN.depth(r:cN k A):A.depth<recursionLimit:=by have:=r.dp;lia
def MR:TA:=λ_ H Q=>Q [] H
def Q6(ta:TE)(tr:TA):TA:=λσ H Q=>ta σ H λx H1=>tr σ H1 λxs H2=>Q (x::xs) H2
section
variable {X:Cx} {e:Expr} {es:List Expr} {te:TE} {t:TA} {pos:Pos}
def pq:PA X [] MR:=λ_ _ _ _ H Q I h=>Calls.spliced_nil ⟨[],H,I,.nil,h⟩
def gq(ha:PE X e te)(hr:PA X es t)(hs:starEach (e::es) X.env=(false,eval e X.env)::starEach es X.env:=by rfl):PA X (e::es) (Q6 te t):=by
 intro pos ah s σ H Q I h;rw[hs];refine Calls.spliced_cons (thn (ha ah s σ H _ I h) λu s1 ⟨x,H1,I1,r1,q1⟩=>?_)
 exact thn (hr pos ah s1 σ H1 _ I1 q1) (by rintro us s2 ⟨xs,H2,I2,r2,q2⟩;exact⟨x::xs,H2,I2,.cons r1 r2,q2⟩)
def Wi(t:TA):TE:=λσ H Q=>t σ H λxs H1=>xs.length<=sizeLine/\∀p,H1 p=none->Q (.ref p) (cy H1 p (.aq xs))
def Wj(t:TA):TE:=λσ H Q=>t σ H λxs H1=>xs.length<=sizeLine/\∀p,H1 p=none->Q (.ref p) (cy H1 p (.lst xs))
def MS{x1}(h:PA X es t):PE X (.Tuple es x1 pos) (Wi t):=by
 intro ah s σ H Q I hq;refine wpAny_Tuple_spliced (thn (h pos ah s σ H _ I hq) λus s1 ⟨xs,H1,I1,r,z,q⟩=>⟨by rw[<-r.length];exact z,?_⟩)
 have hf:=I1.hok.fresh (az _);refine⟨.ref s1.heap.objs.size,cy H1 s1.heap.objs.size (.aq xs),I1.laid (λb u e=>aE _ e) (az _) ?_,rfl,q _ hf⟩
 exact⟨z,us,r,mY.new _ _⟩
def El(h:PA X es t):PE X (.List es pos) (Wj t):=by
 intro ah s σ H Q I hq;refine wpAny_List_spliced (thn (h pos ah s σ H _ I hq) λus s1 ⟨xs,H1,I1,r,z,q⟩=>⟨by rw[<-r.length];exact z,?_⟩)
 have hf:=I1.hok.fresh (az _);refine⟨.ref s1.heap.objs.size,cy H1 s1.heap.objs.size (.lst xs),I1.laid (λb u e=>aE _ e) (az _) ?_,rfl,q _ hf⟩
 exact⟨z,us,0,r,bu _ rfl⟩
end
abbrev Sp:=List V->Hp->VK->XK->Prop
abbrev BP:=List Env->Hp->Shared->XK->Value->Shared->Prop
structure Env0 (P:Program) (w:World) (K:W.Frag) (mg:Str->Option Value) (base:Heap) (A:Around) (aB:List Env) (s:Shared) (H:Hp):Prop where
 frames:A.frames=some aB
 mod:Mod K mg base
 bs:∀b o,base.get? b=some o->s.heap.get? b=some o/\H b=none
 bsz:base.objs.size<=s.heap.objs.size
 funs:s.heap.FunFrames base aB
 frf:∀b∈kH aB,H b=none
 hok:kB P w H s.heap
 bare:AllBare s.gens
 tabs:oZ K H
def CE(aB:List Env)(P:Program)(w:World)(H:Hp)(s:Shared)(Q:VK)(u:Value)(s':Shared):Prop :=
 ∃v H',s'.os=s.os/\AllBare s'.gens/\Un (kH aB) [] H H' s.heap s'.heap/\kB P w H' s'.heap/\RelV v u/\Q v H'
def CR(CX:BP)(aB:List Env)(P:Program)(w:World)(H:Hp)(s:Shared)(Q:VK)(E:XK)(r:Result)(s':Shared):Prop :=
 match r with
 | .ok (.ret u)=>CE aB P w H s Q u s'
 | .ok _=>False
 | .error e=>CX aB H s E e s'
structure FnOk (P:Program) (w:World) (K:W.Frag) (mg:Str->Option Value) (base:Heap) (CX:BP) (k:Nat) (f:Addr) (fd:FuncData) (ps:List Str) (sp:Sp):Prop where
 len:∀vs H Q E,sp vs H Q E->vs.length=ps.length
 run:∀(A:Around) (aB:List Env) (s:Shared) (H:Hp) (args:Args) (us:List Value) (vs:List V) (Q:VK) (E:XK),cN k A->Env0 P w K mg base A aB s H->BindsTo s fd args (ps.zip us)->Vals vs us->sp vs H Q E ->
  codeAny (model P w) A (.call (.ref f) args) (CR CX aB P w H s Q E) s
def Env0.make{P:Program}{w:World}{K:W.Frag}{mg:Str->Option Value}{base:Heap}{A:Around}{aB:List Env}{s:Shared}{H:Hp}(e:Env0 P w K mg base A aB s H)(C:Addr)(us:List Value)(kw:List (Str×Value)) :
  Env0 P w K mg base (A.under (.builtin "type.__call__" ⟨.ref C::us,kw⟩)) aB s H:=⟨by first | exact e.frames | (simpa[Around.under,Code.envs,Code.isFrame,pushEnvs]using e.frames),e.mod,e.bs,e.bsz,e.funs,e.frf,e.hok,e.bare,e.tabs⟩
section
variable {X:Cx} {ah:List (Addr×Obj)} {σ:St} {H:Hp} {s s':Shared}
def Inv.MT(I:Inv X ah σ H s):Env0 X.prog X.w X.K X.mg X.base X.A X.stack s H :=
 ⟨I.ok.frames,I.ok.mod,I.bs,aJ I.ok.bsz I.sz,I.stack,I.ui,I.hok,I.bare,I.tabs⟩
def Inv.after(I:Inv X ah σ H s)(h:CE X.stack X.prog X.w H s Q u s'):EP X ah σ Q u s':=by
 obtain⟨v,H',os,bare,un,hok,r,q⟩:=h;obtain⟨hh,g,d,t,Q7⟩:=s';obtain rfl:Q7=s.os:=os;exact⟨v,H',I.call un hok bare (λb z=>absurd z (by simp)),r,q⟩
end
def Aw(C:Addr)(sp:Sp)(iS:List V)(E:XK)(t:TA):TE:=λσ H Q=>t σ H λvs H1=>∀x dx,H1 x=none->H1 dx=none->dx≠x ->
 sp (.ref x::(vs++iS)) (cy (cy H1 dx (.own x)) x (.ins C dx [])) (λv H2=>v=.aL/\Q (.ref x) H2) E
def uu(CX:BP)(X:Cx)(E:XK):Prop:=∀(ah:List (Addr×Obj)) (σ:St) (H:Hp) (s:Shared) (e:Value) (s':Shared),Inv X ah σ H s->CX X.stack H s E e s'->X.xe e s'
section
variable {X:Cx} {CX:BP} {k:Nat} {f C:Addr} {fd:FuncData} {ps:List Str} {sp:Sp} {iS:List V} {ds:List Value} {E:XK} {x m:Str} {p pos dW:Pos} {e o:Expr} {es:List Expr} {ta:TE} {t:TA}
def vT{ah:List (Addr×Obj)}{σ:St}{H:Hp}{s:Shared}{Q:VK}{us:List Value}{vs:List V}(M:Mk X.K C f)(F:FnOk X.prog X.w X.K X.mg X.base CX k f fd ps sp)(hr:cN (k+1) X.A)(hb:cz X.K fd ps ds)(hd:Vals iS ds)
  (hx:uu CX X E) (I:Inv X ah σ H s) (r:Vals vs us)
  (h:∀x dx,H x=none->H dx=none->dx≠x->sp (.ref x::(vs++iS)) (cy (cy H dx (.own x)) x (.ins C dx [])) (λv H2=>v=.aL/\Q (.ref x) H2) E) :
  wpAny (model X.prog X.w) X.A (call (.ref C) us) (EP X ah σ Q) X.xe s:=by
 have hq:=h (s.heap.objs.size+1) s.heap.objs.size (I.hok.fresh (Nat.le_succ _)) (I.hok.fresh (az _)) (aZ (lV _));have I2:=Inv.made (C:=C) I;have r2:Vals (V.ref (s.heap.objs.size+1)::(vs++iS)) (Value.ref (s.heap.objs.size+1)::(us++ds)):=.cons rfl (r.append hd);have hl:(Value.ref (s.heap.objs.size+1)::us++ds).length=ps.length:=by
  have e:=r2.length;rw[F.len _ _ _ _ hq]at e;exact e.symm
 refine wpAny_call (Ej I.mh M.makes M.init (gX.mp M.fn) (oM (F.run _ X.stack _ _ ⟨Value.ref (s.heap.objs.size+1)::us,[]⟩ (Value.ref (s.heap.objs.size+1)::(us++ds)) _ _ E (hr.make C us [])
  (I2.MT.make C us []) (hb _ (Value.ref (s.heap.objs.size+1)::us) I2.mh hl) r2 hq) λr s' Q8=>?_))
 cases r with
 | error e=>exact hx ah σ _ _ e s' I2 Q8
 | ok fl =>
  cases fl with
  | ret u =>
   obtain⟨v,H',I3,rv,ev,q3⟩:=I2.after Q8;subst ev;exact⟨rv,⟨V.ref (s.heap.objs.size+1),H',I3,rfl,q3⟩⟩
  | next=>exact False.elim Q8
  | brk=>exact False.elim Q8
  | cont=>exact False.elim Q8
def Iu(M:Mk X.K C f)(F:FnOk X.prog X.w X.K X.mg X.base CX k f fd ps sp)(hr:cN (k+1) X.A)(hg:Gl X x)(hm:X.mg x=some (.ref C))(hb:cz X.K fd ps ds)(hd:Vals iS ds)(hx:uu CX X E)
  (ha:PA X (e::es) t) (vK:(x==("__debug__":Str))=false:=by decide) (he:starEach (e::es) X.env=(false,eval e X.env)::starEach es X.env:=by rfl) (oW:(backTo pos (starEach es X.env)).any (·.1)=false:=by rfl) :
  PE X (.Call (.Name x p) (e::es) [] pos) (Aw C sp iS E t):=by
 intro ah s σ H Q I h;refine gR (ld_glob I hg hm ?_ vK);refine W.callWith_K I.ok.mod.kin M.kp (thn (ha pos ah s σ H _ I h) λus s1 ⟨vs,H1,I1,r,q⟩=>⟨I1.mh,?_⟩) he oW
 exact vT M F hr hb hd hx I1 r q
end
theorem rH{kindOf:Str->Option NameKind}:∀{vU:List (Str×Value)} {m:Str->Option Value},(∀v,(x,v)∉vU)->bindL kindOf vU m x=m x
 | [],_,_=>rfl
 | (n,v)::r,m,h=>by
  unfold bindL;rw[rH λw hw=>h w (cH _ hw)]
  split
  ·grind
  ·rfl
theorem rJ{kindOf:Str->Option NameKind}:∀{vU:List (Str×Value)} {m:Str->Option Value},(∀v,(x,v)∉vU)->bindC kindOf vU m x=m x
 | [],_,_=>rfl
 | (n,v)::r,m,h=>by
  unfold bindC;rw[rJ λw hw=>h w (cH _ hw)]
  split
  ·rfl
  ·grind
theorem rK{kindOf:Str->Option NameKind}:∀{P:List Str} {vs:List Value} {i:Nat} {m:Str->Option Value},P.Nodup->P[i]?=some x->vs[i]?=some v->kindOf x=some .local ->
  bindL kindOf (P.zip vs) m x=some v
 | [],_,_,_,_,h,_,_=>by simp at h
 | _::_,[],_,_,_,_,h,_=>by simp at h
 | p::P,w::vs,0,m,nd,h1,h2,hk=>by
  simp at h1 h2;subst h1;subst h2;show bindL kindOf ((p,w)::P.zip vs) m p=_;unfold bindL;rw[rH λv hv=>(l0.mp nd).1 (yC hv).1,if_pos hk]
  simp
 | p::P,w::vs,i+1,m,nd,h1,h2,hk=>by
  unfold bindL;exact rK (l0.mp nd).2 (by simpa using h1) (by grind) hk
theorem rL{kindOf:Str->Option NameKind}:∀{P:List Str} {vs:List Value} {i:Nat} {m:Str->Option Value},P.Nodup->P[i]?=some x->vs[i]?=some v->kindOf x≠some .local ->
  bindC kindOf (P.zip vs) m x=some v
 | [],_,_,_,_,h,_,_=>by simp at h
 | _::_,[],_,_,_,_,h,_=>by simp at h
 | p::P,w::vs,0,m,nd,h1,h2,hk=>by
  simp at h1 h2;subst h1;subst h2;show bindC kindOf ((p,w)::P.zip vs) m p=_;unfold bindC;rw[rJ λv hv=>(l0.mp nd).1 (yC hv).1,if_neg hk]
  simp
 | p::P,w::vs,i+1,m,nd,h1,h2,hk=>by
  unfold bindC;exact rL (l0.mp nd).2 (by simpa using h1) (by grind) hk
noncomputable def start(N:List Str)(vs:List V):St:=vs.map some++List.replicate (N.length-vs.length) none
noncomputable def ek(CX:BP)(P:Program)(w:World)(K:W.Frag)(mg:Str->Option Value)(base:Heap)(N:List Str)(qual:Str)(scope:Scope)(f:Addr)(cd:Value)(A:Around)(aB:List Env)(s:Shared)(H:Hp)(E:XK):Cx where
 prog:=P
 w:=w
 K:=K
 mg:=mg
 base:=base
 A:=A.deeper (envOfC qual scope s.heap.objs.size f cd)
 N:=N
 s₀:=s
 af:=H
 env:=envOfC qual scope s.heap.objs.size f cd
 aB:=aB
 stack:=envOfC qual scope s.heap.objs.size f cd::aB
 ex:=[]
 calm:=true
 fn:=λ_=>true
 pn:=[]
 xe:=λe s'=>wpAny (model P w) (A.deeper (envOfC qual scope s.heap.objs.size f cd)) (leaving (envOfC qual scope s.heap.objs.size f cd) e) (λ_ Q9=>CX aB H s E e Q9) (λe' Q9=>CX aB H s E e' Q9) s'
def vV{sc:Scope}(h:sc.names.lookup x=some .cell):∃c,(cellsFrom n sc.names []).lookup x=some c:=by
 have q:=W.cellsFrom_some sc.names n [] (.inl h);exact Option.isSome_iff_exists.mp q
def B8{CX:BP}{P:Program}{w:World}{K:W.Frag}{mg:Str->Option Value}{base:Heap}{N ps:List Str}{qual:Str}{scope:Scope}{f:Addr}{cd:Value}{A:Around}{aB:List Env}{s s1:Shared}{H:Hp}{E:XK}{us:List Value}{vs:List V}
  (S:cA N ps scope) (hd:A.handled=none) (e0:Env0 P w K mg base A aB s H) (hl:vs.length=ps.length) (r:Vals vs us)
  (x:InCallC s s.heap.objs.size (bindL (envOfC qual scope s.heap.objs.size f cd).kindOf (ps.zip us) λ_=>none) (cellsFrom (s.heap.objs.size+1) scope.names []) (bindC (envOfC qual scope s.heap.objs.size f cd).kindOf (ps.zip us) λ_=>none) s1) :
  Inv (ek CX P w K mg base N qual scope f cd A aB s H E) [] (start N vs) H s1:=by
 have oW:ps.length<=N.length:=by have:=dm List.length S.pre;rw[lU]at this;lia
 obtain⟨h1,tk,rfl,hk⟩:=x.done;have noA:∀b:Addr,b∉(ek CX P w K mg base N qual scope f cd A aB s H E).ex:=λb z=>absurd (show b∈([]:List Addr)from z) (by simp)
 refine⟨⟨e0.mod,S.kind,rfl,rfl,az _,λy z c h1 h2=>?_,λy hy=>?_,λy c _ h=>?_,λ_=>hd,Around.frames_deeper e0.frames,.inr ⟨rfl,rfl⟩,λb z=>absurd z (noA b),e0.bs,e0.bsz,λb _ _=>noA b,λb z=>absurd z (noA b),e0.funs,e0.frf,e0.tabs⟩,
  rfl,e0.bare,Un.kept hk,⟨_,x.toInCall.ns,λi y v h1 h2 h3=>?_⟩,λy c h=>⟨_,x.cell y c h⟩,e0.hok.fresh (az _),λy c h=>?_,λp hp=>absurd (show p∈([]:List (Addr×Obj))from hp) (by simp),e0.hok.kept hk,?_⟩
 ·exact name_of_addr x.apart (ez h1) (ez h2)
 ·have hy:=hy;rcases hy with hy | hy
  ·exact vV hy
  ·exact absurd rfl (S.nofree _ (ez hy))
 ·exact oO (x.above y c (ez h))
 ·have hi:i<vs.length:=by
   unfold start at h2;by_cases hi:i<vs.length
   ·exact hi
   ·grind
  have ha:vs[i]?=some v:=by
   unfold start at h2;rw[fj (by grind),cJ]at h2
   cases e:vs[i]? with
   | none=>rw[e]at h2;cases h2
   | some a=>rw[e]at h2;cases h2;rfl
  obtain⟨u,hu,rv⟩:=r.get ha;have hp:ps[i]?=some y:=by
   rw[<-S.pre,List.getElem?_take_of_lt (by lia)];exact h1
  have YZ:ps.Nodup:=by rw[<-S.pre];exact S.nd.sublist (List.take_sublist _ _)
  refine⟨u,rv,?_⟩;rcases S.par y (tu hp)with k | k
  ·exact .inl ⟨k,rK YZ hp hu k⟩
  ·obtain⟨c,e⟩:=vV k;refine .inr ⟨.inl k,c,e,?_⟩;have q:=x.cell y c e;rw[rL YZ hp hu (by show scope.names.lookup y≠_;rw[k];decide)]at q
   exact q
 ·exact e0.hok.fresh (oO (x.above y c (ez h)))
 ·unfold start;show _=N.length;rw[bA,aQ,ow]
  lia
def KU{CX:BP}{P:Program}{w:World}{K:W.Frag}{mg:Str->Option Value}{base:Heap}{k:Nat}{f:Addr}{name qual:Str}{pq9:Arguments}{body:List Stmt}{scope:Scope}{dV kV doc pm cF ct oc:Value}{an od:Option Addr}
  {oR:Array (Option Value)} {N ps:List Str} {sp:Sp} (lk:K.lookup f=some ⟨oc,od,.func (W.fnOf name qual pq9 body scope dV kV doc pm an cF ct),oR⟩) (xM:W.codeIn K cF qual=true) (S:cA N ps scope)
  (len:∀vs H Q E,sp vs H Q E->vs.length=ps.length)
  (hbody:∀(A:Around) (aB:List Env) (s:Shared) (H:Hp) (vs:List V) (Q:VK) (E:XK),cN k (A.deeper (envOfC qual scope s.heap.objs.size f cF))->sp vs H Q E ->
   ∃t,PSs (ek CX P w K mg base N qual scope f cF A aB s H E) body t/\t {nx:=λ_ H'=>Q .aL H',rt:=Q} (start N vs) H) :
  FnOk P w K mg base CX (k+1) f (W.fnOf name qual pq9 body scope dV kV doc pm an cF ct) ps sp:=by
 refine⟨len,λA aB s H args us vs Q E hr e0 hb r KW=>?_⟩
 have hl:=len _ _ _ _ KW;have KX:=e0.mod.kin.keeps λb o e=>(e0.bs b o e).1
 have lim:=e0.mod.nolimit.keeps λb o e=>(e0.bs b o e).1
 have Rb:∀y∈ps.zip us,scope.names.lookup y.1=some .local\/(scope.names.lookup y.1=some .cell/\((cellsFrom (s.heap.objs.size+1) scope.names []).lookup y.1).isSome=true):=by
  rintro⟨n,v⟩ hy
  rcases S.par n (yC hy).1 with q | q
  ·grind
  ·exact .inr ⟨q,W.cellsFrom_some _ _ _ (.inl q)⟩
 refine codeAny_call_function hr.depth (KX _ _ lk) rfl S.co S.gen rfl (W.codeRec_of KX xM) (hb _ _ _ _ ?_);refine wpAny_newFunctionEnv_cells S.kind Rb λenv he s1 x=>?_
 subst he;refine⟨lim.keeps x.toInCall.keep,codeAny_func ?_⟩;obtain⟨t,ht,hq⟩:=hbody A aB s H vs Q E (hr.deeper _) KW;have I:Inv (ek CX P w K mg base N qual scope f cF A aB s H E) [] (start N vs) H s1:=B8 S hr.hd e0 hl r x;refine j3 (ht [] s1 (start N vs) H _ I hq) (λfl s' hs=>?_) λe s' hs=>hs
 have jr:∀{bz:St} {H':Hp} {v:V} {u:Value},Inv (ek CX P w K mg base N qual scope f cF A aB s H E) [] bz H' s'->RelV v u->Q v H'->CE aB P w H s Q u s' :=
  λ{bz H' v u} J rv q=>⟨v,H',J.os,J.bare,J.base,J.hok,rv,q⟩
 cases fl with
 | ret u =>
  obtain⟨v,bz,H',J,rv,q⟩:=hs;exact jr J rv q
 | next =>
  obtain⟨bz,H',J,q⟩:=hs;exact jr (v:=V.aL) J rfl q
 | brk =>
  obtain⟨_,_,_,q⟩:=hs;exact False.elim q
 | cont =>
  obtain⟨_,_,_,q⟩:=hs;exact False.elim q
section
variable {X:Cx} {x:Str} {p pos:Pos} {e:Expr} {es:List Expr} {t:TA} {id T:String} {r:List V->Hp->VK->Prop}
def Wk(r:List V->Hp->VK->Prop)(t:TA):TE:=λσ H Q=>t σ H λvs H1=>r vs H1 Q
def pw(hc:jI X (.builtin id) r)(hg:Gl X x)(hm:X.mg x=none)(hv:bootBuiltins x=some (.builtin id))(ha:PA X (e::es) t)(hn:x≠"__name__":=by decide)(vK:(x==("__debug__":Str))=false:=by decide)
  (he:starEach (e::es) X.env=(false,eval e X.env)::starEach es X.env:=by rfl) (oW:(backTo pos (starEach es X.env)).any (·.1)=false:=by rfl):PE X (.Call (.Name x p) (e::es) [] pos) (Wk r t):=by
 intro ah s σ H Q I h;refine gR (ld_blt I hg hm hv ?_ hn vK);exact PyProof.Rows.callWith_builtin1 (thn (ha pos ah s σ H _ I h) (by rintro us s1 ⟨vs,H1,I1,r1,q1⟩;exact hc ah s1 σ H1 vs us Q I1 r1 q1)) he oW
def mj(hc:jI X (.type T) r)(hg:Gl X x)(hm:X.mg x=none)(hv:bootBuiltins x=some (.type T))(ha:PA X (e::es) t)(hn:x≠"__name__":=by decide)(vK:(x==("__debug__":Str))=false:=by decide)
  (he:starEach (e::es) X.env=(false,eval e X.env)::starEach es X.env:=by rfl) (oW:(backTo pos (starEach es X.env)).any (·.1)=false:=by rfl):PE X (.Call (.Name x p) (e::es) [] pos) (Wk r t):=by
 intro ah s σ H Q I h;refine gR (ld_blt I hg hm hv ?_ hn vK);exact gw (thn (ha pos ah s σ H _ I h) (by rintro us s1 ⟨vs,H1,I1,r1,q1⟩;exact hc ah s1 σ H1 vs us Q I1 r1 q1)) he oW
end
end L2
namespace HT
open PySem PyProof.Rows
section
variable {prog:Program} {w:World} {A:Around} {E:Value->Shared->Prop} {s:Shared}
def Iv(ht:IsTup s.heap t vs.toArray)(hb:IsTup s.heap b ws.toArray)(hv:vs≠[])
  (h1:ws=[]->Q (.ref t) s) (h2:ws≠[]->Q (.ref s.heap.objs.size) {s with heap:=s.heap.push {cls:=.type "tuple",data:=.seq (vs++ws).toArray}})
  (hsz:vs.length+ws.length<=sizeLine):wpAny (model prog w) A (binaryOp .Add (.ref t) (.ref b)) Q E s:=by
 obtain⟨⟨cls,dd,data,sl⟩,ho,hc,n,hd⟩:=id ht;obtain⟨⟨Wl,U4,Rc,MU⟩,MV,MW,n2,hd2⟩:=id hb;simp only at hc hd MW hd2;subst hc hd MW hd2;have e:vs.toArray++ws.toArray=(vs++ws).toArray:=by simp
 by_cases hw:ws=[]
 ·exact concat_meets ⟨_,ho,rfl⟩ ⟨_,MV,rfl⟩ yp seq_tuple_add xZ xU (xT _ _)
   (tuple_addW1 t b vs.toArray ws.toArray n n2 dd U4 sl MU (by grind) (by simp[hw])) ⟨ho,MV,h1 hw⟩
 ·refine concat_meets ⟨_,ho,rfl⟩ ⟨_,MV,rfl⟩ yp seq_tuple_add xZ xU (xT _ _)
   (tuple_addW2 t b vs.toArray ws.toArray n n2 dd U4 sl MU (by grind) (by grind) (by grind)) ⟨ho,MV,?_⟩
  rw[e];exact h2 hw
noncomputable def dF(n d:Nat):Option Int->Nat
 | none=>d
 | some v=>if v<0 then(v+(n:Int)).toNat else min v.toNat n
def vW(n d:Nat):dF n d none=d:=rfl
def nO(n d k:Nat):dF n d (some (k:Int))=min k n:=by
 show(if(k:Int)<0 then((k:Int)+(n:Int)).toNat else min (k:Int).toNat n)=min k n
 rw[if_neg (by lia),jR]
def MX(n d:Nat)(hd:d<=n)(o:Option Int):dF n d o<=n:=by
 cases o with
 | none=>exact hd
 | some v =>
  show(if v<0 then(v+(n:Int)).toNat else min v.toNat n)<=n
  by_cases hv:v<0
  ·grind
  ·grind
def Ax(v:Int)(n d:Nat):(if v<0 then max (v+(n:Int)) 0 else min v (n:Int))=((dF n d (some v):Nat):Int):=by
 show(if v<0 then max (v+(n:Int)) 0 else min v (n:Int))=(((if v<0 then(v+(n:Int)).toNat else min v.toNat n):Nat):Int)
 by_cases hv:v<0
 ·grind
 ·grind
def yX(lo hi:Option Int)(n:Nat):Builtin.Slice.sliceAdjust lo hi 1 (n:Int)=(((dF n 0 lo:Nat):Int),((dF n n hi:Nat):Int)):=by
 have h1:¬(1<0):=by lia
 unfold Builtin.Slice.sliceAdjust;simp only[h1,cD];refine Prod.ext ?_ ?_
 ·cases lo with
  | none=>rfl
  | some v=>exact Ax v n 0
 ·cases hi with
  | none=>rfl
  | some v=>exact Ax v n n
def yY(i j:Nat):Builtin.Slice.slicePlaces (i:Int) (j:Int) 1=j-i:=by
 unfold Builtin.Slice.slicePlaces;have h1:1>0:=by lia
 simp only[h1,d5,Int.ediv_one];split<;>lia
def pA(p:IsPart v o)(h:Q o s):wpAny (model prog w) A (Builtin.Slice.slicePartIndex v) Q E s:=by
 cases p with
 | none=>exact slicePart_none h
 | int i t=>exact slicePart_int h
def gG{vl vu:Value}{lo hi:Option Int}{n:Nat}{Q:Int×Int×Nat->Shared->Prop}(hs:s.heap.IsSliceOf sl vl vu .none)(pl:IsPart vl lo)(pu:IsPart vu hi)
  (h:Q (((dF n 0 lo:Nat):Int),1,dF n n hi-dF n 0 lo) s):wpAny (model prog w) A (Builtin.Slice.sliceApplied (.ref sl) (pure (n:Int))) Q E s:=by
 obtain⟨os,Hm,U5,Rf⟩:=id hs;unfold Builtin.Slice.sliceApplied Builtin.Slice.sliceFields;refine ai (ai (cx Hm Rf rfl (ai (cx Hm Rf rfl (ai (cx Hm Rf rfl (ak ?_)))))));refine ai (slicePart_none ?_);rw[if_neg (by decide)]
 refine ai (pA pl (ai (pA pu (ai (ak ?_)))));show wpAny _ _ (match Builtin.Slice.sliceAdjust lo hi 1 (n:Int)with | (lo,hi)=>pure (lo,(1:Int),Builtin.Slice.slicePlaces lo hi 1)) _ _ s
 rw[yX lo hi n];show wpAny _ _ (pure (((dF n 0 lo:Nat):Int),(1:Int),Builtin.Slice.slicePlaces ((dF n 0 lo:Nat):Int) ((dF n n hi:Nat):Int) 1)) _ _ s;rw[yY];exact ak h
def Em(xs:Array Value)(i k:Nat):((List.range k).filterMap fun(m:Nat)=>xs[((i:Int)+(m:Int)*1).toNat]?).toArray=((xs.toList.drop i).take k).toArray:=by
 have e:(fun(m:Nat)=>xs[(i+(m:Int)*1).toNat]?)=λm=>xs[i+m]?:=by
  grind
 rw[e];have:=pick_run xs i k;rw[List.filterMap_map]at this;have e2:((λx=>xs[x]?) ∘ λx=>i+x)=λm=>xs[i+m]?:=rfl
 rw[e2]at this;rw[this]
def kM{items:Array Value}{vl vu:Value}{lo hi:Option Int}{Q:Value->Shared->Prop}(ht:IsTup s.heap t items)(hs:s.heap.IsSliceOf sl vl vu .none)(pl:IsPart vl lo)(pu:IsPart vu hi)
  (hw:¬(dF items.size 0 lo=0/\dF items.size items.size hi=items.size))
  (h:Q (.ref s.heap.objs.size) {s with heap:=s.heap.push {cls:=.type "tuple",data:=.seq ((items.toList.drop (dF items.size 0 lo)).take (dF items.size items.size hi-dF items.size 0 lo)).toArray}})
  (hsz:items.size<=sizeLine):wpAny (model prog w) A (getItem (.ref t) (.ref sl)) Q E s:=by
 have Ay:sizeOk (.seq ((items.toList.drop (dF items.size 0 lo)).take (dF items.size items.size hi-dF items.size 0 lo)).toArray):=by
  show((items.toList.drop (dF items.size 0 lo)).take (dF items.size items.size hi-dF items.size 0 lo)).toArray.size<=sizeLine;rw[bW,lU,tK,lR]
  lia
 have hj:dF items.size items.size hi<=items.size:=MX _ _ (az _) hi;obtain⟨os,Hm,U5,Rf⟩:=id hs;have hTs:s.TypeIs (.ref sl) "slice":=⟨os,Hm,U5⟩;unfold getItem
 try with_reducible refine dB ?_
 first | refine ai (ak ?_) | skip
 refine ai (wpAny_sequenceKey ht.typeIs (by decide) ?_)
 refine ai (fq ht.typeIs lO
  (eE lO ht.typeIs entry_tuple_getitem ?_ (args_tuple_getitem _ _)))
 show wpAny _ _ (Builtin.Tuple.tupleItemsOf (.ref t) >>= _) _ _ s;refine ai (tupleItemsOf_ ht ?_);refine ai (l7 hTs ?_);rw[if_pos (by decide)]
 refine ai (gG hs pl pu ?_);have hno:¬((((dF items.size 0 lo:Nat):Int)==0&&(1:Int)==1&&(dF items.size items.size hi-dF items.size 0 lo)==items.size)=true):=by
  grind
 show wpAny _ _ (if(((dF items.size 0 lo:Nat):Int)==0&&(1:Int)==1&&(dF items.size items.size hi-dF items.size 0 lo)==items.size)=true then _ else _) _ _ s
 rw[if_neg hno,Em]
 first
  | exact ai (m:=Builtin.Tuple.tupleExact _) (jS (ak ⟨_,rfl,ak h⟩) Ay)
  | exact ai (m:=Builtin.Tuple.tupleExact _) (jS (ai (ak (ak ⟨_,rfl,ak h⟩))) Ay)
  | exact ai (ai (m:=Builtin.Tuple.tupleExact _) (jS (ak (ak ⟨_,rfl,ak h⟩)) Ay))
  | exact ai (ai (m:=Builtin.Tuple.tupleExact _) (jS (ak ⟨_,rfl,ak h⟩) Ay))
end
end HT
namespace L2
open PySem PySem.Spec PyProof.Rows
abbrev TO:=St->Hp->(Option Int->Hp->Prop)->Prop
def PO(X:Cx)(e:Option Expr)(t:TO):Prop :=
 ∀(ah:List (Addr×Obj)) (s:Shared) (σ:St) (H:Hp) (Q:Option Int->Hp->Prop),Inv X ah σ H s->t σ H Q ->
  wpAny (model X.prog X.w) X.A (evalPart e X.env) (λu s'=>∃o H',Inv X ah σ H' s'/\IsPart u o/\Q o H') X.xe s
def Iw:TO:=λ_ H Q=>Q none H
def Rg(t:TE):TO:=λσ H Q=>t σ H λx H1=>∃i,x=.int i/\Q (some i) H1
def yZ:∀{us:List Value},Vals (ns.map V.int) us->IntsAre us ns:=by
 induction ns with
 | nil=>intro us r;rw[dP]at r;cases r;exact .nil
 | cons n ns ih =>
  intro us r;rw[aO]at r;cases r with
  | cons r1 r2 =>
   obtain⟨t,e⟩:=r1;subst e;exact .cons n t (ih r2)
section
variable {X:Cx} {e:Expr} {te:TE} {lo hi:Option Expr} {tl th:TO} {pos p2:Pos}
def Iy:PO X none Iw:=by
 intro ah s σ H Q I h;rw[evalPart_none];exact ak ⟨none,H,I,.none,h⟩
def Iz(h:PE X e te):PO X (some e) (Rg te):=by
 intro ah s σ H Q I hw;rw[evalPart_some];refine thn (h ah s σ H _ I hw) λu s1 ⟨x,H1,I1,r1,q1⟩=>?_
 obtain⟨i,rfl,q⟩:=q1;obtain⟨t,rfl⟩:=r1;exact⟨some i,H1,I1,.int i t,q⟩
def U6(X:Cx)(r:V->Option Int->Option Int->Hp->VK->Prop):Prop :=
 ∀(ah:List (Addr×Obj)) (s:Shared) (σ:St) (H:Hp) (x:V) (v vl vu:Value) (lo hi:Option Int) (sl:Addr) (Q:VK),Inv X ah σ H s->RelV x v->s.heap.IsSliceOf sl vl vu .none->IsPart vl lo->IsPart vu hi->r x lo hi H Q ->
  ∃T id,typeLookup (.type T) "__getitem__"=pure (some (.builtin id))/\s.TypeIs v T/\wpAny (model X.prog X.w) X.A (getItem v (.ref sl)) (EP X ah σ Q) X.xe s
def Y0(r:V->Option Int->Option Int->Hp->VK->Prop)(te:TE)(tl th:TO):TE:=λσ H Q=>te σ H λx H1=>tl σ H1 λl H2=>th σ H2 λu H3=>r x l u H3 Q
def En{r:V->Option Int->Option Int->Hp->VK->Prop}(hr:U6 X r)(he:PE X e te)(hl:PO X lo tl)(hu:PO X hi th):PE X (.Subscript e (.Slice lo hi none p2) pos) (Y0 r te tl th):=by
 intro ah s σ H Q I h;refine Subscript_ (thn (he ah s σ H _ I h) λv s1 ⟨x,H1,I1,r1,q1⟩=>?_)
 refine wpAny_Slice (thn (hl ah s1 σ H1 _ I1 q1) λvl s2 ⟨l,H2,I2,pl,q2⟩=>thn (hu ah s2 σ H2 _ I2 q2) λvu s3 ⟨u,H3,I3,pu,q3⟩=>?_)
 rw[evalPart_none];refine ak ?_;have I4:Inv X ah σ H3 {s3 with heap:=s3.heap.push {cls:=.type "slice",data:=.fields #[vl,vu,.none]}}:=I3.kept λb ob q=>aE _ q
 obtain⟨T,id,hT,ht,hg⟩:=hr ah {s3 with heap:=s3.heap.push {cls:=.type "slice",data:=.fields #[vl,vu,.none]}} σ H3 x v vl vu l u s3.heap.objs.size Q I4 r1 (Heap.IsSliceOf.new ..) pl pu q3
 show wpAny (model X.prog X.w) X.A (subscriptTail e (.Slice lo hi none p2) v (.ref s3.heap.objs.size)) (EP X ah σ Q) X.xe {s3 with heap:=s3.heap.push {cls:=.type "slice",data:=.fields #[vl,vu,.none]}}
 exact l8 ht hT hg (by with_unfolding_all rfl)
def vX(xs:List V)(lo hi:Option Int):List V:=(xs.drop (HT.dF xs.length 0 lo)).take (HT.dF xs.length xs.length hi-HT.dF xs.length 0 lo)
def mR(xs:List V)(lo hi:Option Int):(vX xs lo hi).length<=xs.length:=by
 unfold vX;rw[lU,tK]
 lia
def Wm(K:W.Frag):V->Option Int->Option Int->Hp->VK->Prop:=λx lo hi H Q=>∃a xs,x=.ref a/\gY K H a xs /\
 ¬(HT.dF xs.length 0 lo=0/\HT.dF xs.length xs.length hi=xs.length)/\∀p,H p=none->Q (.ref p) (cy H p (.aq (vX xs lo hi)))
def MY:U6 X (Wm X.K):=by
 intro ah s σ H x v vl vu lo hi sl Q I rx hs pl pu h;obtain⟨a,xs,rfl,hx,hw,q⟩:=h;cases rx;obtain⟨aw,r,ht,hz⟩:=I.tuple hx;have d8:aw.toArray.size=xs.length:=by rw[bW];exact r.length.symm
 refine⟨"tuple",_,lO.lookup,ht.typeIs,?_⟩;refine HT.kM ht hs pl pu (by grind) ?_ (by grind)
 rw[d8];refine⟨.ref s.heap.objs.size,_,I.laid (λb ob q=>aE _ q) (az _) ?_,rfl,q _ (I.hok.fresh (az _))⟩
 exact⟨aJ (mR xs lo hi) hz,_,(r.drop (HT.dF xs.length 0 lo)).take (HT.dF xs.length xs.length hi-HT.dF xs.length 0 lo),mY.new _ _⟩
def Rh(K:W.Frag):R2:=λx y H Q=>∃a b xs ys,x=.ref a/\y=.ref b/\gY K H a xs/\gY K H b ys/\xs≠[]/\xs.length+ys.length<=sizeLine /\
 (ys=[]->Q (.ref a) H)/\(ys≠[]->∀p,H p=none->Q (.ref p) (cy H p (.aq (xs++ys))))
def Vals.uv(r:Vals xs us):us=[]↔xs=[]:=by
 cases r with
 | nil=>simp
 | cons _ _=>simp
def IA:OpR X (binaryOp .Add) (Rh X.K):=by
 intro ah s σ H x y v u Q I rx ry h;obtain⟨a,b,xs,ys,rfl,rfl,ha,hb,hx,hz,q1,q2⟩:=h;cases rx;cases ry;obtain⟨aw,r1,p1,_⟩:=I.tuple ha;obtain⟨dR,r2,p2,_⟩:=I.tuple hb;refine HT.Iv p1 p2 (λz=>hx (r1.uv.mp z)) (λz=>⟨.ref a,H,I,rfl,q1 (r2.uv.mp z)⟩) (λz=>?_) (by rw[<-r1.length,<-r2.length];exact hz)
 refine⟨.ref s.heap.objs.size,_,I.laid (λb ob q=>aE _ q) (az _) ?_,rfl,q2 (λw=>z (r2.uv.mpr w)) _ (I.hok.fresh (az _))⟩
 exact⟨by grind,_,r1.append r2,mY.new _ _⟩
end
noncomputable def B9(n:Nat)(i:Int):Option Nat:=if 0<=i then(if i<n then some i.toNat else none)else if -(n:Int)<=i then some (i+n).toNat else none
def qP{α:Type}(xs:List α)(i:Int):Option α:=(B9 xs.length i).bind λj=>xs[j]?
def Az(h:B9 n i=some j):seqIndex? i n=some j/\j<n /\ -(n:Int)<=i/\i<n:=by
 unfold B9 at h;by_cases h0:0<=i
 ·rw[if_pos h0]at h;by_cases h1:i<n
  ·rw[if_pos h1]at h;have e:=bC h;exact⟨by rw[seqIndex_of h0 h1,e],by lia,by lia,h1⟩
  ·grind
 ·rw[if_neg h0]at h;by_cases h1:-n<=i
  ·rw[if_pos h1]at h;have e:=bC h;exact⟨by rw[seqIndex_neg (by lia) h1,e],by lia,h1,by lia⟩
  ·grind
def uw{α:Type}{xs:List α}{i:Int}{v:α}(h:qP xs i=some v):∃j,seqIndex? i xs.length=some j/\xs[j]?=some v/\j<xs.length /\ -(xs.length:Int)<=i/\i<xs.length:=by
 unfold qP at h;cases e:B9 xs.length i with
 | none=>rw[e]at h;cases h
 | some j =>
  rw[e]at h;obtain⟨h1,h2,h3,h4⟩:=Az e;exact⟨j,h1,h,h2,h3,h4⟩
def atI_nat{α:Type}{xs:List α}{j:Nat}{v:α}(h:xs[j]?=some v):qP xs (j:Int)=some v:=by
 have hj:=(di.mp h).1;have e:B9 xs.length j=some j:=by
  unfold B9;rw[if_pos (by lia),if_pos (by lia)];simp
 unfold qP;rw[e];exact h
def kN(b:Expr):Prop:=∀o i,subscripted b false o i=operate [o,i] (getItem o i)
def P7(X:Cx)(r:R2):Prop :=
 ∀(value slice:Expr) (ah:List (Addr×Obj)) (s:Shared) (σ:St) (H:Hp) (x y:V) (v u:Value) (Q:VK),Inv X ah σ H s->RelV x v->RelV y u->r x y H Q ->
  subscripted slice false v u=operate [v,u] (getItem v u)->wpAny (model X.prog X.w) X.A (subscriptTail value slice v u) (EP X ah σ Q) X.xe s
def Y1(X:Cx)(id:String)(r:V->List V->Hp->VK->Prop):Prop :=
 ∀(ah:List (Addr×Obj)) (s:Shared) (σ:St) (H:Hp) (x:V) (xs:List V) (v:Value) (us:List Value) (Q:VK),Inv X ah σ H s->RelV x v->Vals xs us->r x xs H Q ->
  wpAny (model X.prog X.w) X.A (call (.builtin id) (v::us)) (EP X ah σ Q) X.xe s
section
variable {X:Cx} {a b:Expr} {ta tb:TE} {pos:Pos}
def Eo(hr:P7 X r)(ha:PE X a ta)(hb:PE X b tb)(hs:kN b):PE X (.Subscript a b pos) (QV r ta tb):=by
 intro ah s σ H Q I h;exact Subscript_ (ME ha hb I h λv u s2 x y H2 I2 rx ry q=>hr a b ah s2 σ H2 x y v u Q I2 rx ry q (hs _ _))
def Wn(K:W.Frag):R2:=λx y H Q=>∃p xs i v,x=.ref p/\y=.int i/\uk K H p xs/\qP xs i=some v/\Q v H
def Wo(K:W.Frag):R2:=λx y H Q=>∃p xs i v,x=.ref p/\y=.int i/\gY K H p xs/\qP xs i=some v/\Q v H
def Wq:R2:=λx y H Q=>∃z i c,x=.str z/\y=.int i/\z.length<=sizeLine/\qP z.cps.toList i=some c/\Q (.str ⟨#[c]⟩) H
def IB:P7 X (Wn X.K):=by
 intro value slice ah s σ H x y v u Q I rx ry h hs;obtain⟨p,xs,i,z,rfl,rfl,hq,he,q⟩:=h;cases rx;obtain⟨t,rfl⟩:=ry;obtain⟨aw,r,pl,hz⟩:=I.list hq;obtain⟨j,h1,h2,h3,h4,h5⟩:=uw he;obtain⟨w,ew,IC⟩:=r.get h2;have hl:=r.length;have hn:=j6;have jr:EP X ah σ Q w s:=⟨z,H,I,IC,q⟩;by_cases h0:0<=i
 ·have hj:i.toNat=j:=by
   rw[seqIndex_of h0 h5]at h1;exact bC h1
  exact item_listR pl.isList h0 (by lia) (by grind) jr hs
 ·have hj:(i+(aw.toArray.size:Int)).toNat=j:=by
   rw[seqIndex_neg (by lia) h4]at h1
   rw[bW,<-hl];exact bC h1
  exact subscriptTail_builtinR pl.isList.typeIs slot_list_getitem.lookup
   (wpAny_getItem_list_neg pl.isList (by lia) (by grind) (by lia) (by grind) ⟨rfl,jr⟩) hs
def MZ:P7 X (Wo X.K):=by
 intro value slice ah s σ H x y v u Q I rx ry h hs;obtain⟨p,xs,i,z,rfl,rfl,hq,he,q⟩:=h;cases rx;obtain⟨t,rfl⟩:=ry;obtain⟨aw,r,pl,hz⟩:=I.tuple hq;obtain⟨j,h1,h2,h3,h4,h5⟩:=uw he;obtain⟨w,ew,IC⟩:=r.get h2;have hl:=r.length;have hn:=j6;have jr:EP X ah σ Q w s:=⟨z,H,I,IC,q⟩;exact subscriptTail_builtinR pl.typeIs slot_tuple_getitem.lookup
  (getItem_tuple pl (by lia) (by lia) (by rw[bW,<-hl];exact h1) (by grind) ⟨rfl,jr⟩) hs
def M0:P7 X Wq:=by
 intro value slice ah s σ H x y v u Q I rx ry h hs;obtain⟨z,i,c,rfl,rfl,hz,he,q⟩:=h;obtain⟨t,rfl⟩:=rx;obtain⟨t',rfl⟩:=ry;obtain⟨j,h1,h2,h3,h4,h5⟩:=uw he;have hl:z.cps.toList.length=z.length:=by simp[Str.length]
 rw[hl]at h1 h4 h5;have hn:=j6;exact l8 (typeIs_str s z t) slot_str_getitem.lookup (getItem_str (by
  grind) (by grind) ⟨.str ⟨#[c]⟩,H,I.tok _,⟨_,rfl⟩,q⟩) hs
def y7(aw:List Value)(n j:Nat)(u:Value):Obj.mapSeq (·.setIfInBounds j u) {cls:=.type "list",data:=.seq aw.toArray n}={cls:=.type "list",data:=.seq (aw.set j u).toArray n}:=by
 simp[Obj.mapSeq]
def Inv.lst{ah:List (Addr×Obj)}{σ:St}{H:Hp}{s:Shared}{p:Addr}{xs:List V}(I:Inv X ah σ H s)(h:H p=some (.lst xs)) :
  ∃(aw:List Value) (n:Nat),Vals xs aw/\s.heap.get? p=some {cls:=.type "list",data:=.seq aw.toArray n}/\xs.length<=sizeLine:=by
 obtain⟨z,aw,n,r,e⟩:=I.hok p _ h;exact⟨aw,n,r,e,z⟩
def Inv.M3{ah:List (Addr×Obj)}{σ:St}{H:Hp}{s:Shared}{p:Addr}{xs ys:List V}{aw its':List Value}{n n':Nat}{f:Obj->Obj}(I:Inv X ah σ H s)(h:H p=some (.lst xs))
  (ho:s.heap.get? p=some {cls:=.type "list",data:=.seq aw.toArray n}) (hf:f {cls:=.type "list",data:=.seq aw.toArray n}={cls:=.type "list",data:=.seq its'.toArray n'}) (r:Vals ys its') (hz:ys.length<=sizeLine) (t:Nat) :
  Inv X ah σ (cy H p (.lst ys)) {s with heap:=s.heap.update p f,toks:=t}:=by
 have e:(s.heap.update p f).get? p=some {cls:=.type "list",data:=.seq its'.toArray n'}:=by
  rw[lP f ho (by rw[hf]<;>rfl),hf]
 refine I.write (by rw[h];trivial) (.inl rfl) (λb u hb q=>(iL _ _ (bR hb)).trans q) ⟨_,e⟩ ?_
 exact⟨hz,its',n',r,e⟩
def Rj:V->V->V->Hp->(Hp->Prop)->Prop:=λo i v H Q=>∃p xs k j,o=.ref p/\i=.int k/\H p=some (.lst xs)/\B9 xs.length k=some j/\Q (cy H p (.lst (xs.set j v)))
def Ep:D7 X Rj:=by
 intro ah s σ H o i v ov iv u Q I ro ri rv h;obtain⟨p,xs,k,j,rfl,rfl,hp,hj,q⟩:=h;cases ro;obtain⟨t,rfl⟩:=ri;obtain⟨aw,n,r,ho,hz⟩:=I.lst hp;obtain⟨h1,h2,h3,h4⟩:=Az hj;have hl:=r.length;have hn:=j6;have I':Inv X ah σ (cy H p (.lst (xs.set j v))) {s with heap:=s.heap.update p (Obj.mapSeq (·.setIfInBounds j u))} :=
  I.M3 hp ho (y7 aw n j u) (r.set rv j) (by grind) s.toks
 by_cases h0:0<=k
 ·have hk:k.toNat=j:=by
   rw[seqIndex_of h0 h4]at h1;exact bC h1
  exact W.ki_setAt ho h0 (by lia) (by grind) (by grind)
 ·have hk:(k+(aw.toArray.size:Int)).toNat=j:=by
   rw[seqIndex_neg (by lia) h3]at h1
   rw[bW,<-hl];exact bC h1
  exact W.ki_setBack ho (by lia) (by grind) (by lia) (by grind)
def ux(lo hi:Option Int)(n:Nat):(sliceBounds lo hi none n).1=((HT.dF n 0 lo:Nat):Int)/\(sliceBounds lo hi none n).2.1=((HT.dF n n hi:Nat):Int)/\(sliceBounds lo hi none n).2.2=1:=by
 refine⟨?_,?_,rfl⟩
 ·cases lo with
  | none=>simp[sliceBounds,HT.dF]
  | some i =>
   simp only[sliceBounds,HT.dF,yt,show 1>0 by decide,d5]
   by_cases h:i<0
   ·grind
   ·grind
 ·cases hi with
  | none=>simp[sliceBounds,HT.dF]
  | some i =>
   simp only[sliceBounds,HT.dF,yt,show 1>0 by decide,d5]
   by_cases h:i<0
   ·grind
   ·grind
def qV(aw:List Value)(lo hi:Option Int):slicePick aw.toArray lo hi none=((aw.drop (HT.dF aw.length 0 lo)).take (HT.dF aw.length aw.length hi-HT.dF aw.length 0 lo)).toArray:=by
 obtain⟨h1,h2,h3⟩:=ux lo hi aw.toArray.size;unfold slicePick;rw[h1,h2,h3];simp only[sliceRange_one,pick_run,bW]<;>rfl
def Wr(K:W.Frag):V->Option Int->Option Int->Hp->VK->Prop:=λx lo hi H Q=>∃a xs,x=.ref a/\uk K H a xs/\∀p,H p=none->Q (.ref p) (cy H p (.lst (vX xs lo hi)))
def ID:U6 X (Wr X.K):=by
 intro ah s σ H x v vl vu lo hi sl Q I rx hs pl pu h;obtain⟨a,xs,rfl,hx,q⟩:=h;cases rx;obtain⟨aw,r,ht,hz⟩:=I.list hx;have d8:=r.length;refine⟨"list",_,slot_list_getitem.lookup,ht.isList.typeIs,?_⟩;refine wpAny_getItem_list_slice ht.isList hs pl pu .none (by simp) ?_ (by grind)
 rw[qV,<-d8];refine⟨.ref s.heap.objs.size,_,I.laid (λb ob q=>aE _ q) (az _) ?_,rfl,q _ (I.hok.fresh (az _))⟩
 exact⟨aJ (mR xs lo hi) hz,_,0,(r.drop (HT.dF xs.length 0 lo)).take (HT.dF xs.length xs.length hi-HT.dF xs.length 0 lo),bu _ rfl⟩
def kO:jI X (.builtin "len") (λxs H Q=>∃p ys,xs=[.ref p]/\(uk X.K H p ys\/gY X.K H p ys)/\Q (.int ys.length) H):=by
 intro ah s σ H xs us Q I r h;obtain⟨p,ys,rfl,hq,q⟩:=h;obtain⟨u,rfl,rx⟩:=iY r;cases rx;have hn:=j6;rcases hq with hq | hq
 ·obtain⟨aw,r',pl,hz⟩:=I.list hq;have d8:=r'.length;exact Calls.call_len_list pl.isList (by grind) ⟨.int ys.length,H,I.tok _,⟨s.toks+1,by grind⟩,q⟩
 ·obtain⟨aw,r',pl,hz⟩:=I.tuple hq;have d8:=r'.length;exact len_tuple pl (by grind) ⟨.int ys.length,H,I.tok _,⟨s.toks+1,by grind⟩,q⟩
def uy:jI X (.builtin "len") (λxs H Q=>∃z,xs=[.str z]/\z.length<=sizeLine/\Q (.int z.length) H):=by
 intro ah s σ H xs us Q I r h;obtain⟨z,rfl,hz,q⟩:=h;obtain⟨u,rfl,t,rfl⟩:=iY r;have hn:=j6;exact len_str (by lia) ⟨.int z.length,H,I.tok _,⟨_,rfl⟩,q⟩
def jJ:jI X (.type "tuple") (λxs H Q=>∃p ys,xs=[.ref p]/\((uk X.K H p ys/\∀l,H l=none->Q (.ref l) (cy H l (.aq ys)))\/(gY X.K H p ys/\Q (.ref p) H))):=by
 intro ah s σ H xs us Q I r h;obtain⟨p,ys,rfl,h⟩:=h;obtain⟨u,rfl,rx⟩:=iY r;cases rx;rcases h with⟨hq,q⟩ | ⟨hq,q⟩
 ·obtain⟨aw,r',pl,hz⟩:=I.list hq;have d8:=r'.length;refine call_tuple_list pl.isList (λh' kp=>?_) (by grind)
  have I1:=I.kept (t':=s.toks) kp;have I2:Inv X ah σ (cy H h'.objs.size (.aq ys)) {s with heap:=h'.push {cls:=.type "tuple",data:=.seq aw.toArray}} :=
   I1.laid (λb o e=>aE _ e) (az _) (⟨hz,aw,r',mY.new _ _⟩)
  exact⟨.ref h'.objs.size,_,I2,rfl,q _ (I1.hok.fresh (az _))⟩
 ·obtain⟨aw,r',pl,hz⟩:=I.tuple hq;exact call_tuple_same pl ⟨.ref p,H,I,rfl,q⟩
def tyV(K:W.Frag)(T:String)(x:V)(H:Hp):Prop:=match x with
 | .str _=>T="str"
 | .int _=>T="int"
 | .ref p=>(T="list"/\∃xs,uk K H p xs)\/(T="tuple"/\∃o,K.lookup p=some o/\o.cls=.type "tuple"/\o.dict=none) \/
   (T="dict"/\((∃kvs,H p=some (.dK kvs))\/∃kvs,H p=some (.dT kvs)))\/(T="set"/\∃S n,H p=some (.set S n))
 | _=>False
def Er{ah:List (Addr×Obj)}{σ:St}{H:Hp}{s:Shared}{T:String}{x:V}{v:Value}(I:Inv X ah σ H s)(r:RelV x v)(ty:tyV X.K T x H) :
  s.TypeIs v T/\∀a,v=.ref a->∃ob,s.heap.get? a=some ob/\ob.dict=none:=by
 cases x with
 | str z =>
  obtain⟨t,rfl⟩:=r;cases(ty);exact⟨typeIs_str s z t,λ_ e=>nomatch e⟩
 | int i =>
  obtain⟨t,rfl⟩:=r;cases(ty);exact⟨oQ s i t,λ_ e=>nomatch e⟩
 | ref p =>
  cases r;rcases ty with⟨rfl,xs,hq⟩ | ⟨rfl,o,hk,hc,hd⟩ | ⟨rfl,hk⟩ | ⟨rfl,S,n,hk⟩
  ·obtain⟨aw,_,pl,_⟩:=I.list hq;refine⟨pl.isList.typeIs,λa e=>?_⟩
   cases e;obtain⟨o,n,e,c,hd,_⟩:=pl;exact⟨o,e,hd⟩
  ·refine⟨⟨o,I.mh p o hk,hc⟩,λa e=>?_⟩
   cases e;exact⟨o,I.mh _ o hk,hd⟩
  ·have z:∃o,s.heap.get? p=some o/\o.ExactDict:=by
    rcases hk with⟨kvs,hk⟩ | ⟨kvs,hk⟩
    ·obtain⟨_,_,_,_,o,_,_,e,ex,_⟩:=I.hok p _ hk;exact⟨o,e,ex⟩
    ·obtain⟨_,_,o,_,_,e,ex,_⟩:=(I.hok p _ hk);exact⟨o,e,ex⟩
   obtain⟨o,e,ex⟩:=z;refine⟨⟨o,e,ex.1⟩,λa e2=>?_⟩
   cases e2;exact⟨o,e,ex.2.1⟩
  ·obtain⟨o,_,_,_,e,ex,_⟩:=I.hok p _ hk;refine⟨⟨o,e,ex.1⟩,λa e2=>?_⟩
   cases e2;exact⟨o,e,ex.2.1⟩
 | _=>exact False.elim ty
def Rk(K:W.Frag)(T:String)(r:V->List V->Hp->VK->Prop)(to:TE):TE:=λσ H Q=>to σ H λx H1=>tyV K T x H1/\r x [] H1 Q
def Y2(K:W.Frag)(T:String)(r:V->List V->Hp->VK->Prop)(to:TE)(t:TA):TE:=λσ H Q=>to σ H λx H1=>tyV K T x H1/\t σ H1 λxs H2=>r x xs H2 Q
variable {o e:Expr} {es:List Expr} {to:TE} {t:TA} {name:Str} {dW hJ:Pos} {T id:String} {r:V->List V->Hp->VK->Prop}
def M4(pa:PlainAttrs T)(slot:Slot T name id)(Ws:typeOf (.builtin id)=pure (.type "method_descriptor"))(hm:Y1 X id r)(ho:PE X o to)
  (kP:attributeBase o name X.env (eval o X.env)=eval o X.env:=by rfl) (kQ:(dW.endLine==hJ.line)=true:=by rfl):PE X (.Call (.Attribute o name dW) [] [] hJ) (Rk X.K T r to):=by
 intro ah s σ H Q I h;refine wpAny_Call_method0_late kP kQ (thn (ho ah s σ H _ I h) λv s1 z9=>?_)
 obtain⟨x,H1,I1,r1,ty,q1⟩:=z9;obtain⟨h1,h2⟩:=Er I1 r1 ty;exact⟨T,id,pa,slot,Ws,h1,h2,Calls.callWith_builtin rfl (PySem.evalArgs_none (hm ah s1 σ H1 x [] v [] Q I1 r1 .nil q1))⟩
def KY(pa:PlainAttrs T)(slot:Slot T name id)(Ws:typeOf (.builtin id)=pure (.type "method_descriptor"))(hm:Y1 X id r)(ho:PE X o to)(ha:PA X (e::es) t)
  (kP:attributeBase o name X.env (eval o X.env)=eval o X.env:=by rfl)
  (IE:((backTo hJ (starEach (e::es) X.env)).all (λx=>!x.1)&&(backToKw hJ (keywordEach [] X.env)).all (λx=>x.1.isSome)
   && decide ((e::es).length+([]:List Keyword).length+(if([]:List Keyword).isEmpty then 0 else 1)<30))=true:=by rfl)
  (kQ:(dW.endLine==hJ.line)=true:=by rfl) (hs:starEach (e::es) X.env=(false,eval e X.env)::starEach es X.env:=by rfl) (Wt:(backTo hJ (starEach es X.env)).any (·.1)=false:=by rfl) :
  PE X (.Call (.Attribute o name dW) (e::es) [] hJ) (Y2 X.K T r to t):=by
 intro ah s σ H Q I h;refine wpAny_Call_method_late kP IE kQ rfl (thn (ho ah s σ H _ I h) λv s1 z9=>?_)
 obtain⟨x,H1,I1,r1,ty,q1⟩:=z9;obtain⟨h1,h2⟩:=Er I1 r1 ty;refine⟨T,id,pa,slot,Ws,h1,h2,?_⟩;have hA:=ha hJ ah s1 σ H1 _ I1 q1;rw[hs]at hA ⊢;refine Calls.callWith_builtin (by grind) (Calls.evalArgs_plain ?_)
 exact thn hA (by rintro us s2 ⟨vs,H2,I2,r2,q2⟩;exact hm ah s2 σ H2 x vs v us Q I2 r1 r2 q2)
end
def Wu(X:Cx)(id:String)(r:V->List V->Hp->VK->Prop):Prop :=
 ∀(ah:List (Addr×Obj)) (s:Shared) (σ:St) (H:Hp) (x:V) (xs:List V) (v:Value) (us:List Value) (Q:VK),Inv X ah σ H s->RelV x v->Vals xs us->r x xs H Q ->
  wpAny (model X.prog X.w) X.A (call (.builtin id) (v::us)) (EP X ah σ Q) X.xe s
theorem Vals.one:∀{x:V} {us:List Value},Vals [x] us->∃u,us=[u]/\RelV x u
 | _,_,.cons r .nil=>⟨_,rfl,r⟩
def Vals.two{x y:V}{us:List Value}(h:Vals [x,y] us):∃u v,us=[u,v]/\RelV x u/\RelV y v:=by
 cases h with
 | cons r h=>cases h with
  | cons q h=>cases h;exact⟨_,_,rfl,r,q⟩
theorem Vals.zero:∀{us:List Value},Vals [] us->us=[]
 | _,.nil=>rfl
section
variable {X:Cx} {ah:List (Addr×Obj)} {σ:St} {H:Hp} {s:Shared} {l b:Addr} {xs ys zs:List V}
def Inv.M5{aw its':List Value}{n:Nat}{f:Array Value->Array Value}{t':Nat}(I:Inv X ah σ H s)(hH:H l=some (.lst xs))
  (e:s.heap.get? l=some {cls:=.type "list",data:=.seq aw.toArray n}) (hf:f aw.toArray=its'.toArray) (hv:Vals ys its') (hz:ys.length<=sizeLine) :
  Inv X ah σ (cy H l (.lst ys)) {s with heap:=s.heap.update l (Obj.mapSeq f),toks:=t'}:=by
 have q:=PySem.IsL.update e f;rw[hf]at q;refine I.write (by rw[hH];exact trivial) (.inl rfl) (λb' u hb hu=>(iL s.heap (Obj.mapSeq f) (bR hb)).trans hu) ⟨_,q⟩ ?_
 exact⟨hz,its',_,hv,q⟩
def Inv.M6(I:Inv X ah σ H s)(hv:Vals ys aw)(hz:ys.length<=sizeLine) :
  Inv X ah σ (cy H s.heap.objs.size (.lst ys)) {s with heap:=s.heap.push {cls:=.type "list",data:=.seq aw.toArray},toks:=t'} :=
 I.laid (λ_ _ q=>aE _ q) (az _) ⟨hz,aw,0,hv,bu _ rfl⟩
def Inv.fresh(I:Inv X ah σ H s):H s.heap.objs.size=none:=I.hok.fresh (az _)
def Inv.fU(I:Inv X ah σ H s)(hH:H l=some (.lst xs)):xs.length<=sizeLine/\∃(aw:List Value) (n:Nat),Vals xs aw/\xs.length=aw.length/\s.heap.get? l=some {cls:=.type "list",data:=.seq aw.toArray n}:=by
 obtain⟨z,aw,n,r,e⟩:=I.hok l _ hH;exact⟨z,aw,n,r,r.length,e⟩
def vY(h:n<=sizeLine):Builtin.List.listTooLong n=false:=by
 unfold Builtin.List.listTooLong;exact cL (by lia)
end
section
variable {X:Cx}
def AA:V->List V->Hp->VK->Prop:=λx vs H Q=>∃l xs y,x=.ref l/\vs=[y]/\H l=some (.lst xs)/\xs.length<sizeLine/\Q .aL (cy H l (.lst (xs++[y])))
def Cc:Wu X "list.append" AA:=by
 intro ah s σ H x vs v us Q I rx rv h;obtain⟨l,xs,y,rfl,rfl,hH,hz,q⟩:=h;cases rx;obtain⟨u,rfl,ru⟩:=rv.one;obtain⟨z,aw,n,r,hl,e⟩:=I.fU hH;refine fx F.slot_list_append ⟨_,e,rfl⟩ F.entry_list_append (F.args_list_append_2 _ _) (PySem.list_append l aw.toArray n u (by grind)) ⟨e,?_⟩
 refine⟨.aL,_,I.M5 hH e (by simp) (r.append (.cons ru .nil)) ?_,rfl,q⟩
 rw[bA,List.length_singleton]
 lia
end
end L2
namespace Y3
open PySem PySem.W PySem.Calls PyProof.Rows
def m9:∀(ns:List Int) (vs:List Value),WellAll P h vs (ns.map WData.int)->IntsAre vs ns:=by
 intro ns;induction ns with
 | nil =>
  intro vs w;rw[dP]at w;cases w;exact .nil
 | cons n ns ih =>
  intro vs w;rw[aO]at w;cases w with
  | cons a b =>
   cases a;exact .cons _ _ (ih _ b)
def Cd{l:OpenLaw}(hn:l.most=some n) 
  (IF:l.row.toRowW.claim.pre args=true) (Ww:WellAll P h Rl args) :
  ∃a vs ns,Rl=[Value.ref a]/\args=[WData.list (ns.map WData.int)]/\h.get? a=some {cls:=.type "list",data:=.seq vs.toArray}/\IntsAre vs ns/\ns.length<=n:=by
 have hsh:=(pre_splitW IF).1;have hc:l.pre.holds [] {args:=args}=true:=(pre_splitW IF).2
 obtain⟨d,r,rfl,h1,h2⟩:=hasAllW_cons hsh;obtain rfl:=hasAllW_nil h2;obtain⟨xs,rfl,h3⟩:=hasW_list h1;obtain⟨ns,rfl⟩:=items_int h3;have d8:ns.length<=n:=by
  unfold OpenLaw.pre at hc;have h4:(WTm.not (.lt (.lit (.int n)) (.len (.arg 0)))).holds [] {args:=[.list (ns.map .int)]}=true:=by
   have h4:=(holds_andW hc).1;rw[hn]at h4;exact h4
  have h5:=condW_of h4 (w_not (w_lt w_lit (w_len_list (w_arg rfl))));rw[aQ]at h5;refine yr λq=>?_
  have q':n<(ns.length:Nat):=by lia
  first
   | (rw[dA q']at h5;exact absurd h5 (by decide))
   | (simp at h5;lia)
 cases Ww with
 | cons w1 w2 =>
  cases w2;cases w1 with
  | list ho hall=>exact⟨_,_,ns,rfl,rfl,ho,m9 ns _ hall,d8⟩
def Ce(l:OpenLaw)(args:List WData):l.row.toRowW.claim.post args (.bool true) args=true :=
 postW_of
  (show WShape.has [] (.bool true) .bool=true by first | rfl | decide | simp[WShape.has,WShape.arms,WShape.armsAll])
  (w_eq_bool (w_res rfl) w_lit) rfl
def vZ{l:OpenLaw}{n:Nat}{loose:List Str}{XP:(Str->Option Value)->Heap->Prop}{YP:World->Heap->Prop}{d:DefRec}
  (hn:l.most=some n) (QB:d.params.defaults=[])
  (call:∀(w:World) (s₀ s₁:Shared) (mg mb:Str->Option Value) (fa:Addr) (o:Obj) (pm cd doc:Value) (a:Addr) (vs:List Value) (ns:List Int),
   Ground q loose [] XP w s₀ mg mb s₁.heap->YP w s₁.heap ->
   s₁.heap.get? fa=some o->o.data=.func (docDef d.name d.params d.body d.scope pm cd doc)->s₁.heap.CodeRec cd d.name->mg d.name=some (.ref fa) ->
   s₁.heap.get? a=some {cls:=.type "list",data:=.seq vs.toArray}->IntsAre vs ns->ns.length<=n->s₁.gens=#[] ->
   codeAny (model l.prog w) callerA (.call (.ref fa) ⟨[.ref a],[]⟩) (λr s'=>r=.ok (.ret (.bool true))/\OldK s₁.heap s'.heap/\s'.os=s₁.os/\AllBare s'.gens) s₁) :
  WalkO q loose XP YP l.row.toRowW d [] (λf vs=>PySem.call f vs):=by
 intro w s₀ s₁ mg mb G Y fa o pm cd doc dV kV ho hd xM hD P8 hg args Rl as IF aaY Ho Ww hlo;obtain rfl:dV=.none:=Dflts.none hD QB;obtain rfl:kV=.none:=Dflts.noKw hD;obtain⟨a,vs,ns,rfl,rfl,Es,Et,d8⟩:=Cd hn IF Ww;refine enter_call (oM (call w s₀ s₁ mg mb fa o pm cd doc a vs ns G Y ho (fd_plain hd) xM P8 Es Et d8 hg) λr s' hq=>?_)
 obtain⟨rfl,h2,h3,h4⟩:=hq;exact⟨.inl ⟨.bool true,.bool true,[],rfl,λ_=>rfl,.bool true,Ce l _,λ_=>⟨List.Pairwise.nil,λ_ hm=>(nomatch hm)⟩⟩,h2,h3,h4⟩
end Y3
namespace L2
open PySem PySem.Spec PyProof.Rows
theorem rM:∀{vs:List Value} {ns:List Int},IntsAre vs ns->Vals (ns.map V.int) vs
 | _,_,.nil=>.nil
 | _,_,.cons n t h=>.cons ⟨t,rfl⟩ (rM h)
def Cf{P:Program}{w:World}{K:W.Frag}{mg mb:Str->Option Value}{CX:BP}{k:Nat}{fa a:Addr}{fd:FuncData}{x:Str}{sp:Sp}{s₁:Shared}{vs:List Value}{ns:List Int}{tabs:List (Addr×Str)}
  (KX:K.In s₁.heap) (Eu:s₁.heap.Ns mainGlobals mg) (hb:s₁.heap.Ns builtinsNs mb) (P9:∀x:Str,x≠"__name__"->mb x=bootBuiltins x) (y9:s₁.heap.NoLimit) (hg:s₁.gens=#[])
  (hT:∀b q,tabs.lookup b=some q->s₁.heap.get? b=some {cls:=.none,data:=.fields #[]}/\isCodeTable s₁.heap b/\K.lookup b=none) (hTI:∀H:Hp,(∀b q,tabs.lookup b=some q->H b=some (.yE q))->oZ K H)
  (ha:s₁.heap.get? a=some {cls:=.type "list",data:=.seq vs.toArray}) (hi:IntsAre vs ns) (hl:ns.length<=sizeLine) (hr:cN k callerA)
  (F:∀base:Heap,K.In base->base.Ns mainGlobals mg->FnOk P w K mg base CX k fa fd [x] sp) (Rm:∀(s:Shared) (u:Value),BindsTo s fd ⟨[u],[]⟩ [(x,u)])
  (KW:∀H:Hp,gZ K H a (ns.map V.int)->sp [.ref a] H (λv _=>v=.bl true) λ_ _ _=>False) (hCX:∀H e s',CX [] H s₁ (λ_ _ _=>False) e s'->False) :
  codeAny (model P w) callerA (.call (.ref fa) ⟨[.ref a],[]⟩) (λr s'=>r=.ok (.ret (.bool true))/\OldK s₁.heap s'.heap/\s'.os=s₁.os/\AllBare s'.gens) s₁:=by
 have rv:=rM hi;have j8:=hi.length
 let oa:Obj:={cls:=.type "list",data:=.seq vs.toArray}
 let H:Hp:=λb=>if b=a/\K.lookup a=none then some (.vH oa (.lst (ns.map V.int)))else(tabs.lookup b).map HO.yE
 have Wx:∀b,H b=if b=a/\K.lookup a=none then some (.vH oa (.lst (ns.map V.int)))else(tabs.lookup b).map HO.yE:=λ_=>rfl
 have hHt:∀b q,tabs.lookup b=some q->H b=some (.yE q):=λb q e=>by
  grind
 have hH:∀b u,H b=some u->(b=a/\K.lookup a=none/\u=.vH oa (.lst (ns.map V.int)))\/∃q,tabs.lookup b=some q/\u=.yE q:=λb u e=>by
  rw[Wx]at e;by_cases h:b=a/\K.lookup a=none
  ·grind
  ·rw[if_neg h]at e;cases z:tabs.lookup b with
   | none=>rw[z]at e;cases e
   | some q=>rw[z]at e;cases e;exact .inr ⟨q,rfl,rfl⟩
 have hS:gZ K H a (ns.map V.int):=by
  cases hk:K.lookup a with
  | some o =>
   have e:=KX a o hk;rw[ha]at e;cases e;exact .inr ⟨vs,_,hk,by grind,rv⟩
  | none=>exact .inl (.inr ⟨oa,by grind⟩)
 have hok:kB P w H s₁.heap:=λb u e=>by
  rcases hH b u e with⟨rfl,_,rfl⟩ | ⟨q,hq,rfl⟩
  ·exact⟨ha,by grind,vs,_,rv,ha⟩
  ·exact⟨#[],(hT b q hq).1,trivial,λpos cv z=>by cases z⟩
 have noD:∀{b:Addr} {o:Obj} {es:Array DictEntry} {ep:Nat},s₁.heap.get? b=some o->o.data=.dict es ep->H b=none:=λ{b o es ep} e d=>by
  cases q:H b with
  | none=>rfl
  | some u =>
   rcases hH b u q with⟨rfl,_,_⟩ | ⟨t,ht,_⟩
   ·grind
   ·grind
 have U7:∀{b:Addr} {m:Str->Option Value},s₁.heap.Ns b m->(vO s₁.heap H).Ns b m:=λ{b m} ⟨o,es,ep,e,d,r⟩=>⟨o,es,ep,hidT_get e (noD e d),d,r⟩
 have Y4:K.In (vO s₁.heap H):=λb o e=>hidT_get (KX b o e) (by
  cases q:H b with
  | none=>rfl
  | some u =>
   rcases hH b u q with⟨rfl,z,_⟩ | ⟨t,ht,_⟩
   ·grind
   ·rw[(hT b t ht).2.2]at e;cases e)
 have hM:Mod K mg (vO s₁.heap H):=⟨Y4,U7 Eu,⟨mb,U7 hb,P9⟩,let ⟨mc,h1,h2⟩:=y9;⟨mc,U7 h1,h2⟩⟩
 have e0:Env0 P w K mg (vO s₁.heap H) callerA [] s₁ H:=⟨rfl,hM,λb o e=>of_hidT e,iR (B0 _ _),trivial,λb hb=>absurd (show b∈([]:List Addr)from hb) (by simp),hok,.of_eq hg,hTI H hHt⟩
 refine oM ((F _ Y4 (U7 Eu)).run callerA [] s₁ H ⟨[.ref a],[]⟩ [.ref a] [.ref a] _ _ hr e0 (Rm s₁ (.ref a)) (.cons rfl .nil) (KW H hS)) λr s' h=>?_
 cases r with
 | error e=>exact(hCX H e s' h).elim
 | ok fl =>
  cases fl with
  | next=>exact False.elim h
  | brk=>exact False.elim h
  | cont=>exact False.elim h
  | ret u =>
   obtain⟨v,H',os,bare,un,Rq,r',q⟩:=h;have q':=q;subst q';obtain rfl:u=Value.bool true:=r';have noF:∀b:Addr,b∉kH []:=λb z=>absurd (show b∈([]:List Addr)from z) (by simp)
   refine⟨rfl,⟨λb o e=>?_,λb o e=>un.there b o e (by simp)⟩,os,bare⟩
   cases q:H b with
   | none=>exact .inl (un.keep b o e q (noF b) (by simp))
   | some u =>
    rcases hH b u q with⟨rfl,_,rfl⟩ | ⟨t,ht,rfl⟩
    ·obtain⟨e2,_⟩:=Rq b _ (un.frzs b _ _ q);rw[ha]at e;cases e;exact .inl e2
    ·obtain⟨h1,h2,_⟩:=hT b t ht;obtain⟨ps,e2,_⟩:=(Rq b _ (un.tbls b _ q));rw[h1]at e;cases e;exact .inr (.inl ⟨h2,rfl,#[],ps,rfl,by grind⟩)
abbrev E0:XK:=λ_ _ _=>False
def bT(H H':Hp):Prop:=∀b o,H b=some o->H' b=some o
def bT.refl(H:Hp):bT H H:=λ_ _ h=>h
def bT.trans(a:bT H H1)(b:bT H1 H2):bT H H2:=λc o h=>b c o (a c o h)
def bT.free(e:bT H H')(h:H' l=Option.none):H l=Option.none:=by
 cases q:H l with
 | none=>rfl
 | some o =>
  rw[e l o q]at h;cases h
def bT.seq{K:W.Frag}{H H':Hp}{a:Addr}{xs:List V}(e:bT H H')(h:uk K H a xs):uk K H' a xs:=by
 rcases h with(h | ⟨o,h⟩) | h
 ·exact .inl (.inl (e _ _ h))
 ·exact .inl (.inr ⟨o,e _ _ h⟩)
 ·exact .inr h
section
variable {κ:Type} [DecidableEq κ]
noncomputable def nc(kvs:List (κ×V))(k:κ):Option V:=(kvs.find? λkv=>decide (kv.1=k)).map (·.2)
noncomputable def putK(kvs:List (κ×V))(k:κ)(v:V):List (κ×V) :=
 if(kvs.any λkv=>decide (kv.1=k))=true then kvs.map (λkv=>if kv.1=k then(kv.1,v)else kv)else kvs++[(k,v)]
def kR{p:κ×V}{r:List (κ×V)}{k:κ}(e:p.1=k):nc (p::r) k=some p.2:=by simp[nc,oF,e]
def kT{p:κ×V}{r:List (κ×V)}{k:κ}(e:¬p.1=k):nc (p::r) k=nc r k:=by simp[nc,oF,e]
theorem v5(k:κ):∀kvs:List (κ×V),(kvs.any λkv=>decide (kv.1=k))=(nc kvs k).isSome
 | []=>rfl
 | p::r=>by
  rw[l5];by_cases e:p.1=k
  ·simp only[kR e,dA e,Bool.true_or,Option.isSome_some]
  ·rw[kT e,cL e,Bool.false_or];exact v5 k r
def mX.rN{o:Option V}{u:Option Value}(r:mX o u):o.isSome=u.isSome:=by
 cases o with
 | none=>cases u with
  | none=>rfl
  | some _=>exact(show False from r).elim
 | some _=>cases u with
  | none=>exact(show False from r).elim
  | some _=>rfl
def KV.val{kvs:List (κ×V)}{vs:List (κ×Value)}(r:KV kvs vs)(k:κ):mX (nc kvs k) (valueAt vs k):=by
 unfold KV at r;induction r with
 | nil=>exact True.intro
 | @cons p q ps qs h t ih =>
  obtain⟨h1,h2⟩:=h;by_cases e:p.1=k
  ·have e':q.1=k:=by grind
   have b:valueAt (q::qs) k=some q.2:=by simp[valueAt,oF,e']
   rw[kR e,b];exact h2
  ·have e':¬q.1=k:=by grind
   have b:valueAt (q::qs) k=valueAt qs k:=by simp[valueAt,oF,e']
   rw[kT e,b];exact ih
def KV.any{kvs:List (κ×V)}{vs:List (κ×Value)}(r:KV kvs vs)(k:κ):(kvs.any λkv=>decide (kv.1=k))=vs.any λkv=>decide (kv.1=k):=by
 unfold KV at r;induction r with
 | nil=>rfl
 | cons h t ih=>rw[l5,l5,ih,h.1]
def KV.Wy{kvs:List (κ×V)}{vs:List (κ×Value)}(r:KV kvs vs)(k:κ){y:V}{u:Value}(ry:RelV y u) :
  KV (kvs.map λkv=>if kv.1=k then(kv.1,y)else kv) (vs.map λkv=>if kv.1=k then(kv.1,u)else kv):=by
 unfold KV at r ⊢;induction r with
 | nil=>exact .nil
 | @cons p q ps qs h t ih =>
  rw[aO,aO];refine .cons ?_ ih;obtain⟨h1,h2⟩:=h;by_cases e:p.1=k
  ·grind
  ·grind
def KV.put{kvs:List (κ×V)}{vs:List (κ×Value)}(r:KV kvs vs)(k:κ){y:V}{u:Value}(ry:RelV y u):KV (putK kvs k y) (stored vs k u):=by
 unfold putK stored;rw[r.any k];by_cases e:(vs.any λkv=>decide (kv.1=k))=true
 ·rw[if_pos e,if_pos e];exact r.Wy k ry
 ·rw[if_neg e,if_neg e];exact Paired.snoc r ⟨rfl,ry⟩
theorem KV.length{kvs:List (κ×V)}{vs:List (κ×Value)}(r:KV kvs vs):kvs.length=vs.length:=l4 r
end
def pB{P:Program}{w:World}{k:bG}{u:Value}(r:RelV (kV k) u):(cP P w).is k u=true:=by
 cases k with
 | inl i=>obtain⟨t,e⟩:=(show ∃t,u=Value.int i t from r);subst e;exact vL P w i t
 | inr x=>obtain⟨t,e⟩:=(show ∃t,u=Value.str x t from r);subst e;exact vM P w x t
theorem rO{P:Program}{w:World}:∀{ks:List bG} {us:List Value},Vals (ks.map kV) us->ItemsAre (cP P w) ks us
 | [],_,r=>by rw[dP]at r;cases r;exact .nil
 | k::ks,_,r=>by
  rw[aO]at r;cases r with
  | cons h t=>exact .cons (pB h) (rO t)
section
variable {P:Program} {w:World} {H:Hp} {h:Heap} {a:Addr}
def KZ{u:HO}(ok:kB P w H h)(e:Rd H a u):eS P w H h a u:=e.ok ok
def AB{kvs:List (bG×V)}(ok:kB P w H h)(e:Rd H a (.dK kvs)):kvs.length<=sizeLine/\(a==sysModules)=false/\∃vs,KV kvs vs/\h.DictOf (cP P w) a vs :=
 show eS P w H h a (.dK kvs)from KZ ok e
def Rt{kvs:List (bG×V)}(ok:kB P w H h)(e:H a=some (.dK kvs)):kvs.length<=sizeLine/\(a==sysModules)=false/\∃vs,KV kvs vs/\h.DictOf (cP P w) a vs:=AB ok (.inl e)
end
section
variable {X:Cx} {ah:List (Addr×Obj)} {σ:St} {H:Hp} {s:Shared} {a b:Addr} {k:bG×List bG} {v:V} {r:Value} {A:Around} {E:Value->Shared->Prop} {xs:List ((bG×List bG)×Addr×Value)}
def IG{k:List bG}(I:Inv X ah σ H s)(e:gY X.K H a (k.map kV)):(tupleKind (cP X.prog X.w)).is s.heap k a:=by
 obtain⟨aw,r,⟨o,h1,h2,n,h3⟩,_⟩:=I.tuple e;exact⟨o,aw.toArray,n,h1,h2,h3,by simpa using rO r⟩
def key_is(I:Inv X ah σ H s)(e:Dk X.K H a k):(iX (cP X.prog X.w)).is s.heap k a:=by
 obtain⟨b,e1,e2⟩:=e;obtain⟨aw,r,⟨o,h1,h2,n,h3⟩,_⟩:=I.tuple e1;cases r with
 | @cons _ u _ us r1 r2 =>
  cases r2 with
  | cons r2 r3 =>
   cases r3;cases r2;exact⟨o,u,b,n,h1,h2,h3,pB r1,IG I e2⟩
def rP(I:Inv X ah σ H s)(e:Rd H a (.dT xs))(hk:eJ X.K H xs):xs.length<=sizeLine/\(a==sysModules)=false/\s.heap.DictOfH (iX (cP X.prog X.w)) a xs:=by
 obtain⟨z,y,o,es,ep,h1,h2,h3,h4,h5⟩:=(show eS X.prog X.w H s.heap a (.dT xs)from KZ I.hok e)
 exact⟨z,y,o,es,ep,h1,h2,h3,h4,λx hx=>key_is I (hk x hx),h5⟩
def Ru{Q:Value->Shared->Prop}(hu:A.units+2<cLine)(I:Inv X ah σ H s)(e:Rd H a (.dT xs))(hk:eJ X.K H xs)(eb:Dk X.K H b k)(h:∀s',Inv X ah σ H s'->Q (.bool (atKey xs k).isSome) s') :
  wpAny (model X.prog X.w) A (compareOp .In (.ref b) (.ref a)) Q E s:=by
 obtain⟨_,hd,dd⟩:=rP I e hk;exact wpAny_in_heap (eP hu) (key_is I eb) hd dd (h _ (I.tok _))
def Rv{Q:Value->Shared->Prop}(hu:A.units+2<cLine)(I:Inv X ah σ H s)(e:Rd H a (.dT xs))(hk:eJ X.K H xs)(eb:Dk X.K H b k) (h:∀s',Inv X ah σ H s'->Q (.bool (!(atKey xs k).isSome)) s') :
  wpAny (model X.prog X.w) A (compareOp .NotIn (.ref b) (.ref a)) Q E s:=by
 obtain⟨_,hd,dd⟩:=rP I e hk;exact wpAny_notIn_heap (eP hu) (key_is I eb) hd dd (h _ (I.tok _))
def Rx{Q:Value->Shared->Prop}{p:Addr×Value}(hu:A.units+2<cLine)(I:Inv X ah σ H s)(e:Rd H a (.dT xs))(hk:eJ X.K H xs)(eb:Dk X.K H b k)(hp:atKey xs k=some p)(h:∀s',Inv X ah σ H s'->Q p.2 s') :
  wpAny (model X.prog X.w) A (getItem (.ref a) (.ref b)) Q E s:=by
 obtain⟨_,hd,dd⟩:=rP I e hk;exact wpAny_getItem_heap (eP hu) (key_is I eb) dd hp (h _ (I.tok _))
def pC{κ:Type} [DecidableEq κ] (xs:List (κ×Addr×Value)) (k:κ) (a:Addr) (v:Value):(storedH xs k a v).length<=xs.length+1:=by
 unfold storedH;split
 ·grind
 ·grind
def M7{Q:Unit->Shared->Prop}(hu:A.units+2<cLine)(I:Inv X ah σ H s)(e:H a=some (.dT xs))(hk:eJ X.K H xs)(eb:Dk X.K H b k)(hl:xs.length<sizeLine)
  (h:∀s',Inv X ah σ (cy H a (.dT (storedH xs k b r))) s'->Q () s'):wpAny (model X.prog X.w) A (setItem (.ref a) (.ref b) r) Q E s:=by
 obtain⟨_,hd,dd⟩:=rP I (.inl e) hk;refine wpAny_setItem_heap (hsz:=oO hl) (eP hu) (key_is I eb) dd λh' Qa hs=>h _ ?_
 obtain⟨q,es,ep,hq,h2,h3,h4,_,h5⟩:=Qa;exact I.write (x:=a) (e:=a) (by rw[e];exact True.intro) (.inl rfl) (λc q' hc z=>(hs.2 c hc).trans z) ⟨q,hq⟩ ⟨(by have:=pC xs k b r;lia),hd,q,es,ep,hq,h2,h3,h4,h5⟩
def kU(I:Inv X ah σ H s):sysModules<s.heap.objs.size:=iQ (by decide) (show mainGlobals<s.heap.objs.size from(I.mod.glob.keeps I.bk).lt)
def K1(o:HO):TE:=λ_ H Q=>∀p,H p=none->Q (.ref p) (cy H p o)
def IH{pos:Pos}:PE X (.Dict [] [] pos) (K1 (.dT [])):=λah s σ H Q I h =>
 wpAny_Dict_empty ⟨.ref s.heap.objs.size,_,I.laid (a:=s.heap.objs.size) (o:=.dT []) (t':=s.toks) (λ_ _ q=>aE _ q) (az _)
  ⟨gV _,eA.mpr (bR (aZ (kU I))),_,#[],0,bu _ rfl,⟨rfl,rfl,rfl⟩,rfl,rfl,oI⟩,rfl,h _ (I.hok.fresh (az _))⟩
def Cg{κ:Type} [DecidableEq κ] (xs:List (κ×Addr×Value)) (k:κ):(atKey xs k).isSome=(xs.map (·.1)).any λj=>decide (j=k):=by
 unfold atKey;rw[Option.isSome_map,List.any_map,List.isSome_find?];rfl
end
def Ew(mg:Str->Option Value)(base:Heap):Prop:=∃bm o,mg "__builtins__"=some (.ref bm)/\bm≠builtinsNs/\bm≠mainGlobals/\base.get? bm=some o/\o.cls=.type "module"/\o.dict=some builtinsNs/\o.data=.plain
end L2
namespace L2.U
open PySem PySem.Spec PyProof.Rows
def nw{α:Sort u}(a:α):∃x,x=a:=⟨_,rfl⟩
noncomputable abbrev PV.lst (ps:List PV):PV:=.nd .lst ps
structure Gr (F F':Fz):Prop where
 s:bT F.F F'.F
 m:∀(n:Nat) (a:Addr),F.μ[n]?=some a->F'.μ[n]?=some a
def Gr.refl(F:Fz):Gr F F:=⟨bT.refl _,λ_ _ h=>h⟩
def Gr.trans(a:Gr F F1)(b:Gr F1 F2):Gr F F2:=⟨a.s.trans b.s,λn c h=>b.m n c (a.m n c h)⟩
def cC{K:W.Frag}(e:bT H H')(h:gY K H a xs):gY K H' a xs:=by
 rcases h with(h | ⟨o,h⟩) | h
 ·exact .inl (.inl (e _ _ h))
 ·exact .inl (.inr ⟨o,e _ _ h⟩)
 ·exact .inr h
def dJ{K:W.Frag}(e:bT H H')(h:Dk K H a k):Dk K H' a k:=let ⟨b,h1,h2⟩:=h;⟨b,cC e h1,cC e h2⟩
def II(e:bT H H')(h:Rd H a u):Rd H' a u:=h.imp (e _ _) (by rintro⟨o,q⟩;exact⟨o,e _ _ q⟩)
def iZ{K:W.Frag}(e:bT H H')(h:gZ K H a xs):gZ K H' a xs:=h.imp (II e) id
def _root_.L2.gZ.of{K:W.Frag}(h:H a=some (.lst xs)):gZ K H a xs:=.inl (.inl h)
section
variable {K:W.Frag} {F F':Fz}
def j4.to(h:j4 K G H a x k vs)(g:bT G G')(e:∀o,H a=some o->H' a=some o)(hy:y=true->x=true):j4 K G' H' a y k vs:=by
 have keys:∀{xs:List ((bG×List bG)×Addr×Value)},eJ K G xs->eJ K G' xs:=λhk z hz=>dJ g (hk z hz)
 match k,h with
 | .aq,⟨h1,h2⟩ =>
  refine⟨?_,?_⟩
  ·grind
  ·rcases h2 with(h2 | ⟨o,h2⟩) | h2
   ·exact .inl (.inl (e _ h2))
   ·exact .inl (.inr ⟨o,e _ h2⟩)
   ·exact .inr h2
 | .lst,h =>
  cases y with
  | true=>rw[hy rfl]at h;exact e _ h
  | false =>
   cases x with
   | true=>exact gZ.of (e _ h)
   | false =>
    rcases(h)with(h | ⟨o,h⟩) | h
    ·exact .inl (.inl (e _ h))
    ·exact .inl (.inr ⟨o,e _ h⟩)
    ·exact .inr h
 | .ins C ns,⟨Ca,dx,fs,h1,h2,h3,h4,h5⟩=>exact⟨Ca,dx,fs,h1,h2,h3,e _ h4,h5⟩
 | .dt false ks,⟨kvs,h1,h2⟩=>exact⟨kvs,e _ h1,h2⟩
 | .dt true ks,⟨xs,h1,h2,h3⟩=>exact⟨xs,e _ h1,keys h2,h3⟩
mutual
theorem aU.mono(e:Gr F F'):∀{p:PV} {v:V},aU K F p v->aU K F' p v
 | .aL,_,h=>by simpa only[aU]using h
 | .bl _,_,h=>by simpa only[aU]using h
 | .int _,_,h=>by simpa only[aU]using h
 | .str _,_,h=>by simpa only[aU]using h
 | .fn _,_,h=>by simpa only[aU]using h
 | .ref n,_,h=>by
  simp only[aU]at h ⊢;obtain⟨a,h1,h2⟩:=h;exact⟨a,e.m _ _ h1,h2⟩
 | .nd k ps,_,h=>by
  simp only[aU]at h ⊢;obtain⟨a,vs,h1,h2,h3⟩:=h;exact⟨a,vs,h1,h2.to e.s (λo q=>e.s _ _ q) id,ax.mono e h3⟩
theorem ax.mono(e:Gr F F'):∀{ps:List PV} {vs:List V},ax K F ps vs->ax K F' ps vs
 | [],_,h=>by simpa only[ax]using h
 | _::_,_,h=>by
  simp only[ax]at h ⊢;obtain⟨v,r,h1,h2,h3⟩:=h;exact⟨v,r,h1,h2.mono e,ax.mono e h3⟩
end
def ax.bM(h:ax K F (p::ps) vs):∃v r,vs=v::r/\aU K F p v/\ax K F ps r:=by
 simpa only[ax]using h
def ax.b7(h:ax K F [] vs):vs=[]:=by simpa only[ax]using h
theorem pE:∀{ps:List PV} {vs:List V},ax K F ps vs↔Paired (aU K F) ps vs
 | [],vs=>⟨λh=>by rw[h.b7];exact .nil,λh=>by cases h;exact .nil⟩
 | p::ps,vs=>⟨λh=>by obtain⟨v,r,rfl,h1,h2⟩:=h.bM;exact .cons h1 (pE.mp h2),λh=>by cases h with | cons h1 h2=>exact .cons h1 (pE.mpr h2)⟩
def ax.length(h:ax K F ps vs):ps.length=vs.length:=l4 (pE.mp h)
theorem ax.append:∀{ps qs:List PV} {vs ws:List V},ax K F ps vs->ax K F qs ws->ax K F (ps++qs) (vs++ws)
 | [],_,_,_,h,t=>by rw[h.b7];exact t
 | _::_,_,_,_,h,t=>by
  obtain⟨v,r,rfl,h1,h2⟩:=h.bM;exact .cons h1 (h2.append t)
theorem ax.get:∀{ps:List PV} {vs:List V} {i:Nat} {p:PV},ax K F ps vs->ps[i]?=some p->∃v,vs[i]?=some v/\aU K F p v
 | [],_,_,_,_,e=>by cases e
 | _::_,_,0,_,h,e=>by
  obtain⟨v,r,rfl,h1,_⟩:=h.bM;cases e;exact⟨v,rfl,h1⟩
 | _::_,_,_+1,_,h,e=>by
  obtain⟨v,r,rfl,_,h2⟩:=h.bM;exact h2.get e
theorem ax.take:∀{ps:List PV} {vs:List V} (n:Nat),ax K F ps vs->ax K F (ps.take n) (vs.take n)
 | _,_,0,_=>by simp only[List.take_zero];exact .nil
 | [],_,_+1,h=>by rw[h.b7];simp only[List.take_nil];exact .nil
 | _::_,_,n+1,h=>by
  obtain⟨v,r,rfl,h1,h2⟩:=h.bM;exact .cons h1 (h2.take n)
theorem ax.drop:∀{ps:List PV} {vs:List V} (n:Nat),ax K F ps vs->ax K F (ps.drop n) (vs.drop n)
 | _,_,0,h=>h
 | [],_,_+1,h=>by rw[h.b7];simp only[List.drop_nil];exact .nil
 | _::_,_,n+1,h=>by
  obtain⟨v,r,rfl,_,h2⟩:=h.bM;exact h2.drop n
theorem ax.set(r:aU K F p v):∀{ps:List PV} {vs:List V} (i:Nat),ax K F ps vs->ax K F (ps.set i p) (vs.set i v)
 | [],_,_,h=>by rw[h.b7];exact .nil
 | _::_,_,0,h=>by
  obtain⟨v,r',rfl,_,h2⟩:=h.bM;exact .cons r h2
 | _::_,_,i+1,h=>by
  obtain⟨v,r',rfl,h1,h2⟩:=h.bM;exact .cons h1 (h2.set r i)
def cR:aU K F (.ref n) v↔∃a,F.μ[n]?=some a/\v=.ref a:=by simp only[aU]
def pF:aU K F (.fn x) v↔∃a,v=.ref a/\W.nsIn K mainGlobals x=some (some (.ref a)):=by simp only[aU]
def cZ:aU K F (.lst ps) v↔∃a vs,v=.ref a/\gZ K F.F a vs/\ax K F ps vs:=g7
end
structure aj where
 k:Kd
 ps:List PV
structure bP where
 ρ:List (Option PV)
 h:List aj
noncomputable def live(c:aj):Bool:=match c.k with | .aq=>false | _=>true
structure kC (K:W.Frag) (af:Hp) (ag F:Fz) (h:List aj) (H:Hp):Prop where
 sub:bT F.F H
 keep:bT af H
 base:Gr ag F
 fresh:∀a o,F.F a=some o->ag.F a=some o\/af a=none
 new:∀(n:Nat) (a:Addr),F.μ[n]?=some a->af a=none/\∃o,H a=some o
 hl:h.length=F.μ.length
 nd:F.μ.Nodup
 cell:∀(n:Nat) (c:aj) (a:Addr),h[n]?=some c->F.μ[n]?=some a->live c=true->F.F a=none/\∃vs,j4 K F.F H a true c.k vs/\ax K F c.ps vs
structure Lc (K:W.Frag) (F:Fz) (ρ:List (Option PV)) (σ:St):Prop where
 av:∀(i:Nat) (p:PV),ρ[i]?=some (some p)->∃v,σ[i]?=some (some v)/\aU K F p v
 len:ρ.length=σ.length
structure Rep (K:W.Frag) (af:Hp) (ag F:Fz) (st:bP) (σ:St) (H:Hp):Prop where
 c:kC K af ag F st.h H
 l:Lc K F st.ρ σ
def ee(h:H p=none):bT H (cy H p o):=λb u q=>by rw[aH (cQ q h)];exact q
section
variable {K:W.Frag} {af H H':Hp} {ag F F':Fz} {h:List aj} {st:bP} {σ:St}
def Lc.mono(L:Lc K F ρ σ)(e:Gr F F'):Lc K F' ρ σ:=⟨λi p z=>let ⟨v,h1,h2⟩:=L.av i p z;⟨v,h1,h2.mono e⟩,L.len⟩
def kC.after(R:kC K af ag F h H)(e:bT H H')(f:bT F.F F'.F)(m:F'.μ=F.μ)(s:bT F'.F H')(n:∀a o,F'.F a=some o->F.F a=some o\/H a=none):kC K af ag F' h H' where
 sub:=s
 keep:=R.keep.trans e
 base:=R.base.trans ⟨f,λ_ _ q=>by rw[m];exact q⟩
 fresh:=λa o q=>by
  rcases n a o q with z | z
  ·exact R.fresh a o z
  ·exact .inr (R.keep.free z)
 new:=λn a q=>by rw[m]at q;obtain⟨h1,o,h2⟩:=R.new n a q;exact⟨h1,o,e _ _ h2⟩
 hl:=by rw[m];exact R.hl
 nd:=by rw[m];exact R.nd
 cell:=λi c a hc ha hk=>by
  rw[m]at ha;obtain⟨h1,vs,h2,h3⟩:=R.cell i c a hc ha hk;refine⟨?_,vs,h2.to f (λo q=>e _ _ q) id,h3.mono ⟨f,λ_ _ q=>by rw[m];exact q⟩⟩
  obtain⟨_,o,ho⟩:=R.new i a ha;cases q:F'.F a with
  | none=>rfl
  | some u =>
   rcases n a u q with z | z
   ·rw[h1]at z;cases z
   ·rw[ho]at z;cases z
def Rep.after(R:Rep K af ag F st σ H)(e:bT H H')(f:bT F.F F'.F)(m:F'.μ=F.μ)(s:bT F'.F H')(n:∀a o,F'.F a=some o->F.F a=some o\/H a=none):Rep K af ag F' st σ H' :=
 ⟨R.c.after e f m s n,R.l.mono ⟨f,λ_ _ q=>by grind⟩⟩
def Rep.sub(R:Rep K af ag F st σ H):bT F.F H:=R.c.sub
def Rep.laid(R:Rep K af ag F st σ H)(o:HO)(hp:H p=none):Rep K af ag ⟨cy F.F p o,F.μ⟩ st σ (cy H p o)/\Gr F ⟨cy F.F p o,F.μ⟩:=by
 have fp:=R.sub.free hp;refine⟨R.after (ee hp) (ee fp) rfl (λb u q=>?_) (λb u q=>?_),ee fp,λ_ _ q=>q⟩
 ·by_cases hb:b=p
  ·subst hb;rw[show(Fz.mk (cy F.F b o) F.μ).F b=cy F.F b o b from rfl,aA]at q;rw[aA];exact q
  ·rw[show(Fz.mk (cy F.F p o) F.μ).F b=cy F.F p o b from rfl,aH hb]at q;rw[aH hb];exact R.sub _ _ q
 ·by_cases hb:b=p
  ·grind
  ·rw[show(Fz.mk (cy F.F p o) F.μ).F b=cy F.F p o b from rfl,aH hb]at q;exact .inl q
def kC.alloc(R:kC K af ag F h H)(hp:H p=none)(hn:j4 K F.F (cy H p o) p true c.k vs)(hb:ax K F c.ps vs) :
  kC K af ag ⟨F.F,F.μ++[p]⟩ (h++[c]) (cy H p o)/\Gr F ⟨F.F,F.μ++[p]⟩/\(F.μ++[p])[h.length]?=some p:=by
 have g:Gr F ⟨F.F,F.μ++[p]⟩:=⟨bT.refl _,λn a q=>by
  grind⟩
 have U8:∀n a,(F.μ++[p])[n]?=some a->F.μ[n]?=some a\/n=F.μ.length/\a=p:=λn a q=>by
  grind
 have no:∀n a,F.μ[n]?=some a->a≠p:=λn a q z=>by
  subst z;obtain⟨_,o,ho⟩:=R.new n a q;rw[hp]at ho;cases ho
 refine⟨⟨λb u q=>by rw[aH (cQ (R.sub _ _ q) hp)];exact R.sub _ _ q,R.keep.trans (ee hp),R.base.trans g,R.fresh,λn a q=>?_,by simp[R.hl],?_,λn d a hd ha hk=>?_⟩,g,by rw[R.hl];simp⟩
 ·rcases U8 n a q with z | ⟨_,rfl⟩
  ·obtain⟨h1,u,h2⟩:=R.new n a z;exact⟨h1,u,ee hp _ _ h2⟩
  ·exact⟨R.keep.free hp,o,aA⟩
 ·rw[yl];refine⟨R.nd,by simp,λa ha b hb z=>?_⟩
  obtain⟨n,hn⟩:=tm.mp ha;rw[cj]at hb;exact no n a hn (z.trans hb)
 ·rcases U8 n a ha with z | ⟨rfl,rfl⟩
  ·rw[fj (by rw[R.hl];exact(di.mp z).1)]at hd
   obtain⟨h1,ws,h2,h3⟩:=R.cell n d a hd z hk;exact⟨h1,ws,h2.to (bT.refl _) (λu q=>ee hp _ _ q) id,h3.mono g⟩
  ·rw[<-R.hl,gQ (az _),Nat.sub_self]at hd;cases hd;exact⟨R.sub.free hp,vs,hn,hb.mono g⟩
def kC.write(R:kC K af ag F h H)(hc:h[n]?=some c)(hl:live c=true)(ha:F.μ[n]?=some a)(hn:j4 K F.F (cy H a o) a true d.k vs)(hb:ax K F d.ps vs) :
  kC K af ag F (h.set n d) (cy H a o):=by
 obtain⟨hF,_⟩:=R.cell n c a hc ha hl;refine⟨λb u q=>by rw[aH (λz=>by grind)];exact R.sub _ _ q,λb u q=>?_,R.base,R.fresh,λm b q=>?_,by rw[jW];exact R.hl,R.nd,λm e b he jt hk=>?_⟩
 ·rw[aH (λz=>by subst z;rw[(R.new n b ha).1]at q;cases q)];exact R.keep _ _ q
 ·obtain⟨h1,u,h2⟩:=R.new m b q;refine⟨h1,?_⟩;by_cases hb:b=a
  ·subst hb;exact⟨o,aA⟩
  ·exact⟨u,by rw[aH hb];exact h2⟩
 ·by_cases hm:n=m
  ·grind
  ·rw[bV hm]at he;obtain⟨h1,ws,h2,h3⟩:=R.cell m e b he jt hk;have ne:b≠a:=λz=>by
    subst z;obtain⟨l1,e1⟩:=di.mp jt;obtain⟨l2,e2⟩:=di.mp ha;exact hm ((List.getElem_inj R.nd).mp (e2.trans e1.symm))
   exact⟨h1,ws,h2.to (bT.refl _) (λu q=>by rw[aH ne];exact q) id,h3⟩
end
def _root_.L2.PE.imp(h:PE X e t)(hi:∀σ H Q,t' σ H Q->t σ H Q):PE X e t':=λah s σ H Q I hw=>h ah s σ H Q I (hi _ _ _ hw)
def _root_.L2.PT.imp(h:PT X e t)(hi:∀σ H Q,t' σ H Q->t σ H Q):PT X e t':=λah s σ H Q I hw=>h ah s σ H Q I (hi _ _ _ hw)
def _root_.L2.PW.imp(h:PW X e t)(hi:∀σ H Q,t' σ H Q->t σ H Q):PW X e t':=λw ah s σ H Q I hw=>h w ah s σ H Q I (hi _ _ _ hw)
def _root_.L2.PA.imp(h:PA X e t)(hi:∀σ H Q,t' σ H Q->t σ H Q):PA X e t':=λpos ah s σ H Q I hw=>h pos ah s σ H Q I (hi _ _ _ hw)
def _root_.L2.PS.imp{st:Stmt}(h:PS X st t)(hi:∀D σ H,t' D σ H->t D σ H):PS X st t':=λah s σ H D I hw=>h ah s σ H D I (hi _ _ _ hw)
def _root_.L2.PSs.imp{st:List Stmt}(h:PSs X st t)(hi:∀D σ H,t' D σ H->t D σ H):PSs X st t':=λah s σ H D I hw=>h ah s σ H D I (hi _ _ _ hw)
def _root_.L2.PG.imp(h:PG X e t)(hi:∀v σ H Q,t' v σ H Q->t v σ H Q):PG X e t':=λah s σ H v u Q I r hw=>h ah s σ H v u Q I r (hi _ _ _ _ hw)
def _root_.L2.PGs.imp(h:PGs X e t)(hi:∀v σ H Q,t' v σ H Q->t v σ H Q):PGs X e t':=λah s σ H v u Q I r hw=>h ah s σ H v u Q I r (hi _ _ _ _ hw)
def _root_.L2.PI.imp(h:PI X tg e t)(hi:∀σ H Q,t' σ H Q->t σ H Q):PI X tg e t':=λah s σ H R I hw=>h ah s σ H R I (hi _ _ _ hw)
inductive Rs (α:Type) where
 | ok (a:α) | ex (m:Bool) (C:Str)
abbrev Gx(α:Type):=bP->Option (Rs α×bP)
noncomputable def M8{α β:Type}(k:α->Gx β):Rs α×bP->Option (Rs β×bP)
 | (.ok a,st)=>k a st
 | (.ex m C,st)=>some (.ex m C,st)
def bnd{α β:Type}(f:Gx α)(k:α->Gx β):Gx β:=λst=>(f st).bind (M8 k)
noncomputable def cf{α:Type}(a:α):Gx α:=λst=>some (.ok a,st)
noncomputable def hp{α:Type}(g:List aj->Option α):Gx α:=λst=>(g st.h).map λa=>(.ok a,st)
noncomputable def iB{α:Type}(o:Option α):Gx α:=λst=>o.map λa=>(.ok a,st)
def Dm(H H':Hp):Prop:=∀b o,H b=some o->∃o',H' b=some o'
def gE(P:Program)(w:World):BP:=λaB H s E e s'=>∃a cls a0 B H',e=.ref a/\s'.os=s.os/\AllBare s'.gens/\Un (kH aB) [] H H' s.heap s'.heap/\kB P w H' s'.heap/\Dm H H'/\E cls none H' /\
 Heap.FlyingW B aB a cls a0 s'.heap/\(∀b o,H' b=some o->∃ob,B.get? b=some ob)/\∀b ob,s.heap.get? b=some ob->H b=none->b∉kH aB->B.get? b=some ob
def rQ:uu (gE P w) X E0:=(by rintro _ _ _ _ _ _ _ ⟨_,_,_,_,_,_,_,_,_,_,_,h,_⟩;exact h.elim)
def Ex(X:Cx)(af:Hp)(ag F:Fz)(C:Str)(st:bP):Bool->Prop
 | true=>∀F' bz H' ah s h1 a cls vs,Rep X.K af ag F' st bz H'->Gr F F'->Inv X ah bz H' s->ClsAt X.K C cls->Heap.MadeExcOf s.heap h1 a cls vs->X.xe (.ref a) {s with heap:=h1}
 | false=>∀bz ah H1 s1 e s',Inv X ah bz H1 s1->gE X.prog X.w X.stack H1 s1 (λcls _ H2=>ClsAt X.K C cls/\∃F',Rep X.K af ag F' st bz H2/\Gr F F') e s'->X.xe e s'
section
variable {X:Cx} {af H:Hp} {ag F F1:Fz} {st st1:bP} {σ:St} {α β γ δ:Type}
def Ex.mono(h:Ex X af ag F C st m)(s:Gr F F1):Ex X af ag F1 C st m:=by
 cases m with
 | true=>exact λF' bz H' ah s1 h1 a cls vs R z=>h F' bz H' ah s1 h1 a cls vs R (s.trans z)
 | false =>
  rintro bz ah H1 s1 e s' I ⟨a,cls,a0,B,H',h1,h2,h3,h4,h5,h6,⟨c,F',R,z⟩,h8⟩
  exact h bz ah H1 s1 e s' I ⟨a,cls,a0,B,H',h1,h2,h3,h4,h5,h6,⟨c,F',R,s.trans z⟩,h8⟩
def Ey(X:Cx)(af:Hp)(ag F:Fz)(P:α->bP->Prop):Rs α×bP->Prop
 | (.ok a,st)=>P a st
 | (.ex m C,st)=>Ex X af ag F C st m
def At(X:Cx)(af:Hp)(ag F:Fz)(st:bP)(f:Gx α)(P:α->bP->Prop):Prop:=∃r,f st=some r/\Ey X af ag F P r
def Ey.imp(h:Ey X af ag F P r)(g:Gr F F1)(i:∀a st',P a st'->P' a st'):Ey X af ag F1 P' r:=by
 match r,h with
 | (.ok a,st),h=>exact i a st h
 | (.ex m C,st),h=>exact Ex.mono h g
def At.imp(h:At X af ag F st f P)(g:Gr F F1)(i:∀a st',P a st'->P' a st'):At X af ag F1 st f P' :=
 let ⟨r,h1,h2⟩:=h;⟨r,h1,h2.imp g i⟩
def aK(h:o.bind f=some b):∃a,o=some a/\f a=some b:=by
 cases o with
 | none=>cases h
 | some a=>exact⟨a,rfl,h⟩
def aM(h:o.map f=some b):∃a,o=some a/\f a=b:=by
 simp_all
def At.bnd(h:At X af ag F st (bnd f k) P):At X af ag F st f (λa st1=>At X af ag F st1 (k a) P):=by
 obtain⟨r,h1,h2⟩:=h;obtain⟨q,e1,e2⟩:=aK h1;refine⟨q,e1,?_⟩
 match q,e2 with
 | (.ok a,s1),e2=>exact⟨r,e2,h2⟩
 | (.ex m C,s1),e2=>cases e2;exact h2
def At.cf(h:At X af ag F st (cf a) P):P a st:=by
 obtain⟨r,h1,h2⟩:=h;cases h1;exact h2
def At.hp(h:At X af ag F st (hp g) P):∃a,g st.h=some a/\P a st:=by
 obtain⟨r,h1,h2⟩:=h;obtain⟨a,e1,e2⟩:=aM h1;subst e2;exact⟨a,e1,h2⟩
def At.iB(h:At X af ag F st (iB g) P):∃a,g=some a/\P a st:=by
 obtain⟨r,h1,h2⟩:=h;obtain⟨a,e1,e2⟩:=aM h1;subst e2;exact⟨a,e1,h2⟩
def Tx(X:Cx)(af:Hp)(ag:Fz)(rl:Fz->α->β->Prop)(F:Fz)(st:bP)(f:Gx α)(σ:St)(Q:β->Hp->Prop):Prop :=
 At X af ag F st f λa st'=>∀b H' F',Rep X.K af ag F' st' σ H'->Gr F F'->rl F' a b->Q b H'
def tX(X:Cx)(af:Hp)(ag:Fz)(rl:Fz->α->β->Prop)(f:Gx α):St->Hp->(β->Hp->Prop)->Prop:=λσ H Q=>∃F st,Rep X.K af ag F st σ H/\Tx X af ag rl F st f σ Q
def Tx.mono(h:Tx X af ag rl F st f σ Q)(g:Gr F F1)(i:∀b H',Q b H'->Q' b H'):Tx X af ag rl F1 st f σ Q' :=
 At.imp h g λa st' q b H' F' R s r=>i _ _ (q b H' F' R (g.trans s) r)
def Tx.bnd(h:Tx X af ag rl' F st (bnd f k) σ Q)
  (i:∀a b F1 st1 H1,Rep X.K af ag F1 st1 σ H1->Gr F F1->rl F1 a b->Tx X af ag rl' F1 st1 (k a) σ Q->Q' b H1):Tx X af ag rl F st f σ Q' :=
 At.imp (At.bnd h) (Gr.refl F) λa st1 q b H1 F1 R1 g1 r1=>i a b F1 st1 H1 R1 g1 r1 (Tx.mono (q) g1 λ_ _ z=>z)
def Tx.cf(h:Tx X af ag rl F st (cf a) σ Q):∀b H' F',Rep X.K af ag F' st σ H'->Gr F F'->rl F' a b->Q b H':=At.cf h
def Tx.hp(h:Tx X af ag rl F st (hp g) σ Q):∃a,g st.h=some a/\∀b H' F',Rep X.K af ag F' st σ H'->Gr F F'->rl F' a b->Q b H':=At.hp h
def Tx.iB(h:Tx X af ag rl F st (iB g) σ Q):∃a,g=some a/\∀b H' F',Rep X.K af ag F' st σ H'->Gr F F'->rl F' a b->Q b H':=At.iB h
end
abbrev rB:Fz->Bool->Bool->Prop:=λ_ a b=>a=b
abbrev tE(X:Cx)(af:Hp)(ag:Fz)(f:Gx PV):TE:=tX X af ag (aU X.K) f
abbrev tT(X:Cx)(af:Hp)(ag:Fz)(f:Gx Bool):TT:=tX X af ag rB f
abbrev tA(X:Cx)(af:Hp)(ag:Fz)(f:Gx (List PV)):TA:=tX X af ag (ax X.K) f
section
variable {X:Cx} {af:Hp} {ag:Fz} {a b c e:Expr} {es rest:List Expr} {fa fb fc:Gx PV} {ga gb:Gx Bool} {ts:Gx (List PV)} {pos:Pos}
noncomputable def rd(i:Nat):Gx PV:=λst=>(st.ρ[i]?).join.map λp=>(.ok p,st)
def Ry(i:Nat)(h:PE X (.Name x pos) (Ml i)):PE X (.Name x pos) (tE X af ag (rd i)):=h.imp <| by
 rintro σ H Q ⟨F,st,R,r,h1,h2⟩
 obtain⟨p,e1,e2⟩:=aM h1;subst e2;cases z:st.ρ[i]? with
 | none=>rw[z]at e1;cases e1
 | some o =>
  rw[z]at e1;cases o with
  | none=>cases e1
  | some p' =>
   cases e1;obtain⟨v,h3,h4⟩:=R.l.av i p z;exact⟨v,h3,h2 v H F R (Gr.refl F) h4⟩
def v7(h:PE X e (tC v))(hb:∀F,aU X.K F p v):PE X e (tE X af ag (cf p)):=h.imp (by rintro σ H Q ⟨F,st,R,q⟩;exact q.cf v H F R (Gr.refl F) (hb F))
def Rz{j pos}:PE X (.Constant (.int i) j pos) (tE X af ag (cf (.int i))):=v7 Mm λ_=>aD.mpr rfl
def Wz{j pos}:PE X (.Constant (.bool i) j pos) (tE X af ag (cf (.bl i))):=v7 QL λ_=>aX.mpr rfl
def RA{j pos}:PE X (.Constant .none j pos) (tE X af ag (cf .aL)):=v7 Mn λ_=>cG.mpr rfl
def RB{j pos}:PE X (.Constant (.str i) j pos) (tE X af ag (cf (.str i))):=v7 Mo λ_=>bE.mpr rfl
abbrev G2:=List aj->PV->PV->Option PV
def rT(K:W.Frag)(g:G2):R2:=λx y H Q=>∃af ag F st τ pa pb p,g st.h pa pb=some p/\Rep K af ag F st τ H/\aU K F pa x/\aU K F pb y/\∀v H' F',Rep K af ag F' st τ H'->Gr F F'->aU K F' p v->Q v H'
abbrev nP(X:Cx)(f:Value->Value->Sem Value)(g:G2):Prop:=OpR X f (rT X.K g)
def op2(g:G2)(fa fb:Gx PV):Gx PV:=bnd fa λx=>bnd fb λy=>hp λh=>g h x y
def nQ(h:tE X af ag (op2 g fa fb) σ H Q):QV (rT X.K g) (tE X af ag fa) (tE X af ag fb) σ H Q:=by
 obtain⟨F,st,R,h⟩:=h;refine⟨F,st,R,h.bnd λp v F1 st1 H1 R1 g1 b1 h1=>⟨F1,st1,R1,h1.bnd λq w F2 dh H2 R2 g2 b2 h2=>?_⟩⟩
 obtain⟨o,e,z⟩:=h2.hp;exact⟨af,ag,F2,dh,σ,p,q,o,e,R2,b1.mono g2,b2,z⟩
def WA(ho:nP X (binaryOp op) g)(ha:PE X a (tE X af ag fa))(hb:PE X b (tE X af ag fb)):PE X (.BinOp a op b pos) (tE X af ag (op2 g fa fb)):=(KR ho ha hb).imp λ_ _ _ h=>nQ h
def RC(ho:nP X (compareOp op) g)(ha:PE X a (tE X af ag fa))(hb:PE X b (tE X af ag fb))(hm:behindInMarks op b=false):PE X (.Compare a [op] [b] pos) (tE X af ag (op2 g fa fb)):=(Ik ho ha hb hm).imp λ_ _ _ h=>nQ h
noncomputable def Ez:PV->Option Bool | .bl b=>some b | _=>none
def pG{b:Bool}(h:Ez p=some b):p=.bl b:=by
 cases p<;>first | (cases h;rfl) | cases h
def toB(f:Gx PV):Gx Bool:=bnd f λp=>iB (Ez p)
def toB_imp(h:tT X af ag (toB fa) σ H Q):tE X af ag fa σ H λv H1=>∃k,v=.bl k/\Q k H1:=by
 obtain⟨F,st,R,h⟩:=h;refine⟨F,st,R,h.bnd λp v F1 st1 H1 R1 g1 b1 h1=>?_⟩
 obtain⟨k,e,z⟩:=h1.iB;rw[pG e]at b1;exact⟨k,aX.mp b1,z k H1 F1 R1 (Gr.refl _) rfl⟩
def RD(ho:nP X (compareOp op) g)(ha:PE X a (tE X af ag fa))(hb:PE X b (tE X af ag fb))(hm:behindInMarks op b=false):PT X (.Compare a [op] [b] pos) (tT X af ag (toB (op2 g fa fb))) :=
 (Il ho ha hb hm).imp λ_ _ _ h=>nQ (toB_imp h)
def chain(g g':G2)(fa fb fc:Gx PV):Gx PV:=bnd fa λx=>bnd fb λy=>bnd (hp λh=>(g h x y).bind Ez) λk=>if k=true then bnd fc λz=>hp λh=>g' h y z else cf (.bl false)
def rR(h:tE X af ag (chain g g' fa fb fc) σ H Q):yR (rT X.K g) (rT X.K g') (tE X af ag fa) (tE X af ag fb) (tE X af ag fc) σ H Q:=by
 obtain⟨F,st,R,h⟩:=h;refine⟨F,st,R,h.bnd λp v F1 st1 H1 R1 g1 b1 h1=>⟨F1,st1,R1,h1.bnd λq w F2 dh H2 R2 g2 b2 h2=>?_⟩⟩
 obtain⟨k,e,z⟩:=At.hp (At.bnd h2);obtain⟨o,e1,e2⟩:=aK e;rw[pG e2]at e1;refine⟨af,ag,F2,dh,σ,p,q,_,e1,R2,b1.mono g2,b2,λu H3 F3 R3 g3 b3=>⟨k,aX.mp b3,?_⟩⟩
 cases k with
 | true =>
  have z:Tx X af ag (aU X.K) F2 dh (bnd fc λz=>hp λh=>g' h q z) σ Q:=z
  refine⟨F3,dh,R3,(z.mono g3 λ_ _ y=>y).bnd λt o F4 Dp H4 R4 g4 b4 h4=>?_⟩
  obtain⟨o,e,z⟩:=h4.hp;exact⟨af,ag,F4,Dp,σ,q,t,o,e,R4,b2.mono (g3.trans g4),b4,z⟩
 | false=>exact Tx.cf z _ H3 F3 R3 g3 (aX.mpr rfl)
def IJ(ho:nP X (compareOp op) g)(lM:nP X (compareOp vC) g')(ha:PE X a (tE X af ag fa))(hb:PE X b (tE X af ag fb))(hc:PE X c (tE X af ag fc))
  (hm:lastMarks [op,vC] [b,c]=false):PE X (.Compare a [op,vC] [b,c] pos) (tE X af ag (chain g g' fa fb fc)):=(Ef ho lM ha hb hc hm).imp λ_ _ _ h=>rR h
end
def cE(h:List aj):PV->Option (Kd×List PV)
 | .nd k ps=>some (k,ps)
 | .ref n=>(h[n]?).bind λc=>if live c=true then some (c.k,c.ps)else none
 | _=>none
def bL{α:Type}{c:Prop} [Decidable c] {x:Option α} {y:α} (h:(if c then x else none)=some y):c/\x=some y:=by
 grind
def aC{α:Type}{c:Prop} [Decidable c] {x y:α} (h:(if c then some x else none)=some y):c/\x=y:=by
 grind
section
variable {K:W.Frag} {af H:Hp} {ag F:Fz} {st:bP} {σ:St}
def Rep.at(R:Rep K af ag F st σ H){p:PV}{k:Kd}{ps:List PV}{v:V}(e:cE st.h p=some (k,ps))(b:aU K F p v):∃a vs,v=.ref a/\j4 K F.F H a false k vs/\ax K F ps vs:=by
 cases p with
 | nd k' uz =>
  cases e;obtain⟨a,vs,h1,h2,h3⟩:=g7.mp b;exact⟨a,vs,h1,h2.to (bT.refl _) (λo q=>R.sub _ _ q) id,h3⟩
 | ref n =>
  obtain⟨c,e1,e2⟩:=aK e;obtain⟨hl,e3⟩:=aC e2;cases e3;obtain⟨a,h1,h2⟩:=cR.mp b;obtain⟨_,vs,h3,h4⟩:=R.c.cell n c a e1 h1 hl;exact⟨a,vs,h2,h3.to (bT.refl _) (λo q=>q) (λz=>by cases z),h4⟩
 | _=>cases e
def EA(h:List aj)(p:PV):Option (List PV):=match cE h p with
 | some (.aq,ps)=>some ps
 | some (.lst,ps)=>some ps
 | _=>none
def Rep.seq(R:Rep K af ag F st σ H){p:PV}{ps:List PV}{v:V}(e:EA st.h p=some ps)(b:aU K F p v):∃a vs,v=.ref a/\(gY K H a vs\/gZ K H a vs)/\ax K F ps vs:=by
 unfold EA at e;split at e
 ·rename_i z;cases e;obtain⟨a,vs,h1,h2,h3⟩:=R.at z b;exact⟨a,vs,h1,.inl h2.2,h3⟩
 ·rename_i z;cases e;obtain⟨a,vs,h1,h2,h3⟩:=R.at z b;exact⟨a,vs,h1,.inr h2,h3⟩
 ·cases e
def nj(h:List aj):PV->Option Bool
 | .aL=>some false
 | .bl b=>some b
 | .int i=>some (i != 0)
 | p=>match cE h p with
  | some (.aq,ps)=>some !ps.isEmpty
  | some (.lst,ps)=>some !ps.isEmpty
  | some (.dt false _,ps)=>some !ps.isEmpty
  | _=>none
def pH{ps:List PV}{vs:List V}(h:ax K F ps vs):ps.isEmpty=vs.isEmpty:=by
 cases ps with
 | nil=>rw[h.b7];rfl
 | cons p ps=>obtain⟨v,r,rfl,_,_⟩:=h.bM;rfl
def Rep.Y5(R:Rep K af ag F st σ H){p:PV}{k:Bool}{v:V}(e:nj st.h p=some k)(b:aU K F p v):Im K v H k:=by
 have more:(match cE st.h p with
  | some (.aq,ps)=>some !ps.isEmpty
  | some (.lst,ps)=>some !ps.isEmpty
  | some (.dt false _,ps)=>some !ps.isEmpty
  | _=>none)=some k->Im K v H k:=λe=>by
  split at e
  ·rename_i z;cases e;obtain⟨a,vs,rfl,h2,h3⟩:=R.at z b;exact .inr (.inl ⟨vs,h2.2,by rw[pH h3]⟩)
  ·rename_i z;cases e;obtain⟨a,vs,rfl,h2,h3⟩:=R.at z b;exact .inl ⟨vs,gZ.sq h2,by rw[pH h3]⟩
  ·rename_i z;cases e;obtain⟨a,vs,rfl,⟨kvs,h2,_,h4⟩,h3⟩:=R.at z b;refine .inr (.inr ⟨kvs,h2,?_⟩);rw[pH h3,<-h4,List.isEmpty_map]
  ·cases e
 cases p with
 | aL=>rw[cG.mp b];exact(bC e).symm
 | bl c=>rw[aX.mp b];exact(bC e).symm
 | int i=>rw[aD.mp b];exact(bC e).symm
 | str x=>exact more e
 | ref n=>exact more e
 | fn x=>exact more e
 | nd k ps=>exact more e
end
section
variable {X:Cx} {af:Hp} {ag:Fz} {a b c e:Expr} {es rest:List Expr} {fa fb fc:Gx PV} {ga gb:Gx Bool} {ts:Gx (List PV)} {pos:Pos}
def uA(f:Gx PV):Gx Bool:=bnd f λp=>hp λh=>nj h p
def RE(h:PE X e (tE X af ag fa))(he:∀iw,isTrue e X.env iw=(do let v <-iw;standAt e.pos;holding [v] (truthy v))):PT X e (tT X af ag (uA fa)) :=
 (Ei h he).imp λσ H Q ⟨F,st,R,h⟩=>⟨F,st,R,h.bnd λp v F1 st1 H1 R1 g1 b1 h1=>by
  obtain⟨k,e,z⟩:=h1.hp;exact⟨k,R1.Y5 e b1,z k H1 F1 R1 (Gr.refl _) rfl⟩⟩
def IK{op vC:CmpOp}{g g':G2}(ho:nP X (compareOp op) g)(lM:nP X (compareOp vC) g')(ha:PE X a (tE X af ag fa))(hb:PE X b (tE X af ag fb))(hc:PE X c (tE X af ag fc))
  (hm:lastMarks [op,vC] [b,c]=false):PT X (.Compare a [op,vC] [b,c] pos) (tT X af ag (toB (chain g g' fa fb fc))):=(Eg ho lM ha hb hc hm).imp λ_ _ _ h=>rR (toB_imp h)
def nv{α:Type}(gc:Gx Bool)(f g:Gx α):Gx α:=bnd gc λx=>if x=true then f else g
def uB{α β:Type}{rl:Fz->α->β->Prop}{f g:Gx α}{σ:St}{H:Hp}{Q:β->Hp->Prop}(h:tX X af ag rl (nv ga f g) σ H Q):tT X af ag ga σ H λc H1=>if c=true then tX X af ag rl f σ H1 Q else tX X af ag rl g σ H1 Q:=by
 obtain⟨F,st,R,h⟩:=h;refine⟨F,st,R,h.bnd λx y F1 st1 H1 R1 g1 b1 h1=>?_⟩
 cases b1;cases x with
 | true=>exact⟨F1,st1,R1,h1⟩
 | false=>exact⟨F1,st1,R1,h1⟩
def uC{α β:Type}{rl:Fz->α->β->Prop}{a:α}{b:β}{σ:St}{H:Hp}{Q:β->Hp->Prop}(h:tX X af ag rl (cf a) σ H Q)(hb:∀F,rl F a b):Q b H:=by
 obtain⟨F,st,R,h⟩:=h;exact h.cf b H F R (Gr.refl _) (hb F)
def wa{P P' Q Q':Prop}{c:Bool}(h:if c=true then P else Q)(h1:P->P')(h2:Q->Q'):if c=true then P' else Q':=by
 grind
def AD{α β:Type}{rl:Fz->α->β->Prop}{f:Gx α}{σ:St}{H:Hp}{Q Q':β->Hp->Prop}(h:tX X af ag rl f σ H Q)(i:∀b H',Q b H'->Q' b H'):tX X af ag rl f σ H Q':=let ⟨F,st,R,h⟩:=h;⟨F,st,R,h.mono (Gr.refl _) i⟩
def RF(ha:PT X a (tT X af ag ga))(hb:PW X (.BoolOp .And (b::rest) pos) (tT X af ag gb)):PW X (.BoolOp .And (a::b::rest) pos) (tT X af ag (nv ga gb (cf false))) :=
 (Mq ha hb).imp λσ H Q h=>AD (uB h) λ_ _ z=>wa z id λz=>uC z λ_=>rfl
def WB(ha:PT X a (tT X af ag ga))(hb:PW X (.BoolOp .Or (b::rest) pos) (tT X af ag gb)):PW X (.BoolOp .Or (a::b::rest) pos) (tT X af ag (nv ga (cf true) gb)) :=
 (QM ha hb).imp λσ H Q h=>AD (uB h) λ_ _ z=>wa z (λz=>uC z λ_=>rfl) id
def IL(f:Gx Bool):Gx Bool:=bnd f λx=>cf !x
def RG(ha:PT X a (tT X af ag ga)):PT X (.UnaryOp .Not a pos) (tT X af ag (IL ga)):=(Mr ha).imp λσ H Q ⟨F,st,R,h⟩=>⟨F,st,R,h.bnd λx y F1 st1 H1 R1 g1 b1 h1=>by
 cases b1;exact h1.cf _ H1 F1 R1 (Gr.refl _) rfl⟩
def M9(fa fb:Gx PV):Gx PV:=bnd fa λx=>bnd (hp λh=>nj h x) λk=>if k=true then fb else cf x
def U9(fa fb:Gx PV):Gx PV:=bnd fa λx=>bnd (hp λh=>nj h x) λk=>if k=true then cf x else fb
def EB{f g:PV->Gx PV}{ah:List (Addr×Obj)}{s:Shared}{σ:St}{H:Hp}{Q:VK}(ha:PE X a (tE X af ag fa))(I:Inv X ah σ H s)
  (h:tE X af ag (bnd fa λx=>bnd (hp λh=>nj h x) λk=>if k=true then f x else g x) σ H Q) :
  wpAny (model X.prog X.w) X.A (eval a X.env) (λv s1=>wpAny (model X.prog X.w) X.A (truthy v) (λk s2=>∃p xv F1 st1 H1,Inv X ah σ H1 s2/\RelV xv v/\Rep X.K af ag F1 st1 σ H1/\aU X.K F1 p xv/\Tx X af ag (aU X.K) F1 st1 (if k=true then f p else g p) σ Q) X.xe s1) X.xe s:=by
 obtain⟨F,st,R,h⟩:=h;refine thn (ha ah s σ H (λv H1=>∃F1 st1 p,Rep X.K af ag F1 st1 σ H1/\aU X.K F1 p v/\Tx X af ag (aU X.K) F1 st1 (bnd (hp λh=>nj h p) λk=>if k=true then f p else g p) σ Q) I
  ⟨F,st,R,h.bnd λp v F1 st1 H1 R1 g1 b1 h1=>⟨F1,st1,p,R1,b1,h1⟩⟩) λv s1 ⟨xv,H1,I1,r1,F1,st1,p,R1,b1,h1⟩=>?_
 obtain⟨k,e,z⟩:=At.hp (At.bnd h1);exact thn (Eh ah s1 σ H1 xv v (λk' H'=>k'=k/\H'=H1) I1 r1 ⟨k,R1.Y5 e b1,rfl,rfl⟩) <| by
  rintro c s2 ⟨H2,I2,ec,eh⟩
  subst ec eh;exact⟨p,xv,F1,st1,H2,I2,r1,R1,b1,z⟩
def WC(ha:PE X a (tE X af ag fa))(hb:PE X (.BoolOp .Or (b::rest) pos) (tE X af ag fb)):PE X (.BoolOp .Or (a::b::rest) pos) (tE X af ag (U9 fa fb)):=λah s σ H Q I h =>
 BoolOp_or (thn (EB ha I h) λv s1 z=>thn z <| by
  rintro k s2 ⟨p,xv,F1,st1,H1,I1,r1,R1,b1,z⟩
  cases k with
  | true=>exact⟨xv,H1,I1,r1,Tx.cf (z) _ H1 F1 R1 (Gr.refl _) b1⟩
  | false=>exact hb ah s2 σ H1 Q I1 ⟨F1,st1,R1,z⟩)
def RH(ha:PE X a (tE X af ag fa))(hb:PE X (.BoolOp .And (b::rest) pos) (tE X af ag fb)):PE X (.BoolOp .And (a::b::rest) pos) (tE X af ag (M9 fa fb)):=λah s σ H Q I h =>
 BoolOp_and (thn (EB ha I h) λv s1 z=>thn z <| by
  rintro k s2 ⟨p,xv,F1,st1,H1,I1,r1,R1,b1,z⟩
  cases k with
  | false=>exact⟨xv,H1,I1,r1,Tx.cf (z) _ H1 F1 R1 (Gr.refl _) b1⟩
  | true=>exact hb ah s2 σ H1 Q I1 ⟨F1,st1,R1,z⟩)
def Na(fa:Gx PV):Gx PV:=bnd (toB fa) λx=>cf (.bl !x)
def RI(ha:PE X a (tE X af ag fa)):PE X (.UnaryOp .Not a pos) (tE X af ag (Na fa)):=(Ms ha).imp λσ H Q ⟨F,st,R,h⟩ =>
 toB_imp ⟨F,st,R,h.bnd λx y F1 st1 H1 R1 g1 b1 h1=>by
  cases b1;exact h1.cf _ H1 F1 R1 (Gr.refl _) (aX.mpr rfl)⟩
def WD(hc:PT X c (tT X af ag ga))(ha:PE X a (tE X af ag fa))(hb:PE X b (tE X af ag fb)):PE X (.IfExp c a b pos) (tE X af ag (nv ga fa fb)):=(D3 hc ha hb).imp λ_ _ _ h=>uB h
def jK(f:Gx PV)(g:Gx (List PV)):Gx (List PV):=bnd f λx=>bnd g λxs=>cf (x::xs)
def RJ:PA X [] (tA X af ag (cf [])):=pq.imp λσ H Q h=>uC h λ_=>.nil
def Nb(ha:PE X e (tE X af ag fa))(hr:PA X es (tA X af ag ts))(hs:starEach (e::es) X.env=(false,eval e X.env)::starEach es X.env:=by rfl):PA X (e::es) (tA X af ag (jK fa ts)) :=
 (gq ha hr hs).imp (by rintro σ H Q ⟨F,st,R,h⟩;exact⟨F,st,R,h.bnd λp v F1 st1 H1 R1 g1 b1 h1=>⟨F1,st1,R1,h1.bnd λps vs F2 dh H2 R2 g2 b2 h2=>h2.cf _ H2 F2 R2 (Gr.refl _) (.cons (b1.mono g2) b2)⟩⟩)
noncomputable def gF:Nat:=4000000
def dD{n:Nat}(h:n<=gF):n<=sizeLine:=aJ h (by decide)
def small(ps:List PV)(p:PV):Option PV:=if ps.length<=gF then some p else none
def Nc(k:Kd)(ts:Gx (List PV)):Gx PV:=bnd ts λps=>iB (small ps (.nd k ps))
def RK{x1}(h:PA X es (tA X af ag ts)):PE X (.Tuple es x1 pos) (tE X af ag (Nc .aq ts)):=(MS h).imp λσ H Q ⟨F,st,R,h⟩=>⟨F,st,R,h.bnd λps vs F1 st1 H1 R1 g1 b1 h1=>by
 obtain⟨p,e,z⟩:=h1.iB;obtain⟨hl,rfl⟩:=aC e;refine⟨dD (by rw[<-b1.length];exact hl),λa hn=>?_⟩
 obtain⟨R2,s2⟩:=R1.laid (.aq vs) hn;exact z _ _ _ R2 s2 (bF.mpr ⟨a,vs,rfl,gY.of aA,b1.mono s2⟩)⟩
def RL(h:PA X es (tA X af ag ts)):PE X (.List es pos) (tE X af ag (Nc .lst ts)):=(El h).imp λσ H Q ⟨F,st,R,h⟩=>⟨F,st,R,h.bnd λps vs F1 st1 H1 R1 g1 b1 h1=>by
 obtain⟨p,e,z⟩:=h1.iB;obtain⟨hl,rfl⟩:=aC e;refine⟨dD (by rw[<-b1.length];exact hl),λa hn=>?_⟩
 obtain⟨R2,s2⟩:=R1.laid (.lst vs) hn;exact z _ _ _ R2 s2 (cZ.mpr ⟨a,vs,rfl,gZ.of aA,b1.mono s2⟩)⟩
noncomputable def hZ(c:aj):Gx PV:=λst=>some (.ok (.ref st.h.length),⟨st.ρ,st.h++[c]⟩)
def Tx.hZ{c:aj}{F:Fz}{st:bP}{σ:St}{H:Hp}{Q:VK}{p:Addr}{o:HO}{vs:List V}(h:Tx X af ag (aU X.K) F st (hZ c) σ Q)(R:Rep X.K af ag F st σ H)(hp:H p=none)
  (hn:j4 X.K F.F (cy H p o) p true c.k vs) (hb:ax X.K F c.ps vs):Q (.ref p) (cy H p o):=by
 obtain⟨r,h1,h2⟩:=h;cases h1;obtain⟨C,g,hm⟩:=R.c.alloc hp hn hb;exact h2 _ _ _ ⟨C,R.l.mono g⟩ g (cR.mpr ⟨p,hm,rfl⟩)
def Ci(ts:Gx (List PV)):Gx PV:=bnd ts λps=>bnd (iB (small ps .aL)) λ_=>hZ ⟨.lst,ps⟩
def Nd(h:PA X es (tA X af ag ts)):PE X (.List es pos) (tE X af ag (Ci ts)):=(El h).imp λσ H Q ⟨F,st,R,h⟩=>⟨F,st,R,h.bnd λps vs F1 st1 H1 R1 g1 b1 h1=>by
 obtain⟨p,e,z⟩:=At.iB (At.bnd h1);obtain⟨hl,rfl⟩:=aC e;exact⟨dD (by rw[<-b1.length];exact hl),λa hn=>Tx.hZ z R1 hn aA b1⟩⟩
end
inductive dE where
 | nx | bk | ct | rt (p:PV)
def wb(X:Cx)(af:Hp)(ag F:Fz)(D:vR):dE->bP->Prop
 | .nx,st=>∀F' bz H',Rep X.K af ag F' st bz H'->Gr F F'->D.nx bz H'
 | .bk,st=>∀F' bz H',Rep X.K af ag F' st bz H'->Gr F F'->D.bk bz H'
 | .ct,st=>∀F' bz H',Rep X.K af ag F' st bz H'->Gr F F'->D.ct bz H'
 | .rt p,st=>∀v F' H',kC X.K af ag F' st.h H'->Gr F F'->aU X.K F' p v->D.rt v H'
def Sa(X:Cx)(af:Hp)(ag F:Fz)(D:vR)(st:bP)(f:Gx dE):Prop:=At X af ag F st f (wb X af ag F D)
def tS(X:Cx)(af:Hp)(ag:Fz)(f:Gx dE):TS:=λD σ H=>∃F st,Rep X.K af ag F st σ H/\Sa X af ag F D st f
section
variable {X:Cx} {af:Hp} {ag F F1:Fz} {D:vR} {st:bP} {α β:Type}
theorem wb.mono(g:Gr F F1):∀(o:dE) (st:bP),wb X af ag F D o st->wb X af ag F1 D o st
 | .nx,_,h=>λF' bz H' R z=>h F' bz H' R (g.trans z)
 | .bk,_,h=>λF' bz H' R z=>h F' bz H' R (g.trans z)
 | .ct,_,h=>λF' bz H' R z=>h F' bz H' R (g.trans z)
 | .rt _,_,h=>λv F' H' R z=>h v F' H' R (g.trans z)
def Sa.mono(h:Sa X af ag F D st f)(g:Gr F F1):Sa X af ag F1 D st f:=At.imp h g (wb.mono g)
def Sa.bnd(h:Sa X af ag F D st (bnd f k))
  (i:∀a b F1 st1 H1,Rep X.K af ag F1 st1 σ H1->Gr F F1->rl F1 a b->Sa X af ag F1 D st1 (k a)->Q b H1):Tx X af ag rl F st f σ Q :=
 At.imp (At.bnd h) (Gr.refl F) λa st1 q b H1 F1 R1 g1 r1=>i a b F1 st1 H1 R1 g1 r1 (Sa.mono q g1)
end
section
variable {X:Cx} {af:Hp} {ag:Fz} {a b c e tg iter:Expr} {es:List Expr} {fe:Gx PV} {gc:Gx Bool} {pos:Pos} {s:Stmt} {ss body:List Stmt} {f g fb:Gx dE}
def onK(g:Gx dE):dE->Gx dE
 | .nx=>g
 | .bk=>cf .bk
 | .ct=>cf .ct
 | .rt p=>cf (.rt p)
def pM(f g:Gx dE):Gx dE:=bnd f (onK g)
def Nf:PSs X [] (tS X af ag (cf .nx)):=HW.imp (by rintro D σ H ⟨F,st,R,h⟩;exact At.cf h F σ H R (Gr.refl F))
def IM(h1:PS X s (tS X af ag f))(h2:PSs X ss (tS X af ag g)):PSs X (s::ss) (tS X af ag (pM f g)):=(D4 h1 h2).imp λD σ H ⟨F,st,R,h⟩ =>
 ⟨F,st,R,At.imp (At.bnd h) (Gr.refl F) λo st1 q=>match o,q with
  | .nx,q=>λF1 g8 H1 R1 g1=>⟨F1,st1,R1,Sa.mono q g1⟩
  | .bk,q=>λF' bz H'=>At.cf q F' bz H'
  | .ct,q=>λF' bz H'=>At.cf q F' bz H'
  | .rt p,q=>λv F' H'=>At.cf q v F' H'⟩
def Ng(h1:PS X s (tS X af ag f)):PSs X [s] (tS X af ag f):=HX h1
def Nh:PS X (.Pass pos) (tS X af ag (cf .nx)):=HY.imp (by rintro D σ H ⟨F,st,R,h⟩;exact At.cf h F σ H R (Gr.refl F))
def IP:PS X (.Break pos) (tS X af ag (cf .bk)):=D5.imp (by rintro D σ H ⟨F,st,R,h⟩;exact At.cf h F σ H R (Gr.refl F))
def Ni:PS X (.Continue pos) (tS X af ag (cf .ct)):=vS.imp (by rintro D σ H ⟨F,st,R,h⟩;exact At.cf h F σ H R (Gr.refl F))
def EC(fe:Gx PV):Gx dE:=bnd fe λp=>cf (.rt p)
def K2(he:PE X e (tE X af ag fe)):PS X (.Return (some e) pos) (tS X af ag (EC fe)):=(Mv he).imp (by rintro D σ H ⟨F,st,R,h⟩;exact⟨F,st,R,h.bnd λp v F1 st1 H1 R1 g1 b1 h1=>At.cf h1 v F1 H1 R1.c (Gr.refl _) b1⟩)
def Nj:PS X (.Return none pos) (tS X af ag (cf (.rt .aL))):=H0.imp (by rintro D σ H ⟨F,st,R,h⟩;exact At.cf h _ F H R.c (Gr.refl _) (cG.mpr rfl))
def WE(hc:PT X c (tT X af ag gc))(ha:PSs X p (tS X af ag f))(hb:PSs X r (tS X af ag g)):PS X (.If c p r pos) (tS X af ag (nv gc f g)) :=
 (QR hc ha hb).imp λD σ H ⟨F,st,R,h⟩=>⟨F,st,R,h.bnd λx y F1 st1 H1 R1 g1 b1 h1=>by
  cases b1;cases x with
  | true=>exact⟨F1,st1,R1,h1⟩
  | false=>exact⟨F1,st1,R1,h1⟩⟩
def AE(fe:Gx PV):Gx dE:=bnd fe λ_=>cf .nx
def Nk(he:PE X e (tE X af ag fe))(hs:swapsWith e none pos.line X.env=pure false:=by rfl):PS X (.Expr e pos) (tS X af ag (AE fe)):=(HZ he hs).imp λD σ H ⟨F,st,R,h⟩ =>
 ⟨F,st,R,h.bnd λp v F1 st1 H1 R1 g1 b1 h1=>At.cf h1 F1 σ H1 R1 (Gr.refl _)⟩
abbrev Tg:=PV->bP->Option bP
abbrev Qb:=List PV->bP->Option bP
def tG(K:W.Frag)(af:Hp)(ag:Fz)(g:Tg):TG:=λv σ H Q=>∃F st p st',Rep K af ag F st σ H/\aU K F p v/\g p st=some st'/\∀bz H' F',Rep K af ag F' st' bz H'->Gr F F'->Q bz H'
def RM(K:W.Frag)(af:Hp)(ag:Fz)(g:Qb):KQ:=λvs σ H Q=>∃F st ps st',Rep K af ag F st σ H/\ax K F ps vs/\g ps st=some st'/\∀bz H' F',Rep K af ag F' st' bz H'->Gr F F'->Q bz H'
noncomputable def du(i:Nat):Tg:=λp st=>if i<st.ρ.length then some ⟨st.ρ.set i (some p),st.h⟩else none
def Lc.set{K:W.Frag}(L:Lc K F ρ σ)(hi:i<ρ.length)(hb:aU K F p v):Lc K F (ρ.set i (some p)) (σ.set i (some v)) where
 av:=λj q e=>by
  by_cases h:i=j
  ·subst h;rw[s9 hi]at e;cases e;exact⟨v,s9 (by rw[<-L.len];exact hi),hb⟩
  ·rw[bV h]at e;rw[bV h];exact L.av j q e
 len:=by rw[jW,jW];exact L.len
def Nl(i:Nat)(h:PG X (.Name x pos) (gName i)):PG X (.Name x pos) (tG X.K af ag (du i)):=h.imp <| by
 rintro v σ H Q ⟨F,st,p,st',R,hb,hf,q⟩
 obtain⟨hi,rfl⟩:=aC hf;exact q _ _ _ ⟨R.c,R.l.set hi hb⟩ (Gr.refl F)
noncomputable def Cj:Qb:=λps st=>match ps with | []=>some st | _=>none
noncomputable def pN(g:Tg)(r:Qb):Qb:=λps st=>match ps with | p::ps=>(g p st).bind λst'=>r ps st' | []=>none
def Nn:PGs X [] (RM X.K af ag Cj):=Ia.imp <| by
 rintro vs σ H Q ⟨F,st,ps,st',R,hb,hf,q⟩
 cases ps with
 | nil=>cases hf;exact⟨hb.b7,q _ _ _ R (Gr.refl F)⟩
 | cons _ _=>cases hf
def IQ(h1:PG X e (tG X.K af ag t))(h2:PGs X es (RM X.K af ag u))(hs:(assignEach (e::es) X.env).map (·.2)=assign e X.env::(assignEach es X.env).map (·.2):=by rfl) :
  PGs X (e::es) (RM X.K af ag (pN t u)):=(D8 h1 h2 hs).imp <| by
 rintro vs σ H Q ⟨F,st,ps,st',R,hb,hf,q⟩
 cases ps with
 | nil=>cases hf
 | cons p ps =>
  obtain⟨v,r,rfl,b1,b2⟩:=hb.bM;obtain⟨st1,e1,e2⟩:=aK hf;exact⟨v,r,rfl,F,st,p,st1,R,b1,e1,λg8 H1 F1 R1 s1=>⟨F1,st1,ps,st',R1,b2.mono s1,e2,λAu H2 F2 R2 s2=>q Au H2 F2 R2 (s1.trans s2)⟩⟩
def _root_.L2.Inv.kW{s:Shared}{a:Addr}(I:Inv X ah σ H s)(h:gZ X.K H a xs):∃(aw:List Value) (n:Nat),Vals xs aw/\s.heap.get? a=some {cls:=.type "list",data:=.seq aw.toArray n}/\xs.length<=sizeLine:=by
 rcases h with h | ⟨aw,n,e,z,r⟩
 ·obtain⟨z,aw,n,r,e⟩:=h.ok I.hok;exact⟨aw,n,r,e,z⟩
 ·exact⟨aw,n,r,I.mh a _ e,by rw[r.length];exact z⟩
def Np{es:List Expr}{k:Nat}{t:KQ}{n:Nat}(hc:X.calm=true)(h:PGs X es t)
 (hn:(assignEach es X.env).length=n:=by rfl) (qO:(assignEach es X.env).findIdx? (·.1)=none:=by rfl):PG X (.Tuple es k pos) (λv σ H Q=>∃a xs,v=.ref a/\gZ X.K H a xs/\xs.length=n/\t xs σ H Q):=by
 intro ah s σ H v u Q I r hw;obtain⟨a,xs,e1,hq,hl,hw⟩:=hw;subst e1;cases r;obtain⟨aw,m,rv,e,hz⟩:=I.kW hq;rw[PyProof.Rows.assign_Tuple];refine ai (t9 ?_);unfold unpack;rw[show(assignEach es X.env).length=aw.toArray.size by simp[hn,<-hl,rv.length],qO]
 refine ai (dB (W.kun_itemsOf (I.ok.hd hc) ⟨_,e,rfl,_,rfl⟩ λh' hx=>?_))
 have I1:=I.kept (t':=s.toks) λb o e=>hx b o (aZ (aG e)) e
 exact h ah _ σ H xs _ Q I1 (by grind) hw
noncomputable def za(n:Nat)(t:Qb):Tg:=λp st=>match p with | .nd .aq ps=>if ps.length=n then t ps st else none | .nd .lst ps=>if ps.length=n then t ps st else none | _=>none
def RN(hc:X.calm=true)(h:PGs X es (RM X.K af ag t))(hn:(assignEach es X.env).length=n:=by rfl)(qO:(assignEach es X.env).findIdx? (·.1)=none:=by rfl) :
  PG X (.Tuple es k pos) (tG X.K af ag (za n t)):=by
 rintro ah s σ H v u Q I r ⟨F,st,p,st',R,hb,hf,q⟩
 unfold za at hf;split at hf
 ·obtain⟨hl,hf⟩:=bL hf;obtain⟨a,vs,rfl,hs,pO⟩:=bF.mp hb;exact Mw hc h hn qO ah s σ H _ u Q I r ⟨a,vs,rfl,cC R.sub hs,by rw[<-pO.length];exact hl,F,st,_,st',R,pO,hf,q⟩
 ·obtain⟨hl,hf⟩:=bL hf;obtain⟨a,vs,rfl,hs,pO⟩:=cZ.mp hb;exact Np hc h hn qO ah s σ H _ u Q I r ⟨a,vs,rfl,iZ R.sub hs,by rw[<-pO.length];exact hl,F,st,_,st',R,pO,hf,q⟩
 ·cases hf
noncomputable def stp(g:bP->Option bP):Gx dE:=λst=>(g st).map λst'=>(.ok .nx,st')
def Sa.stp{st:bP}{g:bP->Option bP}(h:Sa X af ag F D st (stp g)):∃st',g st=some st'/\∀F' bz H',Rep X.K af ag F' st' bz H'->Gr F F'->D.nx bz H':=by
 obtain⟨r,h1,h2⟩:=h;obtain⟨st',e1,e2⟩:=aM h1;subst e2;exact⟨st',e1,h2⟩
def kX(fe:Gx PV)(g:Tg):Gx dE:=bnd fe λp=>stp (g p)
def IS{g:Tg}(h:tS X af ag (kX fe g) D σ H):Ib (tE X af ag fe) (tG X.K af ag g) D σ H:=by
 obtain⟨F,st,R,h⟩:=h;refine⟨F,st,R,h.bnd λp v F1 st1 H1 R1 g1 b1 h1=>?_⟩
 obtain⟨st',e,z⟩:=h1.stp;exact⟨F1,st1,p,st',R1,b1,e,λAu H2 F2 R2 s2=>z F2 Au H2 R2 s2⟩
def RO{g:Tg}(he:PE X e (tE X af ag fe))(hg:PG X tg (tG X.K af ag g))(hs:swapsWithSole [tg] e pos.line X.env=pure false:=by rfl)(hw:swappedStores [tg] e X.env=pure none:=by rfl)
  (h1:(assignEach [tg] X.env).map (·.2)=[assign tg X.env]:=by rfl):PS X (.Assign [tg] e pos) (tS X af ag (kX fe g)):=(D9 he hg hs hw h1).imp λ_ _ _ h=>IS h
def Walk(K:W.Frag)(F:Fz)(ps:List PV)(J:It):Prop:=∀(af:Hp) (ag F':Fz) (st:bP) (σ:St) (H:Hp),Rep K af ag F' st σ H->Gr F F'->∀i:Nat,
 (∀p,ps[i]?=some p->J.go i H/\∀x H',J.yld i H x H'->∃ED,Rep K af ag ED st σ H'/\Gr F' ED/\aU K ED p x)/\(ps[i]?=none->J.stop i H)
abbrev tI(X:Cx)(af:Hp)(ag:Fz)(f:Gx (List PV)):TI:=tX X af ag (Walk X.K) f
def pP(r:Gx dE):dE->Gx dE
 | .nx=>r
 | .ct=>r
 | .bk=>cf .nx
 | .rt p=>cf (.rt p)
def gH(g:Tg)(body:Gx dE):List PV->Gx dE
 | []=>cf .nx
 | p::ps=>bnd (stp (g p)) λ_=>bnd body (pP (gH g body ps))
def Sa.o7{st:bP}(N:St->Hp->Prop)(hN:∀F1 st1 g8 H1,Rep X.K af ag F1 st1 g8 H1->Gr F F1->Sa X af ag F1 D st1 r->N g8 H1)(h:Sa X af ag F D st (U.bnd fb (pP r))):Sa X af ag F {D with nx:=N,ct:=N,bk:=D.nx} st fb :=
 At.imp (At.bnd h) (Gr.refl F) λo st1 q=>match o,q with
  | .nx,q=>λF1 g8 H1 R1 g1=>hN F1 st1 g8 H1 R1 g1 (Sa.mono q g1)
  | .ct,q=>λF1 g8 H1 R1 g1=>hN F1 st1 g8 H1 R1 g1 (Sa.mono q g1)
  | .bk,q=>λF' bz H'=>At.cf q F' bz H'
  | .rt p,q=>λv F' H'=>At.cf q v F' H'
def j9(gc:Gx Bool)(body:Gx dE):Nat->Gx dE
 | 0=>λ_=>none
 | n+1=>bnd gc λc=>if c=true then bnd body (pP (j9 gc body n))else cf .nx
def IT(n:Nat)(hp:PassesOwn (model X.prog X.w) X.A X.env X.xe)(hc:PT X c (tT X af ag gc))(hb:PSs X body (tS X af ag fb)):PS X (.While c body [] pos) (tS X af ag (j9 gc fb n)) :=
 (Ea hp hc hb).imp <| by
 rintro D σ H ⟨F,st,R,h⟩
 refine⟨λm bz H'=>∃F' st',Rep X.K af ag F' st' bz H'/\Sa X af ag F' D st' (j9 gc fb m),⟨n,F,st,R,h⟩,λm bz H' ⟨F',st',R',h'⟩=>?_⟩
 cases m with
 | zero=>obtain⟨r,e,_⟩:=h';cases e
 | succ m =>
  refine⟨F',st',R',Sa.bnd h' λx y F1 st1 H1 R1 g1 b1 h1=>?_⟩
  cases b1;cases x with
  | false=>exact At.cf h1 F1 bz H1 R1 (Gr.refl _)
  | true=>exact⟨λAu H2=>∃F2 dh,Rep X.K af ag F2 dh Au H2/\Sa X af ag F2 D dh (j9 gc fb m),λAu H2 n2=>⟨m,lV m,n2⟩,F1,st1,R1,Sa.o7 _ (λF4 Dp K3 H4 R4 g4 z=>⟨F4,Dp,R4,z⟩) h1⟩
end
def sizeOk(n:Nat)(p:PV):Option PV:=if n<=gF then some p else none
def i6(h:sizeOk n p=some q):n<=sizeLine/\p=q:=by
 obtain⟨h1,h2⟩:=aC h;exact⟨dD h1,h2⟩
def ny(h:List aj)(p:PV):Option (List PV):=match cE h p with | some (.lst,ps)=>some ps | _=>none
def dS(e:ny h p=some ps):cE h p=some (.lst,ps):=by
 unfold ny at e;split at e
 ·grind
 ·cases e
def fV:G2:=λh p q=>match p,q with
 | .int i,.int j=>some (.int (i+j))
 | .str x,.str y=>sizeOk (x.length+y.length) (.str (x++y))
 | .nd .aq xs,.nd .aq ys=>sizeOk (xs.length+ys.length) (.aq (xs++ys))
 | p,q=>(ny h p).bind λxs=>(ny h q).bind λys=>sizeOk (xs.length+ys.length) (.lst (xs++ys))
noncomputable def mn(c:Int->Int->Bool)(f:Int->Int->PV):G2:=λ_ p q=>match p,q with
 | .int i,.int j=>if c i j=true then some (f i j)else none
 | _,_=>none
noncomputable def nz:Int:=18446744073709551616
def Nq:G2:=mn (λ_ _=>true) λi j=>.int (i-j)
def RP:G2:=mn (λi j=>decide ((-nz<i/\i<nz)\/(-nz<j/\j<nz))) λi j=>.int (i*j)
def fW:G2:=mn (λ_ j=>decide (0<j/\j<1073741824)) λi j=>.int (i/j)
def cu:G2:=mn (λ_ j=>decide (0<j)) λi j=>.int (i%j)
def Nr:G2:=mn (λi j=>decide (0<=j/\j<=1000/\i.natAbs<1000)) λi j=>.int (i^j.toNat)
def RQ:G2:=mn (λ_ _=>true) λi j=>.bl (decide (i<j))
def Y6:G2:=mn (λ_ _=>true) λi j=>.bl (decide (i<=j))
def RR:G2:=mn (λ_ _=>true) λi j=>.bl (decide (j<=i))
section
variable {X:Cx}
def EE{ws:List Value}(ht:IsTup s.heap t ([]:List Value).toArray)(hb:IsTup s.heap b ws.toArray)(h1:Q (.ref b) s):wpAny (model prog w) A (binaryOp .Add (.ref t) (.ref b)) Q E s:=by
 obtain⟨⟨cls,dd,data,sl⟩,ho,hc,n,hd⟩:=id ht;obtain⟨⟨Wl,U4,Rc,MU⟩,MV,MW,n2,hd2⟩:=id hb;simp only at hc hd MW hd2;subst hc hd MW hd2;exact concat_meets ⟨_,ho,rfl⟩ ⟨_,MV,rfl⟩ yp seq_tuple_add xZ xU (xT _ _) (tuple_addW0 t b _ ws.toArray n n2 dd U4 sl MU (by simp)) ⟨ho,MV,h1⟩
def IU:nP X (binaryOp .Add) fV:=by
 rintro ah s σ H x y v u Q I rx ry ⟨af,ag,F,st,τ,pa,pb,p,e,R,ba,bb,k⟩
 unfold fV at e;split at e
 ·cases e;rw[aD.mp ba]at rx;rw[aD.mp bb]at ry;exact MH ah s σ H _ _ v u Q I rx ry ⟨_,_,rfl,rfl,k _ H F R (Gr.refl F) (aD.mpr rfl)⟩
 ·obtain⟨hz,rfl⟩:=i6 e;rw[bE.mp ba]at rx;rw[bE.mp bb]at ry;exact yT ah s σ H _ _ v u Q I rx ry ⟨_,_,rfl,rfl,hz,k _ H F R (Gr.refl F) (bE.mpr rfl)⟩
 ·rename_i xs ys;obtain⟨hz,rfl⟩:=i6 e;obtain⟨a,vs,rfl,ha,fK⟩:=bF.mp ba;obtain⟨b,ws,rfl,hb,Hq⟩:=bF.mp bb;have RS:=cC R.sub ha;have jt:=cC R.sub hb;cases xs with
  | nil =>
   rw[fK.b7]at RS;cases rx;cases ry;obtain⟨aw,r1,p1,_⟩:=I.tuple RS;obtain⟨dR,r2,p2,_⟩:=I.tuple jt;cases r1;exact EE p1 p2 ⟨.ref b,H,I,rfl,k _ H F R (Gr.refl F) (bF.mpr ⟨b,ws,rfl,hb,Hq⟩)⟩
  | cons x0 xr =>
   refine IA ah s σ H _ _ v u Q I rx ry ⟨a,b,vs,ws,rfl,rfl,RS,jt,?_,by rw[<-fK.length,<-Hq.length];exact hz,λz=>?_,λz q hq=>?_⟩
   ·intro z;have:=fK.length;rw[z]at this;cases this
   ·subst z;have hy:=sW Hq.length;subst hy;rw[cX]at k;exact k _ H F R (Gr.refl F) (bF.mpr ⟨a,vs,rfl,ha,fK⟩)
   ·obtain⟨R2,s2⟩:=R.laid (.aq (vs++ws)) hq;exact k _ _ _ R2 s2 (bF.mpr ⟨q,_,rfl,gY.of aA,(fK.append Hq).mono s2⟩)
 ·obtain⟨xs,e1,e⟩:=aK e;obtain⟨ys,e2,e⟩:=aK e;obtain⟨hz,rfl⟩:=i6 e;obtain⟨a,vs,rfl,ha,fK⟩:=R.at (dS e1) ba;obtain⟨b,ws,rfl,hb,Hq⟩:=R.at (dS e2) bb;cases rx;cases ry;obtain⟨aw,n,r,e1,z1⟩:=I.kW ha;obtain⟨dR,n2,r2,e2,z2⟩:=I.kW hb;have hl:=r.length;have Va:=r2.length;have hz':vs.length+ws.length<=sizeLine:=by rw[<-fK.length,<-Hq.length];exact hz
  refine PySem.P.add_list e1 e2 ?_ (by grind)
  have ea:aw.toArray++dR.toArray=(aw++dR).toArray:=by simp
  rw[ea];obtain⟨R2,s2⟩:=R.laid (.lst (vs++ws)) I.fresh;exact⟨.ref _,_,I.M6 (r.append r2) (by grind),rfl,k _ _ _ R2 s2 (cZ.mpr ⟨_,_,rfl,gZ.of aA,(fK.append Hq).mono s2⟩)⟩
def ef(ho:OpR X f (rI C h))(hc:∀i j,c i j=true->C i j)(hg:∀i j F,aU X.K F (g i j) (h i j)):nP X f (mn c g):=by
 rintro ah s σ H x y v u Q I rx ry ⟨af,ag,F,st,τ,pa,pb,p,e,R,ba,bb,k⟩
 unfold mn at e;split at e
 ·obtain⟨h1,rfl⟩:=aC e;rw[aD.mp ba]at rx;rw[aD.mp bb]at ry;exact ho ah s σ H _ _ v u Q I rx ry ⟨_,_,rfl,rfl,hc _ _ h1,k _ H F R (Gr.refl F) (hg _ _ F)⟩
 ·cases e
def rS(ho:OpR X f (Hl h)):OpR X f (rI (λ_ _=>True) h):=(by rintro ah s σ H x y v u Q I rx ry ⟨i,j,h1,h2,_,q⟩;exact ho ah s σ H x y v u Q I rx ry ⟨i,j,h1,h2,q⟩)
end
def Nt:Operator->Option G2
 | .Add=>some fV
 | .Sub=>some Nq
 | .Mult=>some RP
 | .FloorDiv=>some fW
 | .Mod=>some cu
 | .Pow=>some Nr
 | _=>none
def IV(h:Nt op=some g):nP X (binaryOp op) g:=by
 unfold Nt at h;split at h<;>cases h
 ·exact IU
 ·exact ef (rS MI) (by grind) λ_ _ _=>aD.mpr rfl
 ·exact ef MJ (λi j e=>show(-nz<i/\i<nz)\/(-nz<j/\j<nz)from gS e) λ_ _ _=>aD.mpr rfl
 ·exact ef Ig (λ_ j e=>show 0<j/\j<1073741824 from gS e) λ_ _ _=>aD.mpr rfl
 ·exact ef MK (λ_ _ e=>gS e) λ_ _ _=>aD.mpr rfl
 ·exact ef ML (λ_ _ e=>let ⟨h1,h2,h3⟩:=gS e;⟨h1,by lia,iQ h3 (by decide)⟩) λ_ _ _=>aD.mpr rfl
inductive Tr where
 | aL | bl (b:Bool) | int (i:Int) | str (x:Str) | aq (xs:List Tr) | lst (xs:List Tr)
mutual
def eqT:Tr->Tr->Bool
 | .aL,.aL=>true
 | .bl a,.bl b=>a==b
 | .bl a,.int b=>(if a then 1 else 0)==b
 | .int a,.bl b=>a==(if b then 1 else 0)
 | .int a,.int b=>a==b
 | .str a,.str b=>a==b
 | .aq xs,.aq ys=>uD xs ys
 | .lst xs,.lst ys=>uD xs ys
 | _,_=>false
def uD:List Tr->List Tr->Bool
 | [],[]=>true
 | x::xs,y::ys=>eqT x y&&uD xs ys
 | _,_=>false
end
mutual
def dep:Tr->Nat
 | .aq xs=>jD xs+1
 | .lst xs=>jD xs+1
 | _=>0
def jD:List Tr->Nat
 | []=>0
 | x::xs=>max (dep x) (jD xs)
end
mutual
theorem gI:∀p:Tr,eqT p p=true
 | .aL=>rfl
 | .bl b=>fu b
 | .int b=>fu b
 | .str b=>fu b
 | .aq xs=>mq xs
 | .lst xs=>mq xs
theorem mq:∀ps:List Tr,uD ps ps=true
 | []=>rfl
 | x::xs=>ox.mpr ⟨gI x,mq xs⟩
end
theorem kY:∀{xs ys:List Tr},xs.length≠ys.length->uD xs ys=false
 | [],[],h=>absurd rfl h
 | [],_::_,_=>rfl
 | _::_,[],_=>rfl
 | x::xs,y::ys,h=>by show(eqT x y&&uD xs ys)=false;rw[kY (by simpa using h),aT]
noncomputable def pQ(xs ys:List Tr)(j:Nat):Bool:=match xs[j]?,ys[j]? with
 | some x,some y=>eqT x y
 | _,_=>true
theorem kZ:∀{xs ys:List Tr},xs.length=ys.length->(List.range xs.length).all (pQ xs ys)=uD xs ys
 | [],[],_=>rfl
 | [],_::_,h=>by cases h
 | _::_,[],h=>by cases h
 | x::xs,y::ys,h=>by
  have ih:=kZ (by simpa using h)
  rw[cw,List.range_succ_eq_map,gU,List.all_map];have e0:pQ (x::xs) (y::ys) 0=eqT x y:=rfl;have e1:(pQ (x::xs) (y::ys) ∘ Nat.succ)=pQ xs ys:=by
   funext j
   simp[pQ,Function.comp]
  rw[e0,e1,ih];rfl
def AF(h1:xs.length=m)(h2:ys.length=n):((List.range (min m n)).all (pQ xs ys)&&(m==n))=uD xs ys:=by
 subst h1 h2;by_cases h:xs.length=ys.length
 ·rw[<-h,Nat.min_self,kZ h];simp
 ·rw[kY h];simp[h]
mutual
def cS(s:Shared):Tr->Value->Prop
 | .aL,u=>u=.none
 | .bl b,u=>u=.bool b
 | .int i,u=>∃t,u=.int i t
 | .str x,u=>∃t,u=.str x t
 | .aq ts,u=>∃a aw,u=.ref a/\s.heap.IsTuple a aw.toArray/\bN s ts aw
 | .lst ts,u=>∃a aw,u=.ref a/\s.heap.IsList a aw.toArray/\bN s ts aw
def bN(s:Shared):List Tr->List Value->Prop
 | [],us=>us=[]
 | t::ts,us=>∃u r,us=u::r/\cS s t u/\bN s ts r
end
section
variable {A:Around} {s:Shared}
theorem bN.len:∀{ts:List Tr} {us:List Value},bN s ts us->ts.length=us.length
 | [],_,h=>by simp only[bN]at h;rw[h];rfl
 | _::_,_,h=>by
  simp only[bN]at h;obtain⟨u,r,rfl,_,h⟩:=h;simp[bN.len h]
def js(h1:s.heap.IsTuple a x)(h2:s.heap.IsTuple a y):x=y:=by
 obtain⟨o,e,_,n,d⟩:=h1;obtain⟨o',e',_,n',d'⟩:=h2;rw[e]at e';cases e';rw[d]at d';cases d';rfl
def kL(h1:s.heap.IsList a x)(h2:s.heap.IsList a y):x=y:=by
 obtain⟨o,e,_,n,d⟩:=h1;obtain⟨o',e',_,n',d'⟩:=h2;rw[e]at e';cases e';rw[d]at d';cases d';rfl
def pS(h1:s.heap.IsTuple a x)(h2:s.heap.IsList a y):False:=by
 obtain⟨o,e,c,n,d⟩:=h1;obtain⟨o',e',c',n',d'⟩:=h2;rw[e]at e';cases e';rw[c]at c';simp at c'
mutual
theorem cS.inj:∀{p q:Tr} {u:Value},cS s p u->cS s q u->p=q
 | .aL,q,u,h,h'=>by cases q<;>simp_all [cS]
 | .bl b,q,u,h,h'=>by cases q<;>simp_all [cS]
 | .int b,q,u,h,h'=>by
  simp only[cS]at h;obtain⟨t,rfl⟩:=h;cases q<;>simp_all [cS]
 | .str b,q,u,h,h'=>by
  simp only[cS]at h;obtain⟨t,rfl⟩:=h;cases q<;>simp_all [cS]
 | .aq xs,q,u,h,h'=>by
  simp only[cS]at h;obtain⟨a,aw,rfl,h1,h2⟩:=h;cases q with
  | aq ys =>
   simp only[cS]at h';obtain⟨b,RT,e,g1,g2⟩:=h';cases e;have:=js h1 g1;have e:aw=RT:=by simpa using this
   subst e;rw[bN.inj h2 g2]
  | lst ys =>
   simp only[cS]at h';obtain⟨b,RT,e,g1,g2⟩:=h';cases e;exact(pS h1 g1).elim
  | _=>simp[cS]at h'
 | .lst xs,q,u,h,h'=>by
  simp only[cS]at h;obtain⟨a,aw,rfl,h1,h2⟩:=h;cases q with
  | lst ys =>
   simp only[cS]at h';obtain⟨b,RT,e,g1,g2⟩:=h';cases e;have:=kL h1 g1;have e:aw=RT:=by simpa using this
   subst e;rw[bN.inj h2 g2]
  | aq ys =>
   simp only[cS]at h';obtain⟨b,RT,e,g1,g2⟩:=h';cases e;exact(pS g1 h1).elim
  | _=>simp[cS]at h'
theorem bN.inj:∀{ps qs:List Tr} {us:List Value},bN s ps us->bN s qs us->ps=qs
 | [],qs,us,h,h'=>by
  simp only[bN]at h;subst h;cases qs with
  | nil=>rfl
  | cons _ _=>simp[bN]at h'
 | p::ps,qs,us,h,h'=>by
  simp only[bN]at h;obtain⟨u,r,rfl,h1,h2⟩:=h;cases qs with
  | nil=>simp[bN]at h'
  | cons q qs =>
   simp only[bN]at h';obtain⟨u',r',e,g1,g2⟩:=h';cases e;rw[cS.inj h1 g1,bN.inj h2 g2]
end
def pT(h:b=c)(r:SeqAt.RcAt A s u w b):SeqAt.RcAt A s u w c:=h▸r
def kf(h:b = !c)(r:SeqAt.RcNeAt A s u w b):SeqAt.RcNeAt A s u w (!c):=h▸r
def AG(hf:∀x t,u≠.float x t)(h:SeqAt.RcAt A s u w b)(hb:u=w->b=true):SeqAt.EqAt A s u w b:=λprog v E Q hq=>by
 unfold eqBool;refine dB ?_;refine wpAny_ite_split (λz=>?_) (λ_=>?_)
 ·rw[hb (aR z)]at hq;exact ai (gW (ak hq))
 ·cases u with
  | float x t=>exact absurd rfl (hf x t)
  | _=>exact ai (h prog v E _ (iM hq))
def cS.K4(h:cS s p u):∀y t,u≠.float y t:=λy t z=>by
 subst z;cases p<;>simp[cS]at h
mutual
theorem uE:∀(p q:Tr) (A:Around) (u w:Value),cS s p u->cS s q w->A.units+dep p<cLine->SeqAt.RcAt A s u w (eqT p q)/\SeqAt.RcNeAt A s u w (!(eqT p q))
 | .aL,q,A,u,w,ha,hb,hu=>by
  have fX:A.units<cLine := ‹_›;subst ha;cases q with
  | aL=>cases hb;exact⟨.none_none,.none_none⟩
  | bl=>cases hb;exact⟨(.none_bool _),(.none_bool _)⟩
  | int=>obtain⟨t,rfl⟩:=hb;exact⟨(.none_int _ _),(.none_int _ _)⟩
  | str=>obtain⟨t,rfl⟩:=hb;exact⟨(.none_str _ _),(.none_str _ _)⟩
  | aq=>obtain⟨a,aw,rfl,pR,_⟩:=hb;exact⟨(.none_tuple pR fX),(.none_tuple pR fX)⟩
  | lst=>obtain⟨a,aw,rfl,pR,_⟩:=hb;exact⟨(.none_list pR fX),(.none_list pR fX)⟩
 | .bl k,q,A,u,w,ha,hb,hu=>by
  have fX:A.units<cLine := ‹_›;subst ha;cases q with
  | aL=>cases hb;exact⟨(.bool_none _),(.bool_none _)⟩
  | bl=>cases hb;exact⟨(.bool_bool _ _),(.bool_bool _ _)⟩
  | int=>obtain⟨t,rfl⟩:=hb;exact⟨(.bool_int _ _ _),(.bool_int _ _ _)⟩
  | str=>obtain⟨t,rfl⟩:=hb;exact⟨(.bool_str _ _ _),(.bool_str _ _ _)⟩
  | aq=>obtain⟨a,aw,rfl,pR,_⟩:=hb;exact⟨(.bool_tuple _ pR fX),(.bool_tuple _ pR fX)⟩
  | lst=>obtain⟨a,aw,rfl,pR,_⟩:=hb;exact⟨(.bool_list _ pR fX),(.bool_list _ pR fX)⟩
 | .int k,q,A,u,w,ha,hb,hu=>by
  have fX:A.units<cLine := ‹_›;obtain⟨tk,rfl⟩:=ha;cases q with
  | aL=>cases hb;exact⟨(.int_none _ _),(.int_none _ _)⟩
  | bl=>cases hb;exact⟨(.int_bool _ _ _),(.int_bool _ _ _)⟩
  | int=>obtain⟨t,rfl⟩:=hb;exact⟨(.int_int _ _ _ _),(.int_int _ _ _ _)⟩
  | str=>obtain⟨t,rfl⟩:=hb;exact⟨(.int_str _ _ _ _),(.int_str _ _ _ _)⟩
  | aq=>obtain⟨a,aw,rfl,pR,_⟩:=hb;exact⟨(.int_tuple _ _ pR fX),(.int_tuple _ _ pR fX)⟩
  | lst=>obtain⟨a,aw,rfl,pR,_⟩:=hb;exact⟨(.int_list _ _ pR fX),(.int_list _ _ pR fX)⟩
 | .str k,q,A,u,w,ha,hb,hu=>by
  have fX:A.units<cLine := ‹_›;obtain⟨tk,rfl⟩:=ha;cases q with
  | aL=>cases hb;exact⟨(.str_none _ _),(.str_none _ _)⟩
  | bl=>cases hb;exact⟨(.str_bool _ _ _),(.str_bool _ _ _)⟩
  | int=>obtain⟨t,rfl⟩:=hb;exact⟨(.str_int _ _ _ _),(.str_int _ _ _ _)⟩
  | str=>obtain⟨t,rfl⟩:=hb;exact⟨(.str_str _ _ _ _),(.str_str _ _ _ _)⟩
  | aq=>obtain⟨a,aw,rfl,pR,_⟩:=hb;exact⟨(.str_tuple _ _ pR fX),(.str_tuple _ _ pR fX)⟩
  | lst=>obtain⟨a,aw,rfl,pR,_⟩:=hb;exact⟨(.str_list _ _ pR fX),(.str_list _ _ pR fX)⟩
 | .aq xs,q,A,u,w,ha,hb,hu=>by
  have fX:A.units<cLine:=by lia
  obtain⟨al,IW,rfl,pL,tL⟩:=ha;cases q with
  | aL=>cases hb;exact⟨(.tuple_none pL fX),(.tuple_none pL fX)⟩
  | bl=>cases hb;exact⟨(.tuple_bool _ pL fX),(.tuple_bool _ pL fX)⟩
  | int=>obtain⟨t,rfl⟩:=hb;exact⟨(.tuple_int _ _ pL fX),(.tuple_int _ _ pL fX)⟩
  | str=>obtain⟨t,rfl⟩:=hb;exact⟨(.tuple_str _ _ pL fX),(.tuple_str _ _ pL fX)⟩
  | lst=>obtain⟨a,aw,rfl,pR,_⟩:=hb;exact⟨(.tuple_list pL pR fX),(.tuple_list pL pR fX)⟩
  | aq ys =>
   obtain⟨a,IX,rfl,pR,tR⟩:=hb;have e1:xs.length=IW.toArray.size:=by rw[bW,tL.len]
   have e2:ys.length=IX.toArray.size:=by rw[bW,tR.len]
   have el:=λj (h1:j<IW.toArray.size) (h2:j<IX.toArray.size)=>uF xs ys A.in1 IW IX tL tR (by rw[tF];have hu:_+(jD _+1)<_:=hu;lia) j (by simpa using h1) (by simpa using h2)
   exact⟨pT (AF e1 e2) (.tuples pL pR fX el),kf (by rw[AF e1 e2];rfl) (.tuples pL pR fX el)⟩
 | .lst xs,q,A,u,w,ha,hb,hu=>by
  have fX:A.units<cLine:=by lia
  obtain⟨al,IW,rfl,pL,tL⟩:=ha;cases q with
  | aL=>cases hb;exact⟨(.list_none pL fX),(.list_none pL fX)⟩
  | bl=>cases hb;exact⟨(.list_bool _ pL fX),(.list_bool _ pL fX)⟩
  | int=>obtain⟨t,rfl⟩:=hb;exact⟨(.list_int _ _ pL fX),(.list_int _ _ pL fX)⟩
  | str=>obtain⟨t,rfl⟩:=hb;exact⟨(.list_str _ _ pL fX),(.list_str _ _ pL fX)⟩
  | aq=>obtain⟨a,aw,rfl,pR,_⟩:=hb;exact⟨(.list_tuple pL pR fX),(.list_tuple pL pR fX)⟩
  | lst ys =>
   obtain⟨a,IX,rfl,pR,tR⟩:=hb;have e1:IW.toArray.size=xs.length:=by rw[bW,tL.len]
   have e2:IX.toArray.size=ys.length:=by rw[bW,tR.len]
   by_cases hl:xs.length=ys.length
   ·have sz:IW.toArray.size=IX.toArray.size:=by rw[e1,e2];exact hl
    have el:=λj (h1:j<IW.toArray.size) (h2:j<IX.toArray.size)=>uF xs ys A.in1 IW IX tL tR (by rw[tF];have hu:_+(jD _+1)<_:=hu;lia) j (by simpa using h1) (by simpa using h2)
    exact⟨pT (by rw[e1,kZ hl];rfl) (.lists pL pR sz fX el),kf (by rw[e1,kZ hl];rfl) (.lists pL pR sz fX el)⟩
   ·have sz:(IW.toArray.size != IX.toArray.size)=true:=by rw[e1,e2];simpa using hl
    exact⟨pT (kY hl).symm (.lists_lengths pL pR sz fX),kf (dm not (kY hl)).symm (.lists_lengths pL pR sz fX)⟩
theorem uF:∀(ps qs:List Tr) A (us zs:List Value),bN s ps us->bN s qs zs->A.units+jD ps<cLine ->
  ∀j h1 (h2:j<zs.length),SeqAt.EqAt A s us[j] zs[j] (pQ ps qs j)
 | [],qs,A,us,zs,b1,b2,hu=>λj h1 h2=>by
  simp only[bN]at b1;subst b1;cases h1
 | p::ps,qs,A,us,zs,b1,b2,hu=>λj h1 h2=>by
  simp only[bN]at b1;obtain⟨u,ur,rfl,c1,d1⟩:=b1;cases qs with
  | nil =>
   simp only[bN]at b2;subst b2;cases h2
  | cons q qs =>
   simp only[bN]at b2;obtain⟨z,zr,rfl,c2,d2⟩:=b2;have hm:A.units+dep p<cLine/\A.units+jD ps<cLine:=by
    simp only[jD]at hu
    lia
   cases j with
   | zero =>
    refine AG c1.K4 (uE p q A _ _ c1 c2 hm.1).1 λe=>?_
    simp only[List.getElem_cons_zero]at e;rw[e]at c1;rw[c1.inj c2];exact gI q
   | succ j=>exact uF ps qs A _ _ d1 d2 hm.2 j (by simpa using h1) (by simpa using h2)
end
def Nu(b1:cS s p u)(b2:cS s q w)(hu:A.units+dep p<cLine):SeqAt.EqAt A s u w (eqT p q):=by
 refine AG b1.K4 (uE p q A _ _ b1 b2 hu).1 λz=>?_
 rw[z]at b1;rw[b1.inj b2];exact gI q
end
noncomputable def dg{α β:Type}(f:α->Option β):List α->Option (List β)
 | []=>some []
 | x::xs=>(f x).bind λy=>(dg f xs).map λys=>y::ys
noncomputable def Hr:Kd->List Tr->Option Tr
 | .aq,ts=>some (.aq ts)
 | .lst,ts=>some (.lst ts)
 | _,_=>none
def toT(h:List aj):Nat->PV->Option Tr
 | 0,_=>none
 | n+1,p=>match p with
  | .aL=>some .aL
  | .bl b=>some (.bl b)
  | .int i=>some (.int i)
  | .str x=>some (.str x)
  | .fn _=>none
  | p=>(cE h p).bind λq=>(dg (toT h n) q.2).bind (Hr q.1)
def eK(h:dg f (x::xs)=some ys):∃y r,f x=some y/\dg f xs=some r/\ys=y::r:=by
 obtain⟨y,h1,h2⟩:=aK h;obtain⟨r,h3,h4⟩:=aM h2;exact⟨y,r,h1,h3,h4.symm⟩
theorem uG(h:List aj):∀(n:Nat) (p:PV) (t:Tr),toT h n p=some t->dep t<=n
 | 0,_,_,e=>by cases e
 | n+1,p,t,e=>by
  have go:((cE h p).bind λq=>(dg (toT h n) q.2).bind (Hr q.1))=some t->dep t<=n+1:=λe=>by
   obtain⟨q,_,e⟩:=aK e;obtain⟨ts,e1,e2⟩:=aK e;have hd:∀ps ts,dg (toT h n) ps=some ts->jD ts<=n:=by
    intro ps;induction ps with
    | nil=>intro ts z;cases z;simp[jD]
    | cons p ps ih =>
     intro ts z;obtain⟨y,r,h1,h2,rfl⟩:=eK z;have:=uG h n p y h1;have:=ih r h2;simp only[jD];lia
   have:=hd _ _ e1;unfold Hr at e2;split at e2<;>cases e2<;>simp only[dep]<;>lia
  unfold toT at e;split at e<;>first | (cases e;simp[dep];done) | (cases e;done) | exact go e
section
variable {X:Cx} {ah:List (Addr×Obj)} {σ τ:St} {s:Shared} {af H:Hp} {ag F:Fz} {st:bP}
theorem Rep.tree(R:Rep X.K af ag F st τ H)(I:Inv X ah σ H s):∀(n:Nat) (p:PV) (t:Tr) (v:V) (u:Value),toT st.h n p=some t->aU X.K F p v->RelV v u->cS s t u
 | 0,_,_,_,_,e,_,_=>by cases e
 | n+1,p,t,v,u,e,b,r=>by
  have go:((cE st.h p).bind λq=>(dg (toT st.h n) q.2).bind (Hr q.1))=some t->cS s t u:=λe=>by
   obtain⟨⟨k,ps⟩,e0,e⟩:=aK e;obtain⟨ts,e1,e2⟩:=aK e;obtain⟨a,vs,rfl,h2,h3⟩:=R.at e0 b;have hd:∀ps ts vs us,dg (toT st.h n) ps=some ts->ax X.K F ps vs->Vals vs us->bN s ts us:=by
    intro ps;induction ps with
    | nil=>intro ts vs us z b r;cases z;rw[b.b7]at r;cases r;simp[bN]
    | cons p ps ih =>
     intro ts vs us z b r;obtain⟨y,q,h1,h2,rfl⟩:=eK z;obtain⟨v,w,rfl,b1,b2⟩:=b.bM;cases r with
     | cons ra rr =>
      simp only[bN];exact⟨_,_,rfl,R.tree I n p y v _ h1 b1 ra,ih q w _ h2 b2 rr⟩
   cases r
   match k,e2,h2 with
   | .aq,e2,h2 =>
    cases e2;obtain⟨aw,rr,pl,_⟩:=I.tuple h2.2;simp only[cS];exact⟨a,aw,rfl,pl,hd _ _ _ _ e1 h3 rr⟩
   | .lst,e2,h2 =>
    cases e2;obtain⟨aw,rr,pl,_⟩:=I.list (gZ.sq h2);simp only[cS];exact⟨a,aw,rfl,pl.isList,hd _ _ _ _ e1 h3 rr⟩
  unfold toT at e;split at e
  ·cases e;rw[cG.mp b]at r;cases r;simp[cS]
  ·cases e;rw[aX.mp b]at r;cases r;simp[cS]
  ·cases e;rw[aD.mp b]at r;obtain⟨t,rfl⟩:=r;simp[cS]
  ·cases e;rw[bE.mp b]at r;obtain⟨t,rfl⟩:=r;simp[cS]
  ·cases e
  ·exact go e
end
def gB:Nat:=1000
def RU(h:List aj)(p q:PV):Option Bool:=(toT h gB p).bind λx=>(toT h gB q).map λy=>eqT x y
def mr:G2:=λh p q=>(RU h p q).map .bl
def Ht:G2:=λh p q=>(RU h p q).map λb=>.bl !b
noncomputable def wc:PV->Bool
 | .aL=>true
 | _=>false
noncomputable def WG(b:Bool):PV->Option Bool
 | .bl a=>some (a==b)
 | _=>none
def we(h:WG b p=some c):∃a,p=.bl a/\c=(a==b):=by
 cases p<;>cases h
 exact⟨_,rfl,rfl⟩
def Vb:G2:=λ_ p q=>match q with | .aL=>some (.bl (wc p)) | .bl b=>(WG b p).map .bl | _=>none
def WH(h:List aj)(p:PV)(ps:List PV):Option Bool:=(toT h gB p).bind λx=>(dg (toT h gB) ps).map λys=>ys.any λy=>eqT y x
section
variable {X:Cx}
def wj(e:RU h p q=some b):∃x y,toT h gB p=some x/\toT h gB q=some y/\b=eqT x y:=by
 obtain⟨x,e1,e⟩:=aK e;obtain⟨y,e2,e3⟩:=aM e;exact⟨x,y,e1,e2,e3.symm⟩
def Nv(hu:X.A.units+1150<cLine):nP X (compareOp .Eq) mr:=by
 rintro ah s σ H x y v u Q I rx ry ⟨af,ag,F,st,τ,pa,pb,p,e,R,ba,bb,k⟩
 obtain⟨b,e',rfl⟩:=aM e;obtain⟨ta,tb,e1,e2,rfl⟩:=wj e';have hd:=uG _ _ _ _ e1;exact(uE ta tb X.A v u (R.tree I _ _ _ _ _ e1 ba rx) (R.tree I _ _ _ _ _ e2 bb ry) (by unfold gB at hd;lia)).1 X.prog X.w X.xe _ ⟨.bl _,H,I,rfl,k _ H F R (Gr.refl F) (aX.mpr rfl)⟩
def Nw(hu:X.A.units+1150<cLine):nP X (compareOp .NotEq) Ht:=by
 rintro ah s σ H x y v u Q I rx ry ⟨af,ag,F,st,τ,pa,pb,p,e,R,ba,bb,k⟩
 obtain⟨b,e',rfl⟩:=aM e;obtain⟨ta,tb,e1,e2,rfl⟩:=wj e';have hd:=uG _ _ _ _ e1;exact(uE ta tb X.A v u (R.tree I _ _ _ _ _ e1 ba rx) (R.tree I _ _ _ _ _ e2 bb ry) (by unfold gB at hd;lia)).2 X.prog X.w X.xe _ ⟨.bl _,H,I,rfl,k _ H F R (Gr.refl F) (aX.mpr rfl)⟩
def AH{K:W.Frag}(b:aU K F p x):decide (x=.aL)=wc p:=by
 cases p with
 | aL=>rw[cG.mp b];rfl
 | bl _=>rw[aX.mp b];rfl
 | int _=>rw[aD.mp b];rfl
 | str _=>rw[bE.mp b];rfl
 | ref _=>obtain⟨_,_,rfl⟩:=cR.mp b;rfl
 | fn _=>obtain⟨_,rfl,_⟩:=pF.mp b;rfl
 | nd _ _=>obtain⟨_,_,rfl,_⟩:=g7.mp b;rfl
def Nx:nP X (compareOp .Is) Vb:=by
 rintro ah s σ H x y v u Q I rx ry ⟨af,ag,F,st,τ,pa,pb,p,e,R,ba,bb,k⟩
 unfold Vb at e;split at e
 ·cases e;exact MN ah s σ H x y v u Q I rx ry ⟨cG.mp bb,k _ H F R (Gr.refl F) (aX.mpr (by rw[AH ba]))⟩
 ·rename_i b;obtain⟨c,e1,rfl⟩:=aM e;obtain⟨a,rfl,rfl⟩:=we e1;rw[aX.mp ba]at rx;rw[aX.mp bb]at ry;cases rx;cases ry;exact wpAny_is_plain rfl ⟨.bl _,H,I,(by cases a<;>cases b<;>rfl),k _ H F R (Gr.refl F) (aX.mpr rfl)⟩
 ·cases e
open Classical in
noncomputable def k0 (s:Shared) (p:Tr) (u:Value):Bool:=if h:∃q,cS s q u then eqT h.choose p else false
def AI(b:cS s q u):k0 s p u=eqT q p:=by
 have h:∃q,cS s q u:=⟨q,b⟩
 unfold k0;rw[dif_pos h,cS.inj h.choose_spec b]
theorem uH:∀{ts:List Tr} {us:List Value},bN s ts us->us.any (k0 s p)=ts.any λy=>eqT y p
 | [],_,b=>by simp only[bN]at b;subst b;rfl
 | q::ts,_,b=>by
  simp only[bN]at b;obtain⟨u,r,rfl,c1,d1⟩:=b;rw[l5,l5,AI c1,uH d1]
theorem uI(bp:cS s p w):∀{ts:List Tr} {us:List Value},bN s ts us->A.units+jD ts<cLine->∀u∈us,SeqAt.EqAt A s u w (k0 s p u)
 | [],_,b,_=>λu hu=>by simp only[bN]at b;subst b;cases hu
 | q::ts,_,b,hz=>λu hu=>by
  simp only[bN]at b;obtain⟨u',r,rfl,c1,d1⟩:=b;simp only[jD]at hz;rcases aW.mp hu with rfl | hu
  ·rw[AI c1];exact Nu c1 bp (by lia)
  ·exact uI bp d1 (by lia) u hu
theorem Rep.trees{st:bP}(R:Rep X.K af ag F st τ H)(I:Inv X ah σ H s)(n:Nat):∀(ps:List PV) (ts:List Tr) (vs:List V) (us:List Value),dg (toT st.h n) ps=some ts->ax X.K F ps vs->Vals vs us->bN s ts us/\jD ts<=n
 | [],ts,vs,us,z,b,r=>by cases z;rw[b.b7]at r;cases r;simp[bN,jD]
 | p::ps,ts,vs,us,z,b,r=>by
  obtain⟨y,q,h1,h2,rfl⟩:=eK z;obtain⟨v,w,rfl,b1,b2⟩:=b.bM;cases r with
  | cons ra rr =>
   obtain⟨h3,h4⟩:=R.trees I n ps q w _ h2 b2 rr;have:=uG _ _ _ _ h1;simp only[jD];exact⟨⟨_,_,rfl,R.tree I n p y v _ h1 b1 ra,h3⟩,by lia⟩
def EF(e:WH h p ps=some b):∃x ys,toT h gB p=some x/\dg (toT h gB) ps=some ys/\b=ys.any λy=>eqT y x:=by
 obtain⟨x,e1,e⟩:=aK e;obtain⟨y,e2,e3⟩:=aM e;exact⟨x,y,e1,e2,e3.symm⟩
def EG(hu:X.A.units+1150<cLine){st:bP}(I:Inv X ah σ H s)(rx:RelV x v)(ry:RelV y u)(R:Rep X.K af ag F st τ H)(ba:aU X.K F pa x)(bb:aU X.K F pb y)
  (es:EA st.h pb=some ps) (eb:WH st.h pa ps=some b) :
  (Q (.bl b) H->wpAny (model X.prog X.w) X.A (compareOp .In v u) (EP X ah σ Q) X.xe s)/\(Q (.bl !b) H->wpAny (model X.prog X.w) X.A (compareOp .NotIn v u) (EP X ah σ Q) X.xe s):=by
 obtain⟨t,ts,e1,e2,rfl⟩:=EF eb;obtain⟨a,vs,rfl,hs,hb⟩:=R.seq es bb;have tp:=R.tree I _ _ _ _ _ e1 ba rx;cases ry;rcases hs with hs | hs
 ·obtain⟨aw,r,pl,_⟩:=I.tuple hs;obtain⟨h1,h2⟩:=R.trees I _ _ _ _ _ e2 hb r;have ml:=λw (hw:w∈aw.toArray)=>uI (A:=X.A.in1) tp h1 (by rw[tF];unfold gB at h2;lia) w (by grind)
  have ea:aw.toArray.any (k0 s t)=ts.any λy=>eqT y t:=by rw[show aw.toArray.any (k0 s t)=aw.any (k0 s t) by simp,uH h1]
  exact⟨λq=>SeqAt.in_tupleAt (k0 s t) pl ml ⟨.bl _,H,I,rfl,by grind⟩,λq=>SeqAt.notIn_tupleAt (k0 s t) pl ml ⟨.bl _,H,I,rfl,by grind⟩⟩
 ·obtain⟨aw,r,pl,_⟩:=I.list hs.sq;obtain⟨h1,h2⟩:=R.trees I _ _ _ _ _ e2 hb r;have ml:=λw (hw:w∈aw.toArray)=>uI (A:=X.A.in1) tp h1 (by rw[tF];unfold gB at h2;lia) w (by grind)
  have ea:aw.toArray.any (k0 s t)=ts.any λy=>eqT y t:=by rw[show aw.toArray.any (k0 s t)=aw.any (k0 s t) by simp,uH h1]
  exact⟨λq=>SeqAt.in_listAt (k0 s t) pl.isList ml ⟨.bl _,H,I,rfl,by grind⟩,λq=>SeqAt.notIn_listAt (k0 s t) pl.isList ml ⟨.bl _,H,I,rfl,by grind⟩⟩
end
section
variable {K:W.Frag} {F:Fz}
def ax.qP{ps:List PV}{vs:List V}{i:Int}{p:PV}(h:ax K F ps vs)(e:L2.qP ps i=some p):∃v,L2.qP vs i=some v/\aU K F p v:=by
 unfold L2.qP at e ⊢;rw[<-h.length];cases z:B9 ps.length i with
 | none=>rw[z]at e;cases e
 | some j =>
  rw[z]at e;exact h.get e
def iC(xs:List PV)(lo hi:Option Int):List PV:=(xs.drop (HT.dF xs.length 0 lo)).take (HT.dF xs.length xs.length hi-HT.dF xs.length 0 lo)
def ax.K5{ps:List PV}{vs:List V}(h:ax K F ps vs)(lo hi:Option Int):ax K F (iC ps lo hi) (vX vs lo hi):=by
 unfold iC vX;rw[h.length];exact(h.drop _).take _
def dv{p:PV}{vs:List V}(b:ax K F [p] vs):∃v,vs=[v]/\aU K F p v:=by
 obtain⟨v,r,rfl,c,d⟩:=b.bM;rw[d.b7];exact⟨v,rfl,c⟩
def AJ{p q:PV}{vs:List V}(b:ax K F [p,q] vs):∃v w,vs=[v,w]/\aU K F p v/\aU K F q w:=by
 obtain⟨v,r,rfl,c,d⟩:=b.bM;obtain⟨w,rfl,e⟩:=dv d;exact⟨v,w,rfl,c,e⟩
end
def k9{prog:Program}{w:World}{A:Around}{E:Value->Shared->Prop}{s:Shared}{t sl:Addr}{aw:Array Value}{vl vu:Value}{lo hi:Option Int}{Q:Value->Shared->Prop}(ht:IsTup s.heap t aw)(hs:s.heap.IsSliceOf sl vl vu .none)(pl:IsPart vl lo)(pu:IsPart vu hi)
  (h0:HT.dF aw.size 0 lo=0) (h1:HT.dF aw.size aw.size hi=aw.size) (h:Q (.ref t) s):wpAny (model prog w) A (getItem (.ref t) (.ref sl)) Q E s:=by
 obtain⟨os,Hm,U5,Rf⟩:=id hs;have hT:s.TypeIs (.ref sl) "slice":=⟨os,Hm,U5⟩;unfold getItem
 try with_reducible refine dB ?_
 first | refine ai (ak ?_) | skip
 refine ai (wpAny_sequenceKey ht.typeIs (by decide) ?_)
 refine ai (fq ht.typeIs lO (eE lO ht.typeIs entry_tuple_getitem ?_ (args_tuple_getitem _ _)));show wpAny _ _ (Builtin.Tuple.tupleItemsOf (.ref t) >>= _) _ _ s;refine ai (tupleItemsOf_ ht (ai (l7 hT ?_)));refine ai (HT.gG hs pl pu ?_);have hc:(((HT.dF aw.size 0 lo:Nat):Int)==0&&(1:Int)==1&&(HT.dF aw.size aw.size hi-HT.dF aw.size 0 lo)==aw.size)=true:=by
  rw[h0,h1];simp
 show wpAny _ _ (if(((HT.dF aw.size 0 lo:Nat):Int)==0&&1==1&&(HT.dF aw.size aw.size hi-HT.dF aw.size 0 lo)==aw.size)=true then _ else _) _ _ s
 rw[if_pos hc];unfold Builtin.Tuple.tupleIsExact;refine ai (ai (l7 ht.typeIs (ak ?_)));exact ai (gW (ak ⟨_,rfl,ak h⟩))
def Ck(h:List aj)(lo hi:Option Int)(p:PV):Option PV:=match cE h p with
 | some (.lst,ps)=>some (.lst (iC ps lo hi))
 | some (.aq,ps)=>some (.aq (iC ps lo hi))
 | _=>none
section
variable {X:Cx} {af:Hp} {ag:Fz} {a b e:Expr} {es:List Expr} {fa fb:Gx PV} {ts:Gx (List PV)} {pos p1 p2:Pos} {lo hi:Option Expr}
def rSl(K:W.Frag):V->Option Int->Option Int->Hp->VK->Prop:=λx lo hi H Q=>∃af ag F st τ pa p,Ck st.h lo hi pa=some p/\Rep K af ag F st τ H/\aU K F pa x/\∀v H' F',Rep K af ag F' st τ H'->Gr F F'->aU K F' p v->Q v H'
def slT:U6 X (rSl X.K):=by
 rintro ah s σ H x v vl vu lo hi sl Q I rx hs pl pu ⟨af,ag,F,st,τ,pa,p,e,R,ba,k⟩
 unfold Ck at e;split at e
 ·rename_i z;cases e;obtain⟨a,vs,rfl,ha,fK⟩:=R.at z ba;refine ID ah s σ H _ v vl vu lo hi sl Q I rx hs pl pu ⟨a,vs,rfl,gZ.sq ha,λq hq=>?_⟩
  obtain⟨R2,s2⟩:=R.laid (.lst (vX vs lo hi)) hq;exact k _ _ _ R2 s2 (cZ.mpr ⟨q,_,rfl,gZ.of aA,(fK.K5 lo hi).mono s2⟩)
 ·rename_i ps z;cases e;cases pa with
  | nd kk pp =>
   cases z;obtain⟨a,vs,rfl,ha,fK⟩:=bF.mp ba;by_cases hw:HT.dF vs.length 0 lo=0/\HT.dF vs.length vs.length hi=vs.length
   ·cases rx;obtain⟨aw,r,ht,hz⟩:=I.tuple (cC R.sub ha);have d8:aw.toArray.size=vs.length:=by rw[bW];exact r.length.symm
    refine⟨"tuple",_,lO.lookup,ht.typeIs,?_⟩;refine k9 ht hs pl pu (by grind) (by grind) ⟨.ref a,H,I,rfl,k _ H F R (Gr.refl F) ?_⟩
    have hc:iC ps lo hi=ps:=by
     unfold iC;rw[fK.length,hw.1,hw.2,List.drop_zero,Nat.sub_zero,<-fK.length,List.take_length]
    rw[hc];exact ba
   ·refine MY ah s σ H _ v vl vu lo hi sl Q I rx hs pl pu ⟨a,vs,rfl,cC R.sub ha,hw,λq hq=>?_⟩
    obtain⟨R2,s2⟩:=R.laid (.aq (vX vs lo hi)) hq;exact k _ _ _ R2 s2 (bF.mpr ⟨q,_,rfl,gY.of aA,(fK.K5 lo hi).mono s2⟩)
  | ref n =>
   obtain⟨c,e1,e2⟩:=aK z;obtain⟨hl,e3⟩:=aC e2;have hk:c.k=.aq:=by grind
   unfold live at hl;rw[hk]at hl;cases hl
  | _=>cases z
 ·cases e
abbrev IY(X:Cx)(af:Hp)(ag:Fz)(f:Gx (Option Int)):TO:=tX X af ag (λ_ a b=>a=b) f
def _root_.L2.PO.imp{X:Cx}{e:Option Expr}{t t':TO}(h:PO X e t)(hi:∀σ H Q,t' σ H Q->t σ H Q):PO X e t':=λah s σ H Q I hw=>h ah s σ H Q I (hi _ _ _ hw)
noncomputable def mx:PV->Option Int | .int i=>some i | _=>none
def eL{p:PV}{i:Int}(h:mx p=some i):p=.int i:=by
 cases p<;>first | (cases h;rfl) | cases h
def EH(fe:Gx PV):Gx (Option Int):=bnd fe λp=>iB ((mx p).map some)
def Ny:PO X none (IY X af ag (cf none)):=Iy.imp λσ H Q h=>uC h λ_=>rfl
def Nz(h:PE X e (tE X af ag fa)):PO X (some e) (IY X af ag (EH fa)):=(Iz h).imp λσ H Q ⟨F,st,R,h⟩=>⟨F,st,R,h.bnd λp v F1 st1 H1 R1 g1 b1 h1=>by
 obtain⟨o,e,z⟩:=h1.iB;obtain⟨i,e1,rfl⟩:=aM e;rw[eL e1]at b1;exact⟨i,aD.mp b1,z _ H1 F1 R1 (Gr.refl _) rfl⟩⟩
def cutE(fa:Gx PV)(fl fh:Gx (Option Int)):Gx PV:=bnd fa λp=>bnd fl λl=>bnd fh λr=>hp λh=>Ck h l r p
def RV{fl fh:Gx (Option Int)}(ha:PE X e (tE X af ag fa))(hl:PO X lo (IY X af ag fl))(hh:PO X hi (IY X af ag fh)):PE X (.Subscript e (.Slice lo hi none p2) pos) (tE X af ag (cutE fa fl fh)):=(En slT ha hl hh).imp λσ H Q ⟨F,st,R,h⟩ =>
 ⟨F,st,R,h.bnd λp v F1 st1 H1 R1 g1 b1 h1=>⟨F1,st1,R1,h1.bnd λl l' F2 dh H2 R2 g2 b2 h2=>⟨F2,dh,R2,h2.bnd λr r' F3 vB H3 R3 g3 b3 h3=>by
  cases b2;cases b3;obtain⟨o,e,z⟩:=h3.hp;exact⟨af,ag,F3,vB,σ,p,o,e,R3,b1.mono (g2.trans g3),z⟩⟩⟩⟩
abbrev GC:=List aj->List PV->Option PV
def rC(K:W.Frag)(g:GC):List V->Hp->VK->Prop:=λxs H Q=>∃af ag F st τ ps p,g st.h ps=some p/\Rep K af ag F st τ H/\ax K F ps xs/\∀v H' F',Rep K af ag F' st τ H'->Gr F F'->aU K F' p v->Q v H'
abbrev EI(X:Cx)(f:Value)(g:GC):Prop:=jI X f (rC X.K g)
def IZ(g:GC)(ts:Gx (List PV)):Gx PV:=bnd ts λps=>hp λh=>g h ps
def la{g:GC}{σ:St}{H:Hp}{Q:VK}(h:tE X af ag (IZ g ts) σ H Q):Wk (rC X.K g) (tA X af ag ts) σ H Q:=by
 obtain⟨F,st,R,h⟩:=h;refine⟨F,st,R,h.bnd λps vs F1 st1 H1 R1 g1 b1 h1=>?_⟩
 obtain⟨o,e,z⟩:=h1.hp;exact⟨af,ag,F1,st1,σ,ps,o,e,R1,b1,z⟩
def RW(h:List aj)(p:PV):Option Nat:=match cE h p with
 | some (.aq,ps)=>some ps.length
 | some (.lst,ps)=>some ps.length
 | some (.dt _ ks,_)=>some ks.length
 | _=>none
def j8:GC:=λh ps=>match ps with
 | [.str z]=>if z.length<=gF then some (.int z.length)else none
 | [p]=>(RW h p).map λn=>.int n
 | _=>none
def Cm:GC:=λh ps=>match ps with
 | [.nd .aq qs]=>some (.aq qs)
 | [p]=>(ny h p).map λqs=>.aq qs
 | _=>none
noncomputable def EJ:GC:=λ_ ps=>match ps with
 | [.int i]=>some (.int i)
 | [.bl b]=>some (.int (if b then 1 else 0))
 | _=>none
noncomputable def I0:GC:=λ_ ps=>match ps with
 | [.int i]=>if 0<=i/\i<1000 then some (.str (toString i))else none
 | _=>none
def EK(ps:List PV):Option (List Int):=dg mx ps
def Ja:GC:=λh ps=>match ps with
 | [p]=>(ny h p).bind λqs=>(EK qs).map λns=>.int ns.sum
 | _=>none
def wm{A:Around}{E:Value->Shared->Prop}{s:Shared}{d:Addr}{o:Obj}{es:Array DictEntry}{ep n:Nat}{Q:Value->Shared->Prop}(hd:(d==sysModules)=false)(ho:s.heap.get? d=some o)(hc:o.ExactDict)(zb:o.data=.dict es ep)(hn:es.size=n)(RX:(n:Int)<2^63)
  (h:Q (.int n (s.toks+1)) {s with toks:=s.toks+1+1}):wpAny (model X.prog X.w) A (call (.builtin "len") [.ref d]) Q E s:=by
 have ty:s.TypeIs (.ref d) "dict":=⟨o,ho,hc.1⟩;have hm:MeetsIn X.prog X.w (Builtin.«dict.__len__» ⟨[.ref d],[]⟩) (λ_ R s'=>s'.heap.get? d=some o/\R (.ok (.ret (.int n s'.toks))) {s' with toks:=s'.toks+1}):=.of_wp <| by
  rintro A R s' ⟨lM,hR⟩
  show wpAny _ _ (dictSize d >>= _) _ _ s';refine ai (ai (wpAny_dictEntries lM zb (ak ?_)));refine ai (wpAny_pendingCount_other hd ?_);refine wpAny_ret_mkInt ?_;rw[fP,hn];exact hR
 refine Calls.call_function_entry kind_len plain_len entry_len (args_len1 _) ?_;refine ai (ak ?_);refine ai (fq ty F.slot_dict_len (call_meetsIn F.slot_dict_len ty F.entry_dict_len (F.args_dict_len_1 _) hm ⟨ho,?_⟩));show wpAny _ _ _ _ _ {s with toks:=s.toks+1}
 refine ai (dB (ak ?_));refine ai (oP ?_);show wpAny _ _ (if((n:Nat):Int)>=2^63 then _ else _) _ _ _
 rw[if_neg (by lia)]
 exact ai (wpAny_mkInt (ak ⟨_,rfl,h⟩))
def AK{n:Nat}(h:n<=sizeLine):(n:Int)<2^63:=by
 have h1:n<=2^62:=aJ h (by decide)
 have h62:2^62=4611686018427387904:=by decide
 lia
def Jb{ah:List (Addr×Obj)}{s:Shared}{σ:St}{H:Hp}{a:Addr}{t:Bool}{ks:List (bG×List bG)}{vs:List V}{us:List Value}{Q:VK}{F:Hp}(I:Inv X ah σ H s)(rs:Vals [V.ref a] us)(h:j4 X.K F H a false (.dt t ks) vs)(q:Q (.int ks.length) H):wpAny (model X.prog X.w) X.A (call (.builtin "len") us) (λu s'=>∃v H',Inv X ah σ H' s'/\RelV v u/\Q v H') X.xe s:=by
 obtain⟨u,rfl,ru⟩:=iY rs;cases ru;cases t with
 | false =>
  obtain⟨kvs,h1,h2,h3⟩:=h;obtain⟨z,y,ws,hk,o,es,ep,g1,g2,g3,g4,g5,g6⟩:=(I.hok a _ h1);have hl:ks.length=kvs.length:=by grind
  have hn:es.size=ks.length:=by rw[hl,l4 hk,<-g5.length,lR]
  exact wm y g1 g2 g3 hn (AK (by grind)) ⟨.int ks.length,H,I.tok _,⟨_,rfl⟩,q⟩
 | true =>
  obtain⟨xs,h1,_,h2,_⟩:=h;obtain⟨z,y,o,es,ep,g1,g2,g3,g4,g5⟩:=(I.hok a _ h1);have hl:ks.length=xs.length:=by grind
  exact wm y g1 g2 g3 (by rw[<-lR,g4,aQ,hl]) (AK (by grind)) ⟨.int ks.length,H,I.tok _,⟨_,rfl⟩,q⟩
def Cn:EI X (.builtin "len") j8:=by
 rintro ah s σ H xs us Q I rs ⟨af,ag,F,st,τ,ps,p,e,R,bs,k⟩
 unfold j8 at e;split at e
 ·obtain⟨hz,rfl⟩:=aC e;obtain⟨v,rfl,b⟩:=dv bs;rw[bE.mp b]at rs;exact uy ah s σ H _ us Q I rs ⟨_,rfl,dD hz,k _ H F R (Gr.refl F) (aD.mpr rfl)⟩
 ·obtain⟨n,e1,rfl⟩:=aM e;obtain⟨v,rfl,b⟩:=dv bs;unfold RW at e1;split at e1
  ·rename_i z;cases e1;obtain⟨a,vs,rfl,ha,fK⟩:=R.at z b;exact kO ah s σ H _ us Q I rs ⟨a,vs,rfl,.inr ha.2,k _ H F R (Gr.refl F) (aD.mpr (by rw[fK.length]))⟩
  ·rename_i z;cases e1;obtain⟨a,vs,rfl,ha,fK⟩:=R.at z b;exact kO ah s σ H _ us Q I rs ⟨a,vs,rfl,.inl (gZ.sq ha),k _ H F R (Gr.refl F) (aD.mpr (by rw[fK.length]))⟩
  ·rename_i z;cases e1;obtain⟨a,vs,rfl,ha,fK⟩:=R.at z b;exact Jb I rs ha (k _ H F R (Gr.refl F) (aD.mpr rfl))
  ·cases e1
 ·cases e
def Co:EI X (.type "tuple") Cm:=by
 rintro ah s σ H xs us Q I rs ⟨af,ag,F,st,τ,ps,p,e,R,bs,k⟩
 unfold Cm at e;split at e
 ·cases e;obtain⟨v,rfl,b⟩:=dv bs;obtain⟨a,vs,rfl,ha,fK⟩:=bF.mp b;exact jJ ah s σ H _ us Q I rs ⟨a,vs,rfl,.inr ⟨cC R.sub ha,k _ H F R (Gr.refl F) b⟩⟩
 ·obtain⟨qs,e1,rfl⟩:=aM e;obtain⟨v,rfl,b⟩:=dv bs;obtain⟨a,vs,rfl,ha,fK⟩:=R.at (dS e1) b;refine jJ ah s σ H _ us Q I rs ⟨a,vs,rfl,.inl ⟨gZ.sq ha,λq hq=>?_⟩⟩
  obtain⟨R2,s2⟩:=R.laid (.aq vs) hq;exact k _ _ _ R2 s2 (bF.mpr ⟨q,_,rfl,gY.of aA,fK.mono s2⟩)
 ·cases e
def Cp:EI X (.type "int") EJ:=by
 rintro ah s σ H xs us Q I rs ⟨af,ag,F,st,τ,ps,p,e,R,bs,k⟩
 unfold EJ at e;split at e
 ·cases e;obtain⟨v,rfl,b⟩:=dv bs;rw[aD.mp b]at rs;exact rG ah s σ H _ us Q I rs (.inl ⟨_,rfl,k _ H F R (Gr.refl F) (aD.mpr rfl)⟩)
 ·cases e;obtain⟨v,rfl,b⟩:=dv bs;rw[aX.mp b]at rs;exact rG ah s σ H _ us Q I rs (.inr ⟨_,rfl,k _ H F R (Gr.refl F) (aD.mpr rfl)⟩)
 ·cases e
def Cq:EI X (.type "str") I0:=by
 rintro ah s σ H xs us Q I rs ⟨af,ag,F,st,τ,ps,p,e,R,bs,k⟩
 unfold I0 at e;split at e
 ·rename_i i;obtain⟨⟨h0,h1⟩,rfl⟩:=aC e;obtain⟨v,rfl,b⟩:=dv bs;rw[aD.mp b]at rs;exact uo ah s σ H _ us Q I rs ⟨i,rfl,(by
   by_cases h:i.natAbs=0
   ·simp_all
   ·exact oB (Nat.log2_le_self _) (by lia)),k _ H F R (Gr.refl F) (bE.mpr rfl)⟩
 ·cases e
theorem wo{K:W.Frag}{F:Fz}:∀{ps:List PV} {ns:List Int} {vs:List V},EK ps=some ns->ax K F ps vs->vs=ns.map V.int
 | [],ns,vs,h,b=>by cases h;exact b.b7
 | p::r,ns,vs,h,b=>by
  obtain⟨i,ms,h1,h2,rfl⟩:=eK h;obtain⟨v,vr,rfl,c,d⟩:=b.bM;rw[eL h1]at c;rw[aD.mp c,wo h2 d];rfl
def Jc{ah:List (Addr×Obj)}{σ:St}{H:Hp}{s:Shared}{F:Fz}(I:Inv X ah σ H s){a:Addr}{vs:List V}{ps:List PV}{ns:List Int}(hn:EK ps=some ns)(ha:gZ X.K H a vs)(fK:ax X.K F ps vs) :
  ∃xs:Array (Int×Tok),s.heap.IsList a (intItems xs)/\ns=xs.toList.map (·.1):=by
 obtain⟨aw,r,pl,_⟩:=I.list ha.sq;have ev:=wo hn fK;subst ev;have hi:=yZ r;obtain⟨xs,ex⟩:=hi.allInts.items;exact⟨xs,by rw[<-ex];exact pl.isList,by rw[<-hi.numsOf,<-nums_intItems,<-ex]⟩
def Cr(hc:X.A.handled=none):EI X (.builtin "sum") Ja:=by
 rintro ah s σ H xs us Q I rs ⟨af,ag,F,st,τ,ps,p,e,R,bs,k⟩
 unfold Ja at e;split at e
 ·obtain⟨qs,e1,e⟩:=aK e;obtain⟨ns,e2,rfl⟩:=aM e;obtain⟨v,rfl,b⟩:=dv bs;obtain⟨a,vs,rfl,ha,fK⟩:=R.at (dS e1) b;obtain⟨xs,hl,hn⟩:=Jc I e2 ha fK;obtain⟨u,rfl,ru⟩:=iY rs;cases ru;refine sum_intListG hc hl λh' tk t' hk=>⟨.int ns.sum,H,I.kept hk,⟨t',?_⟩,k _ H F R (Gr.refl F) (aD.mpr rfl)⟩
  rw[preSum_eq,xY (by simp),hn]
 ·cases e
inductive Ty where
 | int | str | bool | tuple | list
noncomputable def Ty.nm:Ty->String
 | .int=>"int" | .str=>"str" | .bool=>"bool" | .tuple=>"tuple" | .list=>"list"
def RY(h:List aj):PV->Option String
 | .aL=>some "NoneType"
 | .bl _=>some "bool"
 | .int _=>some "int"
 | .str _=>some "str"
 | p=>match cE h p with
  | some (.aq,_)=>some "tuple"
  | some (.lst,_)=>some "list"
  | _=>none
def NA(t:Ty)(y:String):Bool:=y==t.nm || (t.nm=="int"&&y=="bool")
def Vc(t:Ty)(fa:Gx PV):Gx PV:=bnd fa λp=>hp λh=>(RY h p).map λy=>.bl (NA t y)
def rIs(K:W.Frag)(t:Ty):List V->Hp->VK->Prop:=λxs H Q=>∃af ag F st τ p x y,xs=[x,.ty t.nm]/\Rep K af ag F st τ H/\aU K F p x/\RY st.h p=some y/\Q (.bl (NA t y)) H
def Jd(t:Ty):jI X (.builtin "isinstance") (rIs X.K t):=by
 rintro ah s σ H xs us Q I rs ⟨af,ag,F,st,τ,p,x,y,ex,R,b,ey,q⟩
 subst ex;obtain⟨u,w,rfl,ru,IC⟩:=Av rs;cases IC;have jr:∀tk,EP X ah σ Q (.bool (NA t y)) {s with toks:=tk}:=λtk=>⟨.bl _,H,I.tok tk,rfl,q⟩
 have more:(match cE st.h p with
  | some (.aq,_)=>some "tuple"
  | some (.lst,_)=>some "list"
  | _=>none)=some y->wpAny (model X.prog X.w) X.A (call (.builtin "isinstance") [u,.type t.nm]) (EP X ah σ Q) X.xe s:=λey=>by
  split at ey
  ·rename_i z;cases ey;obtain⟨a,vs,rfl,h2,h3⟩:=R.at z b;cases ru;obtain⟨aw,_,⟨o,h1,h2,_⟩,_⟩:=I.tuple h2.2;exact W.kia_one W.kitx_tuple I.mh ⟨o,h1,h2⟩ (by cases t<;>kernel_rfl) (λz=>nomatch z) jr
  ·rename_i z;cases ey;obtain⟨a,vs,rfl,h2,h3⟩:=R.at z b;cases ru;obtain⟨aw,n,_,h1,_⟩:=I.kW h2;exact W.kia_one W.kitx_list I.mh ⟨_,h1,rfl⟩ (by cases t<;>kernel_rfl) (λz=>nomatch z) jr
  ·cases ey
 cases p with
 | aL =>
  cases ey;rw[cG.mp b]at ru;cases ru;exact W.kia_one W.kitx_none I.mh True.intro (by cases t<;>kernel_rfl) (λz=>nomatch z) jr
 | bl y =>
  cases ey;rw[aX.mp b]at ru;cases ru;exact W.kia_one W.kitx_bool I.mh True.intro (by cases t<;>kernel_rfl) (λz=>nomatch z) jr
 | int i =>
  cases ey;rw[aD.mp b]at ru;obtain⟨tk,rfl⟩:=ru;exact W.kia_one W.kitx_int I.mh True.intro (by cases t<;>kernel_rfl) (λz=>nomatch z) jr
 | str y =>
  cases ey;rw[bE.mp b]at ru;obtain⟨tk,rfl⟩:=ru;exact W.kia_one W.kitx_str I.mh True.intro (by cases t<;>kernel_rfl) (λz=>nomatch z) jr
 | ref n=>exact more ey
 | fn x=>exact more ey
 | nd k ps=>exact more ey
def nA:bootBuiltins "isinstance"=some (.builtin "isinstance"):=by kernel_rfl
def ia(t:Ty):bootBuiltins (Str.ofString t.nm)=some (.type t.nm):=by cases t<;>kernel_rfl
noncomputable def tys:List Ty:=[.int,.str,.bool,.tuple,.list]
def AL(x:Str):Option Ty:=tys.find? λt=>x==Str.ofString t.nm
def EL{x:Str}{t:Ty}(h:AL x=some t):x=Str.ofString t.nm:=by
 have:=List.find?_some h;exact aR this
def WI{x:Str}{t:Ty}(ht:AL x=some t)(hg:Gl X "isinstance")(hm:X.mg "isinstance"=none)(hg2:Gl X x)(hm2:X.mg x=none)(ha:PE X a (tE X af ag fa))(hs:∀es,starEach (a::es) X.env=(false,eval a X.env)::starEach es X.env) :
  PE X (.Call (.Name "isinstance" p1) [a,.Name x p2] [] pos) (tE X af ag (Vc t fa)):=by
 have hx:=EL ht;subst hx;refine(pw (Jd t) hg hm nA (gq ha (gq (HU (v:=.ty t.nm) hg2 hm2 (ia t) rfl (by cases t<;>decide) (by cases t<;>decide)) pq rfl) (hs _)) (by decide) (by decide) (hs _)).imp λσ H Q ⟨F,st,R,h⟩=>?_
 refine⟨F,st,R,h.bnd λp v F1 st1 H1 R1 g1 b1 h1=>?_⟩
 obtain⟨o,e,z⟩:=h1.hp;obtain⟨y,e1,rfl⟩:=aM e;exact⟨af,ag,F1,st1,σ,p,v,y,rfl,R1,b1,e1,z _ H1 F1 R1 (Gr.refl _) (aX.mpr rfl)⟩
def NB(fa:Gx PV):Gx PV:=bnd fa λp=>iB ((mx p).map λi=>.int (-i))
def RZ(ha:PE X a (tE X af ag fa)):PE X (.UnaryOp .USub a pos) (tE X af ag (NB fa)):=(QW MM ha).imp λσ H Q ⟨F,st,R,h⟩=>⟨F,st,R,h.bnd λp v F1 st1 H1 R1 g1 b1 h1=>by
 obtain⟨o,e,z⟩:=h1.iB;obtain⟨i,e1,rfl⟩:=aM e;rw[eL e1]at b1;exact⟨i,aD.mp b1,z _ H1 F1 R1 (Gr.refl _) (aD.mpr rfl)⟩⟩
end
noncomputable def wq(a m:Int)(n:Nat):List Nat:=sliceRange (sliceBounds (some a) none (some m) n).1 (sliceBounds (some a) none (some m) n).2.1 (sliceBounds (some a) none (some m) n).2.2
def wt{α:Type}(a m:Int)(ps:List α):List α:=(wq a m ps.length).filterMap (ps[·]?)
def R6(p:PV)(l m:Option Int):Option PV:=match p,l,m with
 | .nd .lst ps,some a,some b=>if(b != 0&&decide ((wq a b ps.length).length<=gF))=true then some (.lst (wt a b ps))else none
 | _,_,_=>none
def NC(fa:Gx PV)(fl fm:Gx (Option Int)):Gx PV:=bnd fa λp=>bnd fl λl=>bnd fm λm=>iB (R6 p l m)
theorem my{xs:List V}{us:List Value}(r:Vals xs us):∀is:List Nat,Vals (is.filterMap (xs[·]?)) (is.filterMap (us[·]?))
 | []=>.nil
 | i::is=>by
  cases h:xs[i]? with
  | none =>
   rw[sY h,sY (r.none_of h)];exact my r is
  | some x =>
   obtain⟨u,h1,h2⟩:=r.get h;rw[sZ h,sZ h1];exact .cons h2 (my r is)
theorem mz{K:W.Frag}{F:Fz}{ps:List PV}{vs:List V}(r:ax K F ps vs):∀is:List Nat,ax K F (is.filterMap (ps[·]?)) (is.filterMap (vs[·]?))
 | []=>.nil
 | i::is=>by
  cases h:ps[i]? with
  | none =>
   have h2:vs[i]?=none:=by
    have:=r.length;have:=gy.mp h;exact gy.mpr (by lia)
   rw[sY h,sY h2];exact mz r is
  | some p =>
   obtain⟨v,h1,h2⟩:=r.get h;rw[sZ h,sZ h1];exact .cons h2 (mz r is)
section
variable {X:Cx} {af:Hp} {ag:Fz} {e:Expr} {fa:Gx PV} {pos p2:Pos} {lo:Option Expr} {hi:Expr}
def rSp(K:W.Frag):V->Option Int->Option Int->Hp->VK->Prop:=λx l m H Q=>∃c a b vs,x=.ref c/\l=some a/\m=some b/\gZ K H c vs/\b≠0/\(wq a b vs.length).length<=gF/\∀q,H q=none->Q (.ref q) (cy H q (.lst (wt a b vs)))
def NF{te:TE}{tl th:TO}(he:PE X e te)(hl:PO X lo tl)(hu:PO X (some hi) th):PE X (.Subscript e (.Slice lo none (some hi) p2) pos) (Y0 (rSp X.K) te tl th):=by
 intro ah s σ H Q I h;refine Subscript_ (thn (he ah s σ H _ I h) λv s1 ⟨x,H1,I1,r1,q1⟩=>?_)
 refine wpAny_Slice (thn (hl ah s1 σ H1 _ I1 q1) λvl s2 ⟨l,H2,I2,pl,q2⟩=>?_)
 rw[evalPart_none];refine ak ?_;refine thn (hu ah s2 σ H2 _ I2 q2) λvu s3 ⟨u,H3,I3,pu,q3⟩=>?_
 have I4:Inv X ah σ H3 {s3 with heap:=s3.heap.push {cls:=.type "slice",data:=.fields #[vl,.none,vu]}}:=I3.kept λb ob q=>aE _ q
 show wpAny (model X.prog X.w) X.A (subscriptTail e (.Slice lo none (some hi) p2) v (.ref s3.heap.objs.size)) (EP X ah σ Q) X.xe {s3 with heap:=s3.heap.push {cls:=.type "slice",data:=.fields #[vl,.none,vu]}}
 obtain⟨c,a,b,vs,rfl,rfl,rfl,hs,Y7,pO,q⟩:=q3;cases r1;obtain⟨aw,r,ht,hz⟩:=I4.list (gZ.sq hs);have d8:aw.toArray.size=vs.length:=by rw[bW];exact r.length.symm
 have hg:wpAny (model X.prog X.w) X.A (getItem (.ref c) (.ref s3.heap.objs.size)) (EP X ah σ Q) X.xe {s3 with heap:=s3.heap.push {cls:=.type "slice",data:=.fields #[vl,.none,vu]}}:=by
  refine wpAny_getItem_list_slice ht.isList (Heap.IsSliceOf.new ..) pl .none pu (by simpa using Y7) ?_ (by rw[d8];exact hz)
  have R7:slicePick aw.toArray (some a) none (some b)=((wq a b vs.length).filterMap (aw[·]?)).toArray:=by
   unfold slicePick wq;rw[d8];refine dm (λf=>(List.filterMap f _).toArray) (funext λi=>?_)
   rw[List.getElem?_toArray]
  rw[R7];refine⟨.ref _,_,I4.laid (o:=.lst (wt a b vs)) (λb ob q=>aE _ q) (az _) ?_,rfl,q _ (I4.hok.fresh (az _))⟩
  exact⟨aJ (List.length_filterMap_le _ _) (aJ pO (by decide)),_,0,my r _,bu _ rfl⟩
 exact l8 (ops:=[.ref c,.ref s3.heap.objs.size]) ht.isList.typeIs slot_list_getitem.lookup hg (by with_unfolding_all rfl)
def R8{fl fh:Gx (Option Int)}(ha:PE X e (tE X af ag fa))(hl:PO X lo (IY X af ag fl))(hh:PO X (some hi) (IY X af ag fh)):PE X (.Subscript e (.Slice lo none (some hi) p2) pos) (tE X af ag (NC fa fl fh)):=(NF ha hl hh).imp λσ H Q ⟨F,st,R,h⟩ =>
 ⟨F,st,R,h.bnd λp v F1 st1 H1 R1 g1 b1 h1=>⟨F1,st1,R1,h1.bnd λl l' F2 dh H2 R2 g2 b2 h2=>⟨F2,dh,R2,h2.bnd λr r' F3 vB H3 R3 g3 b3 h3=>by
  cases b2;cases b3;obtain⟨o,e,z⟩:=h3.iB;unfold R6 at e;split at e
  ·rename_i ps a b;obtain⟨hc,rfl⟩:=aC e;simp only[aF,bne_iff_ne,tx]at hc;obtain⟨ad,vs,rfl,hs,hb⟩:=cZ.mp (b1.mono (g2.trans g3));rw[hb.length]at hc;refine⟨ad,a,b,vs,rfl,rfl,rfl,iZ R3.sub hs,hc.1,hc.2,λq hq=>?_⟩
   obtain⟨R4,s4⟩:=R3.laid (.lst (wt a b vs)) hq;refine z _ _ _ R4 s4 (cZ.mpr ⟨q,_,rfl,gZ.of aA,?_⟩);unfold wt;rw[hb.length];exact(mz hb _).mono s4
  ·cases e⟩⟩⟩
end
noncomputable def Cs:PV->Option bG
 | .int i=>some (.inl i)
 | .str x=>some (.inr x)
 | _=>none
def eU:Bool->PV->Option (bG×List bG)
 | false,p=>(Cs p).map λk=>(k,[])
 | true,.nd .aq [p,.nd .aq ps]=>if ps.length<1000 then(Cs p).bind λk=>(dg Cs ps).map λr=>(k,r)else none
 | true,_=>none
noncomputable def lg(k:bG×List bG)(ks:List (bG×List bG)):Bool:=ks.any λj=>decide (j=k)
noncomputable def gr(k:bG×List bG):List (bG×List bG)->List PV->Option PV
 | j::ks,p::ps=>if j=k then some p else gr k ks ps
 | _,_=>none
noncomputable def qW(k:bG×List bG)(q:PV):List (bG×List bG)->List PV->List PV
 | j::ks,p::ps=>(if j=k then q else p)::qW k q ks ps
 | _,ps=>ps
def pU:qW k q [] ps=ps:=by cases ps<;>rfl
def ib(t:Bool)(k:bG×List bG)(q:PV)(ks:List (bG×List bG))(ps:List PV):aj:=if lg k ks=true then⟨.dt t ks,qW k q ks ps⟩else⟨.dt t (ks++[k]),ps++[q]⟩
section
variable {K:W.Frag} {F:Fz}
def lj(h:Cs p=some k)(b:aU K F p v):v=kV k:=by
 cases p<;>cases h
 ·exact aD.mp b
 ·exact bE.mp b
theorem rV:∀{ps:List PV} {ks:List bG} {vs:List V},dg Cs ps=some ks->ax K F ps vs->vs=ks.map kV
 | [],_,_,h,b=>by cases h;exact b.b7
 | _::_,_,_,h,b=>by
  obtain⟨k,r,h1,h2,rfl⟩:=eK h;obtain⟨v,w,rfl,b1,b2⟩:=b.bM;rw[lj h1 b1,rV h2 b2];rfl
def lp(h:eU false p=some k)(b:aU K F p v):∃j,k=(j,[])/\v=kV j:=by
 obtain⟨j,e,rfl⟩:=aM h;exact⟨j,rfl,lj e b⟩
def i7(h:eU true p=some k)(b:aU K F p v):∃c,v=.ref c/\Dk K F.F c k:=by
 unfold eU at h;split at h
 ·grind
 ·obtain⟨_,h⟩:=bL h;obtain⟨i,h1,h⟩:=aK h;obtain⟨r,h2,rfl⟩:=aM h;obtain⟨c,vs,rfl,hs,hb⟩:=bF.mp b;obtain⟨v1,w1,rfl,b1,b2⟩:=hb.bM;obtain⟨v2,w2,rfl,b2,b3⟩:=b2.bM;obtain⟨d,us,rfl,B6,hb2⟩:=bF.mp b2;rw[b3.b7,lj h1 b1]at hs;rw[rV h2 hb2]at B6;exact⟨c,rfl,d,hs,B6⟩
 ·cases h
theorem uJ(j:bG):∀kvs:List (bG×V),lg (j,[]) (kvs.map λy=>(y.1,[]))=(nc kvs j).isSome
 | []=>rfl
 | (i,v)::r=>by
  have ih:=uJ j r;unfold lg at ih ⊢;rw[aO,l5,ih];by_cases h:i=j
  ·subst h;rw[kR rfl];simp
  ·rw[kT h];simp[h]
theorem AM:∀{kvs:List (bG×V)} {ps:List PV} {p:PV},gr (j,[]) (kvs.map λy=>(y.1,[])) ps=some p->ax K F ps (kvs.map (·.2))->∃v,nc kvs j=some v/\aU K F p v
 | [],_,_,h,_=>by cases h
 | (i,v)::r,[],_,h,_=>by cases h
 | (i,v)::r,q::ps,p,h,b=>by
  obtain⟨v',w,e,b1,b2⟩:=b.bM;cases e;have h:(if(i,([]:List bG))=(j,[])then some q else gr (j,[]) (r.map λy=>(y.1,[])) ps)=some p:=h
  by_cases hi:i=j
  ·subst hi;rw[if_pos rfl]at h;cases h;exact⟨v,kR rfl,b1⟩
  ·rw[if_neg (by grind)]at h
   rw[kT hi];exact AM h b2
def EM(bq:aU K F q v)(b:ax K F ps (kvs.map (·.2))) :
  ∃lN uz,ib false (j,[]) q (kvs.map λy=>(y.1,[])) ps=⟨.dt false lN,uz⟩/\(putK kvs j v).map (λy=>(y.1,[]))=lN/\ax K F uz ((putK kvs j v).map (·.2)):=by
 unfold ib putK;rw[uJ,v5];cases e:(nc kvs j).isSome with
 | false=>exact⟨_,_,rfl,by simp,by simpa using b.append (.cons bq .nil)⟩
 | true =>
  refine⟨_,_,rfl,?_,?_⟩
  ·rw[if_pos rfl,oN];exact List.map_congr_left λy _=>by grind
  ·rw[if_pos rfl];clear e;induction kvs generalizing ps with
   | nil=>rw[dP,pU];exact b
   | cons y r ih =>
    cases ps with
    | nil=>have:=b.length;simp at this
    | cons p ps =>
     obtain⟨v',w,e,b1,b2⟩:=b.bM;simp only[aO,yA]at e;obtain⟨rfl,rfl⟩:=e;have ih:=ih b2;by_cases hy:y.1=j
     ·simpa only[aO,qW,hy,d5]using ax.cons bq ih
     ·have:¬(y.1,([]:List bG))=(j,[]):=by grind
      simpa only[aO,qW,hy,this,cD]using ax.cons b1 ih
def zc(k:bG×List bG)(xs:List ((bG×List bG)×Addr×Value)):lg k (xs.map (·.1))=(atKey xs k).isSome:=(Cg xs k).symm
theorem AN:∀{xs:List ((bG×List bG)×Addr×Value)} {ps:List PV} {vs:List V} {p:PV},gr k (xs.map (·.1)) ps=some p->ax K F ps vs->Vals vs (xs.map (·.2.2))->∃a r v,atKey xs k=some (a,r)/\RelV v r/\aU K F p v
 | [],_,_,_,h,_,_=>by cases h
 | x::r,[],_,_,h,_,_=>by cases h
 | x::r,q::ps,vs,p,h,b,rv=>by
  obtain⟨v',w,rfl,b1,b2⟩:=b.bM;cases rv with
  | cons r1 r2 =>
   have h:(if x.1=k then some q else gr k (r.map (·.1)) ps)=some p:=h
   by_cases hi:x.1=k
   ·rw[if_pos hi]at h;cases h;exact⟨x.2.1,x.2.2,v',by simp[atKey,hi],r1,b1⟩
   ·rw[if_neg hi]at h;obtain⟨a,r',v,h1,h2,h3⟩:=AN h b2 r2;exact⟨a,r',v,by unfold atKey at h1 ⊢;rw[oF,cL hi];exact h1,h2,h3⟩
def EN(bq:aU K F q v)(rq:RelV v r)(hc:Dk K F.F c k)(hk:eJ K F.F xs)(b:ax K F ps vs)(rv:Vals vs (xs.map (·.2.2))) :
  ∃lN uz vD,ib true k q (xs.map (·.1)) ps=⟨.dt true lN,uz⟩/\(storedH xs k c r).map (·.1)=lN/\eJ K F.F (storedH xs k c r)/\ax K F uz vD/\Vals vD ((storedH xs k c r).map (·.2.2)):=by
 unfold ib storedH;rw[zc];cases e:(atKey xs k).isSome with
 | false =>
  refine⟨_,_,vs++[v],rfl,by simp,λx hx=>?_,b.append (.cons bq .nil),by simpa using rv.append (.cons rq .nil)⟩
  simp only[dO,cD,dk,cj]at hx;rcases hx with hx | rfl
  ·exact hk x hx
  ·exact hc
 | true =>
  simp only[d5];have hm:(xs.map (putAt k r)).map (·.1)=xs.map (·.1):=by
   rw[oN];exact List.map_congr_left λy _=>by simp only[Function.comp,putAt];split<;>rfl
  have key:eJ K F.F (xs.map (putAt k r)):=λx hx=>by
   obtain⟨y,hy,rfl⟩:=dC.mp hx;have:=hk y hy;unfold putAt;split<;>exact this
  suffices h:∃vD,ax K F (qW k q (xs.map (·.1)) ps) vD/\Vals vD ((xs.map (putAt k r)).map (·.2.2)) by
   obtain⟨vD,h1,h2⟩:=h;exact⟨_,_,vD,rfl,hm,key,h1,h2⟩
  clear e hk hm key;induction xs generalizing ps vs with
  | nil=>exact⟨vs,by rw[dP,pU];exact b,rv⟩
  | cons x xs ih =>
   cases ps with
   | nil=>rw[b.b7]at rv;cases rv
   | cons p ps =>
    obtain⟨v',w,rfl,b1,b2⟩:=b.bM;cases rv with
    | cons r1 r2 =>
     obtain⟨vD,h1,h2⟩:=ih b2 r2;by_cases hx:x.1=k
     ·exact⟨v::vD,by simpa only[aO,qW,hx,d5]using ax.cons bq h1,by simpa only[aO,putAt,hx,d5]using Paired.cons rq h2⟩
     ·exact⟨v'::vD,by simpa only[aO,qW,hx,cD]using ax.cons b1 h1,by simpa only[aO,putAt,hx,cD]using Paired.cons r1 h2⟩
end
def br:G2:=λh p q=>match p with
 | .str z=>(mx q).bind λi=>if z.length<=gF then(qP z.cps.toList i).map λc=>.str ⟨#[c]⟩else none
 | p=>match cE h p with
  | some (.aq,ps)=>(mx q).bind (qP ps)
  | some (.lst,ps)=>(mx q).bind (qP ps)
  | some (.dt t ks,ps)=>(eU t q).bind λk=>gr k ks ps
  | _=>none
section
variable {X:Cx} {af:Hp} {ag:Fz} {a b e:Expr} {fa fb:Gx PV} {pos:Pos}
def K6(hu:X.A.units+1150<cLine):P7 X (rT X.K br):=by
 rintro value slice ah s σ H x y v u Q I rx ry ⟨af,ag,F,st,τ,pa,pb,p,e,R,ba,bb,k⟩ hs
 have more:(match cE st.h pa with
  | some (.aq,ps)=>(mx pb).bind (qP ps)
  | some (.lst,ps)=>(mx pb).bind (qP ps)
  | some (.dt t ks,ps)=>(eU t pb).bind λk=>gr k ks ps
  | _=>none)=some p->wpAny (model X.prog X.w) X.A (subscriptTail value slice v u) (EP X ah σ Q) X.xe s:=λe=>by
  split at e
  ·rename_i z;obtain⟨i,e1,e2⟩:=aK e;rw[eL e1]at bb;rw[aD.mp bb]at ry;obtain⟨a,vs,rfl,ha,fK⟩:=R.at z ba;obtain⟨w,hw,bw⟩:=fK.qP e2;exact MZ value slice ah s σ H _ _ v u Q I rx ry ⟨a,vs,_,w,rfl,rfl,ha.2,hw,k _ H F R (Gr.refl F) bw⟩ hs
  ·rename_i z;obtain⟨i,e1,e2⟩:=aK e;rw[eL e1]at bb;rw[aD.mp bb]at ry;obtain⟨a,vs,rfl,ha,fK⟩:=R.at z ba;obtain⟨w,hw,bw⟩:=fK.qP e2;exact IB value slice ah s σ H _ _ v u Q I rx ry ⟨a,vs,_,w,rfl,rfl,gZ.sq ha,hw,k _ H F R (Gr.refl F) bw⟩ hs
  ·rename_i t ks ps z;obtain⟨kk,e1,e2⟩:=aK e;obtain⟨a,vs,rfl,ha,fK⟩:=R.at z ba;cases rx;cases t with
   | false =>
    obtain⟨kvs,g1,g2,g3⟩:=ha;obtain⟨j,rfl,rfl⟩:=lp e1 bb;subst g2 g3;obtain⟨w,hw,bw⟩:=AM e2 fK;obtain⟨_,hd,us,K7,dd⟩:=AB I.hok (.inl g1);have hr:=K7.val j;rw[hw]at hr;cases hv:valueAt us j with
    | none=>rw[hv]at hr;exact hr.elim
    | some u' =>
     rw[hv]at hr;exact l8 dd.typeIs PySem.F.slot_dict_getitem.lookup (wpAny_getItem_of (pB ry) dd.mapOf hv ⟨w,H,I.tok _,hr,k _ H F R (Gr.refl F) bw⟩) hs
   | true =>
    obtain⟨xs,g1,g2,g3,g4⟩:=ha;obtain⟨c,rfl,hc⟩:=i7 e1 bb;cases ry;subst g3;obtain⟨ad,r,w,hw,IC,bw⟩:=AN e2 fK g4;obtain⟨_,hd,dd⟩:=rP I (.inl g1) (λz hz=>dJ R.sub (g2 z hz))
    obtain⟨o,_,_,ho,hx,_⟩:=id dd;refine l8 ⟨o,ho,hx.1⟩ PySem.F.slot_dict_getitem.lookup (Rx (by lia) I (.inl g1) (λz hz=>dJ R.sub (g2 z hz)) (dJ R.sub hc) hw λs' I'=>⟨w,H,I',IC,k _ H F R (Gr.refl F) bw⟩) hs
  ·cases e
 cases pa with
 | str z =>
  obtain⟨i,e1,e2⟩:=aK e;rw[eL e1]at bb;obtain⟨hz,e2⟩:=bL e2;obtain⟨c,e3,rfl⟩:=aM e2;rw[bE.mp ba]at rx;rw[aD.mp bb]at ry;exact M0 value slice ah s σ H _ _ v u Q I rx ry ⟨z,i,c,rfl,rfl,dD hz,e3,k _ H F R (Gr.refl F) (bE.mpr rfl)⟩ hs
 | aL=>exact more e
 | bl _=>exact more e
 | int _=>exact more e
 | ref _=>exact more e
 | fn _=>exact more e
 | nd _ _=>exact more e
def WJ(hu:X.A.units+1150<cLine)(ha:PE X a (tE X af ag fa))(hb:PE X b (tE X af ag fb))(hs:kN b):PE X (.Subscript a b pos) (tE X af ag (op2 br fa fb)):=(Eo (K6 hu) ha hb hs).imp λ_ _ _ h=>nQ h
def Je(n:Bool):G2:=λh p q=>match cE h q with
 | some (.dt t ks,_)=>(eU t p).map λk=>.bl (if n=true then !lg k ks else lg k ks)
 | _=>(EA h q).bind λqs=>(WH h p qs).map λb=>.bl (if n=true then !b else b)
def NG(hu:X.A.units+1150<cLine):nP X (compareOp .In) (Je false):=by
 rintro ah s σ H x y v u Q I rx ry ⟨af,ag,F,st,τ,pa,pb,p,e,R,ba,bb,k⟩
 unfold Je at e;split at e
 ·rename_i t ks ps z;obtain⟨kk,e1,rfl⟩:=aM e;obtain⟨a,vs,rfl,ha,fK⟩:=R.at z bb;cases ry;cases t with
  | false =>
   obtain⟨kvs,g1,g2,g3⟩:=ha;obtain⟨j,rfl,rfl⟩:=lp e1 ba;obtain⟨_,hd,us,K7,dd⟩:=AB I.hok (.inl g1);refine wpAny_in_of (pB rx) hd dd.mapOf ⟨.bl (nc kvs j).isSome,H,I.tok _,?_,k _ H F R (Gr.refl F) (aX.mpr ?_)⟩
   ·rw[(K7.val j).rN];rfl
   ·rw[<-g2,uJ];rfl
  | true =>
   obtain⟨xs,g1,g2,g3,g4⟩:=ha;obtain⟨c,rfl,hc⟩:=i7 e1 ba;cases rx;exact Ru (by lia) I (.inl g1) (λz hz=>dJ R.sub (g2 z hz)) (dJ R.sub hc) λs' I'=>⟨.bl _,H,I',rfl,k _ H F R (Gr.refl F) (aX.mpr (by rw[<-g3,zc];rfl))⟩
 ·obtain⟨qs,e1,e⟩:=aK e;obtain⟨b,e2,rfl⟩:=aM e;exact(EG hu I rx ry R ba bb e1 e2).1 (k _ H F R (Gr.refl F) (aX.mpr rfl))
def Ct(hu:X.A.units+1150<cLine):nP X (compareOp .NotIn) (Je true):=by
 rintro ah s σ H x y v u Q I rx ry ⟨af,ag,F,st,τ,pa,pb,p,e,R,ba,bb,k⟩
 unfold Je at e;split at e
 ·rename_i t ks ps z;obtain⟨kk,e1,rfl⟩:=aM e;obtain⟨a,vs,rfl,ha,fK⟩:=R.at z bb;cases ry;cases t with
  | false =>
   obtain⟨kvs,g1,g2,g3⟩:=ha;obtain⟨j,rfl,rfl⟩:=lp e1 ba;obtain⟨_,hd,us,K7,dd⟩:=AB I.hok (.inl g1);refine wpAny_notIn_of (pB rx) hd dd.mapOf ⟨.bl (!(nc kvs j).isSome),H,I.tok _,?_,k _ H F R (Gr.refl F) (aX.mpr ?_)⟩
   ·rw[(K7.val j).rN];rfl
   ·rw[<-g2,uJ];rfl
  | true =>
   obtain⟨xs,g1,g2,g3,g4⟩:=ha;obtain⟨c,rfl,hc⟩:=i7 e1 ba;cases rx;exact Rv (by lia) I (.inl g1) (λz hz=>dJ R.sub (g2 z hz)) (dJ R.sub hc) λs' I'=>⟨.bl _,H,I',rfl,k _ H F R (Gr.refl F) (aX.mpr (by rw[<-g3,zc];rfl))⟩
 ·obtain⟨qs,e1,e⟩:=aK e;obtain⟨b,e2,rfl⟩:=aM e;exact(EG hu I rx ry R ba bb e1 e2).2 (k _ H F R (Gr.refl F) (aX.mpr rfl))
end
def Jf:G2:=λ_ p q=>match q with | .aL=>some (.bl (!wc p)) | .bl b=>(WG b p).map λc=>.bl (!c) | _=>none
def Jg:nP X (compareOp .IsNot) Jf:=by
 rintro ah s σ H x y v u Q I rx ry ⟨af,ag,F,st,τ,pa,pb,p,e,R,ba,bb,k⟩
 unfold Jf at e;split at e
 ·cases e;exact Ij ah s σ H x y v u Q I rx ry ⟨cG.mp bb,k _ H F R (Gr.refl F) (aX.mpr (by rw[AH ba]))⟩
 ·rename_i b;obtain⟨c,e1,rfl⟩:=aM e;obtain⟨a,rfl,rfl⟩:=we e1;rw[aX.mp ba]at rx;rw[aX.mp bb]at ry;cases rx;cases ry;exact wpAny_isNot_plain rfl ⟨.bl _,H,I,(by cases a<;>cases b<;>rfl),k _ H F R (Gr.refl F) (aX.mpr rfl)⟩
 ·cases e
def Y8:G2:=mn (λ_ _=>true) λi j=>.bl (decide (j<i))
def Jh:G2:=λh p q=>match p,q with
 | .str a,.str b=>some (.bl (!(decide (b.cps.toList<a.cps.toList))))
 | p,q=>Y6 h p q
def NH:nP X (compareOp .LtE) Jh:=by
 rintro ah s σ H x y v u Q I rx ry ⟨af,ag,F,st,τ,pa,pb,p,e,R,ba,bb,k⟩
 unfold Jh at e;split at e
 ·cases e;rw[bE.mp ba]at rx;rw[bE.mp bb]at ry;obtain⟨t1,rfl⟩:=rx;obtain⟨t2,rfl⟩:=ry;exact PySem.P.le_str ⟨.bl _,H,I,rfl,k _ H F R (Gr.refl F) (aX.mpr rfl)⟩
 ·exact ef (rS QZ) (λ_ _ _=>trivial) (λ_ _ _=>aX.mpr rfl) ah s σ H x y v u Q I rx ry ⟨af,ag,F,st,τ,pa,pb,p,e,R,ba,bb,k⟩
def zd:CmpOp->Option G2
 | .Eq=>some mr
 | .NotEq=>some Ht
 | .Lt=>some RQ
 | .LtE=>some Jh
 | .Gt=>some Y8
 | .GtE=>some RR
 | .Is=>some Vb
 | .IsNot=>some Jf
 | .In=>some (Je false)
 | .NotIn=>some (Je true)
def ju(hu:X.A.units+1150<cLine)(h:zd op=some g):nP X (compareOp op) g:=by
 have nn:∀i j:Int,(λ_ _=>true) i j=true->(λ_ _=>True) i j:=by grind
 cases op<;>cases h
 ·exact Nv hu
 ·exact Nw hu
 ·exact ef (rS QY) nn λ_ _ _=>aX.mpr rfl
 ·exact NH
 ·exact ef (rS Q3) nn λ_ _ _=>aX.mpr rfl
 ·exact ef (rS Q4) nn λ_ _ _=>aX.mpr rfl
 ·exact Nx
 ·exact Jg
 ·exact NG hu
 ·exact Ct hu
end L2.U
namespace L2
open PySem PySem.Spec PyProof.Rows
section
variable {X:Cx}
def EO:PE X (.Dict [] [] pos) (K1 (.dK [])):=λah s σ H Q I h =>
 wpAny_Dict_empty ⟨.ref s.heap.objs.size,_,I.laid (o:=.dK []) (λ_ _ q=>aE _ q) (az _)
  ⟨gV _,eA.mpr (bR (aZ (kU I))),[],.nil,Heap.DictOf.new s.heap⟩,rfl,h _ (I.hok.fresh (az _))⟩
def NI(K:W.Frag):V->List V->Hp->VK->Prop:=λx vs H Q=>∃l b xs zs,x=.ref l/\vs=[.ref b]/\H l=some (.lst xs)/\(gY K H b zs\/gZ K H b zs)/\xs.length+zs.length<=sizeLine/\Q .aL (cy H l (.lst (xs++zs)))
def uK(l:Addr)(aw:Array Value)(n:Nat)(b:Addr)(more:Array Value)(n2:Nat)(dd:Option Addr)(sl:Array (Option Value))(h0:¬(!aw.isEmpty&&Builtin.List.listTooLong (aw.size+more.size))=true)(h1:aw.size<=sizeLine)(h2:aw.size+more.size<=sizeLine+1) :
  Meets (Builtin.«list.extend» ⟨[.ref l,.ref b],[]⟩) (λ_ R s=>s.heap.get? l=some {cls:=.type "list",dict:=none,data:=.seq aw n,slots:=#[]}/\s.heap.get? b=some {cls:=.type "tuple",dict:=dd,data:=.seq more n2,slots:=sl} /\
   R (.ok (.ret Value.none)) {s with heap:=s.heap.update l (Obj.mapSeq λx=>x++more),toks:=s.toks}) :=
 .of_wp λprog w A R s h=>by
  obtain⟨hp,g,d,tk,os⟩:=s;obtain⟨hl,hb,h⟩:=h;have f1:=AutoSeq1.idx_int;have f2:=AutoSeq1.sub_tuple_tuple;have f3:=AutoSeq1.sub_list_list;have f4:=AutoSeq1.sub_tuple_list;have f5:=AutoSeq1.sub_list_tuple
  wp_walk using (oG hl rfl (_hz':=(by rw[Array.size_append];exact h2))),iK hl,iK hb
  exact⟨_,rfl,h⟩
def NJ:Wu X "list.extend" (NI X.K):=by
 intro ah s σ H x vs v us Q I rx rv h;obtain⟨l,b,xs,zs,rfl,rfl,hH,hB,hz,q⟩:=h;cases rx;obtain⟨u,rfl,ru⟩:=rv.one;cases ru;obtain⟨z,aw,n,r,hl,e⟩:=I.fU hH;have go:∀dR,Vals zs dR->(¬(!aw.toArray.isEmpty&&Builtin.List.listTooLong (aw.toArray.size+dR.toArray.size))=true/\aw.toArray.size<=sizeLine/\aw.toArray.size+dR.toArray.size<=sizeLine+1) /\
   EP X ah σ Q Value.none {s with heap:=s.heap.update l (Obj.mapSeq λx=>x++dR.toArray),toks:=s.toks}:=λdR r2=>by
  have Va:=r2.length;have hsz:aw.toArray.size+dR.toArray.size<=sizeLine:=by grind
  refine⟨⟨?_,by grind,(Nat.le_add_right_of_le ‹_›)⟩,.aL,_,I.M5 hH e (by simp) (r.append r2) (by grind),rfl,q⟩
  rw[vY hsz,aT];exact bB
 rcases hB with hB | hB
 ·obtain⟨dR,r2,⟨⟨cls,dd,dat,sl⟩,e2,hc,n2,hd⟩,_⟩:=I.tuple hB;simp only at hc hd;subst hc hd;obtain⟨⟨g1,g2,g3⟩,g4⟩:=go dR r2;exact fx F.slot_list_extend ⟨_,e,rfl⟩ F.entry_list_extend (F.args_list_extend_2 _ _) (uK l aw.toArray n b dR.toArray n2 dd sl g1 g2 g3) ⟨e,e2,g4⟩
 ·obtain⟨dR,n2,r2,e2,_⟩:=I.kW hB;obtain⟨⟨g1,g2,g3⟩,g4⟩:=go dR r2;exact fx F.slot_list_extend ⟨_,e,rfl⟩ F.entry_list_extend (F.args_list_extend_2 _ _) (AutoSeq1.list_extend_list_list_0 l aw.toArray n b dR.toArray n2 g1 g2 g3) ⟨e,e2,g4⟩
def AO(kvs:List (bG×V))(k:bG)(v:V):(putK kvs k v).length<=kvs.length+1:=by
 unfold putK;split
 ·grind
 ·grind
def R9:D6:=λo i v H Q=>∃a kvs k,o=.ref a/\i=kV k/\H a=some (.dK kvs)/\kvs.length<sizeLine/\Q (cy H a (.dK (putK kvs k v)))
def NK:D7 X R9:=by
 rintro ah s σ H o i v ov iv u Q I ro ri rv ⟨a,kvs,k,ex,ey,e1,e2,q⟩
 subst ex ey;cases ro;obtain⟨z,hd,vs,K7,dd⟩:=Rt I.hok e1;refine wpAny_setItem_pairs (pB ri) dd (λh' Qa Sb=>?_) (by rw[<-K7.length];exact z)
 have WK:=K7.put k rv;have he:∃q,h'.get? a=some q:=let ⟨q,_,_,hq,_⟩:=Qa;⟨q,hq⟩
 exact⟨_,I.write (o:=.dK (putK kvs k v)) (by rw[e1];exact True.intro) (.inl rfl) (λc q' hc z=>(Sb.2 c hc).trans z) he ⟨by have:=AO kvs k v;lia,hd,_,WK,Qa⟩,q⟩
def Sd(K:W.Frag):D6:=λo i v H Q=>∃a b xs k,o=.ref a/\i=.ref b/\H a=some (.dT xs)/\eJ K H xs/\Dk K H b k/\xs.length<sizeLine/\∀r,RelV v r->Q (cy H a (.dT (storedH xs k b r)))
def NL(hu:X.A.units+2<cLine):D7 X (Sd X.K):=by
 rintro ah s σ H o i v ov iv u Q I ro ri rv ⟨a,b,xs,k,ex,ey,e1,e2,e3,e4,q⟩
 subst ex ey;cases ro;cases ri;exact M7 hu I e1 e2 e3 e4 λs4 I4=>⟨_,I4,q u rv⟩
end
end L2
namespace L2.U
open PySem PySem.Spec PyProof.Rows
abbrev MG:=aj->List PV->Option (aj×PV)
def i8(h:List aj):PV->Option (Nat×aj)
 | .ref n=>(h[n]?).bind λc=>if live c=true then some (n,c)else none
 | _=>none
def fL(e:i8 h p=some (n,c)):p=.ref n/\h[n]?=some c/\live c=true:=by
 cases p with
 | ref m =>
  obtain⟨d,e1,e2⟩:=aK e;obtain⟨hl,e3⟩:=aC e2;cases e3;exact⟨rfl,e1,hl⟩
 | _=>cases e
def iD(g:MG)(p:PV)(as:List PV):Gx PV:=λst=>(i8 st.h p).bind λc=>(g c.2 as).map λr=>(.ok r.2,⟨st.ρ,st.h.set c.1 r.1⟩)
section
variable {X:Cx} {af H:Hp} {ag F:Fz} {st:bP} {σ:St}
def ER(K:W.Frag)(r:V->List V->Hp->VK->Prop)(g:MG):Prop:=∀(af H:Hp) (ag F:Fz) (st:bP) (σ:St) (n:Nat) (c c':aj) (a:Addr) (as:List PV) (ws:List V) (q:PV) (Q:VK),
 Rep K af ag F st σ H->st.h[n]?=some c->live c=true->F.μ[n]?=some a->g c as=some (c',q)->ax K F as ws->(∀v F' H',Rep K af ag F' ⟨st.ρ,st.h.set n c'⟩ σ H'->Gr F F'->aU K F' q v->Q v H')->r (.ref a) ws H Q
def Rep.put(R:Rep X.K af ag F st σ H){c d:aj}(hc:st.h[n]?=some c)(hl:live c=true)(ha:F.μ[n]?=some a)(hn:j4 X.K F.F (cy H a o) a true d.k vs)(hb:ax X.K F d.ps vs) :
  Rep X.K af ag F ⟨st.ρ,st.h.set n d⟩ σ (cy H a o):=⟨R.c.write hc hl ha hn hb,R.l⟩
noncomputable def fU(f:List PV->List PV->Option (List PV)):MG:=λc as=>match c.k with
 | .lst=>(f c.ps as).map λqs=>(⟨.lst,qs⟩,.aL)
 | _=>none
def Ji
  (h:∀(H:Hp) (F:Fz) (ps as qs:List PV) (vs ws:List V) (a:Addr) (Q:VK) (h:List aj),bT F.F H->f ps as=some qs->H a=some (.lst vs)->ax X.K F ps vs->ax X.K F as ws->(∀vD,ax X.K F qs vD->Q .aL (cy H a (.lst vD)))->r (.ref a) ws H Q):ER X.K r (fU f):=by
 intro af H ag F st σ n c c' a as ws q Q R hc hl ha hg hb k;unfold fU at hg;split at hg
 ·rename_i hk;obtain⟨qs,e1,e2⟩:=aM hg;cases e2;obtain⟨_,vs,h2,h3⟩:=R.c.cell n c a hc ha hl;rw[hk]at h2;exact h H F c.ps as qs vs ws a Q st.h R.sub e1 h2 h3 hb λvD b'=>k _ F _ (R.put hc hl ha aA b') (Gr.refl _) (cG.mpr rfl)
 ·cases hg
def kh:List PV->List PV->Option (List PV):=λps as=>match as with | [p]=>if ps.length<gF then some (ps++[p])else none | _=>none
def Jj:ER X.K AA (fU kh):=Ji λH F ps as qs vs ws a Q h hs hf ha bp ba k=>by
 unfold kh at hf;split at hf
 ·obtain⟨hl,rfl⟩:=aC hf;obtain⟨v,rfl,b⟩:=dv ba;exact⟨a,vs,v,rfl,rfl,ha,by rw[<-bp.length];exact bQ hl (dD (az _)),k _ (bp.append ba)⟩
 ·cases hf
def nB(p:PV)(as:List PV):Gx PV:=λst=>match as with
 | [q]=>(EA st.h q).bind λrs=>iD (fU λps _=>if ps.length+rs.length<=gF then some (ps++rs)else none) p [] st
 | _=>none
def Tx.mut(hg:ER X.K r g)(h:Tx X af ag (aU X.K) F st (iD g p as) σ Q)(R:Rep X.K af ag F st σ H)(bp:aU X.K F p v)(ba:ax X.K F as ws):r v ws H Q:=by
 obtain⟨q,h1,h2⟩:=h;obtain⟨⟨n,c⟩,e1,e2⟩:=aK h1;obtain⟨⟨c',x⟩,e3,e4⟩:=aM e2;subst e4;obtain⟨rfl,hc,hl⟩:=fL e1;obtain⟨a,ha,rfl⟩:=cR.mp bp;exact hg af H ag F st σ n c c' a as ws x Q R hc hl ha e3 ba λv F' H' R' g' b'=>h2 v H' F' R' g' b'
def Tx.ext{Q:VK}(h:Tx X af ag (aU X.K) F st (nB p as) σ Q)(R:Rep X.K af ag F st σ H)(bp:aU X.K F p v)(ba:ax X.K F as ws):NI X.K v ws H Q:=by
 obtain⟨x,h1,h2⟩:=h;unfold nB at h1;split at h1
 ·rename_i q;obtain⟨rs,e0,h1⟩:=aK h1;obtain⟨w,rfl,bw⟩:=dv ba;obtain⟨b,zs,rfl,hs,hb⟩:=R.seq e0 bw;obtain⟨⟨n,c⟩,e1,e2⟩:=aK h1;obtain⟨⟨c',y⟩,e3,e4⟩:=aM e2;subst e4;obtain⟨rfl,hc,hl⟩:=fL e1;obtain⟨a,ha,rfl⟩:=cR.mp bp;unfold fU at e3;split at e3
  ·rename_i hk;obtain⟨qs,e5,e6⟩:=aM e3;cases e6;obtain⟨hz,rfl⟩:=aC e5;obtain⟨_,vs,g2,g3⟩:=R.c.cell n c a hc ha hl;rw[hk]at g2;exact⟨a,b,vs,zs,rfl,rfl,g2,hs,by rw[<-g3.length,<-hb.length];exact dD hz,h2 .aL _ F (R.put hc hl ha aA (g3.append hb)) (Gr.refl _) (cG.mpr rfl)⟩
  ·cases e3
 ·cases h1
end
section
variable {prog:Program} {w:World} {A:Around} {R:Result->Shared->Prop} {s:Shared}
abbrev nb(prog:Program)(w:World)(A:Around)(env:Env)(R:Result->Shared->Prop):Value->Shared->Prop:=notedBy (model prog w) A env λe s'=>R (.error e) s'
noncomputable abbrev AQ(ifs:List Expr)(env:Env):Sem Bool:=forIn ifs true λc r=>if r=true then do let ok <-isTrue c env (eval c env);pure (ForInStep.yield ok)else pure (ForInStep.yield r)
def Cu(I:Nat->Shared->Prop)
  (o7:∀n s,I n s->wpAny (model prog w) A (pyNext it) (λr s1=>match r with
   | none=>R (.ok .next) s1
   | some v=>wpAny (model prog w) A (letOwnedTupleGo tg it v) (λ_ Y9=>wpAny (model prog w) A (assign tg env v) (λ_ s2=>wpAny (model prog w) A (AQ ifs env) (λok s3 =>
      if ok=true then wpAny (model prog w) A (eval elt env) (λx s4=>wpAny (model prog w) A (call (.builtin "list.append") [acc,x]) (λ_ s5=>∃m,m<n/\I m s5) (nb prog w A env R) s4) (nb prog w A env R) s3
      else ∃m,m<n/\I m s3) (nb prog w A env R) s2) (nb prog w A env R) Y9) (nb prog w A env R) s1) (nb prog w A env R) s)
  (n:Nat) (h:I n s):codeAny (model prog w) A (.compLoop (.ListComp elt [⟨tg,iter,ifs,0⟩] scope pos) 0 it acc env) R s:=by
 refine codeAny_loop rfl I (λn s hI=>?_) n h
 refine wpAny_noted ?_;rw[compTurn_list];refine ai (t9 (ai (thn (o7 n s hI) λr s1 h1=>?_)))
 cases r with
 | none=>exact ak h1
 | some v =>
  refine ai (thn h1 λ_ Y9 h1'=>ai (thn h1' λ_ s2 h2=>ai (thn h2 λok s3 h3=>?_)))
  cases ok with
  | false=>exact ak ⟨rfl,h3⟩
  | true=>exact ai (ai (thn h3 λx s4 h4=>ai (thn h4 λ_ s5 h5=>ak (ak ⟨rfl,h5⟩))))
end
noncomputable def mB(env:Env):List (Str×NameKind)->List (Str×Addr)->List (Str×Addr)
 | [],cs=>cs
 | (n,k)::r,cs=>mB env r (if k==.free then(match env.cells.lookup n with | some c=>(n,c)::cs | none=>cs)else cs)
def ze(h:∀y∈scope.names,y.2=.free->∃c,env.cells.lookup y.1=some c):closureFor scope env=pure (mB env scope.names []):=by
 have all:∀(l:List (Str×NameKind)) (cs:List (Str×Addr)),(∀y∈l,y.2=.free->∃c,env.cells.lookup y.1=some c) ->
   (forIn l cs λx r=>(match x with | (name,kind)=>if(kind==NameKind.free)=true then do let a <-cellOf env name;pure (ForInStep.yield ((name,a)::r))else pure (ForInStep.yield r):Sem (ForInStep (List (Str×Addr)))))=pure (mB env l cs):=by
  intro l;induction l with
  | nil=>intro cs _;rfl
  | cons y l ih =>
   intro cs hl;obtain⟨n,k⟩:=y;rw[lX];by_cases hk:k=.free
   ·subst hk;obtain⟨c,hc⟩:=hl (n,.free) dj rfl;have Dn:=hc;have e1:cellOf env n=pure c:=by unfold cellOf;rw[Dn]
    simp only[e1,mB,Dn];exact ih _ λy hy=>hl y (cH _ hy)
   ·have hb:(k==NameKind.free)=false:=by simpa using hk
    simp only[hb,mB];exact ih _ λy hy=>hl y (cH _ hy)
 unfold closureFor;have:=all scope.names [] h;simp only[bind_pure]at this ⊢;exact this
theorem wu:∀(l:List (Str×NameKind)) (cs:List (Str×Addr)) (p:Str×Addr),p∈mB env l cs->p∈cs\/env.cells.lookup p.1=some p.2
 | [],_,_,h=>.inl h
 | (n,k)::r,cs,p,h=>by
  unfold mB at h;rcases wu r _ p h with q | q
  ·grind
  ·grind
def dr(h:(mB env l []).lookup x=some c):env.cells.lookup x=some c:=by
 rcases wu l [] (x,c) (ez h)with q | q
 ·cases q
 ·exact q
theorem rW:∀(l:List (Str×NameKind)) (cs:List (Str×Addr)),(∃c,(x,c)∈cs)->∃c,(x,c)∈mB env l cs
 | [],_,h=>h
 | (n,k)::r,cs,⟨c,h⟩=>by
  unfold mB;refine rW r _ ⟨c,?_⟩;split
  ·grind
  ·exact h
theorem pV:∀(l:List (Str×NameKind)) (cs:List (Str×Addr)),(x,NameKind.free)∈l->(∃c,env.cells.lookup x=some c)->∃c,(x,c)∈mB env l cs
 | [],_,h,_=>by cases h
 | (n,k)::r,cs,h,hc=>by
  unfold mB;rcases aW.mp h with z | z
  ·cases z;obtain⟨c,e⟩:=hc;refine rW r _ ⟨c,?_⟩;simp[e]
  ·exact pV r _ z hc
theorem gC:∀{l:List (Str×Addr)},(x,c)∈l->∃c',l.lookup x=some c'
 | [],h=>by cases h
 | (n,d)::r,h=>by
  rw[cW];cases hx:x==n with
  | true=>exact⟨d,rfl⟩
  | false =>
   rcases aW.mp h with z | z
   ·grind
   ·exact gC z
def bY(X:Cx)(N:List Str)(scope:Scope)(C:Addr)(s:Shared)(H:Hp)(fp:List Addr):Cx where
 prog:=X.prog
 w:=X.w
 K:=X.K
 mg:=X.mg
 base:=X.base
 A:=X.A
 N:=N
 s₀:=s
 af:=H
 env:=compEnvC scope (mB X.env scope.names []) C X.env
 aB:=X.stack
 stack:=X.stack
 ex:=fp
 fn:=λ_=>false
 calm:=X.calm
 pn:=[]
 xe:=λ_ _=>False
theorem fY{env:Env}:∀(names:List (Str×NameKind)) (x:Str),(names.map fun(n,k)=>if(k==NameKind.free&&env.scope.kind==.function&&env.kindOf n==some .cell)then(n,NameKind.cell)else(n,k)).lookup x =
  (names.lookup x).map λk=>if(k==NameKind.free&&env.scope.kind==.function&&env.kindOf x==some .cell)then NameKind.cell else k
 | [],_=>rfl
 | (n,j)::r,x=>by
  have e:(if(j==NameKind.free&&env.scope.kind==.function&&env.kindOf n==some .cell)=true then(n,NameKind.cell)else(n,j))=(n,if(j==NameKind.free&&env.scope.kind==.function&&env.kindOf n==some .cell)=true then NameKind.cell else j):=by split<;>rfl
  show List.lookup x ((if(j==NameKind.free&&env.scope.kind==.function&&env.kindOf n==some .cell)=true then(n,NameKind.cell)else(n,j))::_)=_
  rw[e,cW,cW];cases hx:x==n with
  | true =>
   have Cv:=aR hx;subst Cv;rfl
  | false=>exact fY r x
def lq{env:Env}{names:List (Str×NameKind)}(h:(names.map fun(n,k)=>if(k==NameKind.free&&env.scope.kind==.function&&env.kindOf n==some .cell)then(n,NameKind.cell)else(n,k)).lookup x=some k) :
  names.lookup x=some k\/(k=.cell/\names.lookup x=some .free):=by
 rw[fY]at h;cases z:names.lookup x with
 | none=>rw[z]at h;cases h
 | some j =>
  rw[z]at h;have h:(if(j==NameKind.free&&env.scope.kind==.function&&env.kindOf x==some .cell)=true then NameKind.cell else j)=k:=by grind
  split at h
  ·grind
  ·grind
def uL{env:Env}{names:List (Str×NameKind)}(h:names.lookup x=some .free) :
  (names.map fun(n,k)=>if(k==NameKind.free&&env.scope.kind==.function&&env.kindOf n==some .cell)then(n,NameKind.cell)else(n,k)).lookup x=some .cell \/
  (names.map fun(n,k)=>if(k==NameKind.free&&env.scope.kind==.function&&env.kindOf n==some .cell)then(n,NameKind.cell)else(n,k)).lookup x=some .free:=by
 rw[fY,h];show some (if _ then _ else _)=_\/some (if _ then _ else _)=_
 split
 ·grind
 ·grind
structure gJ (X:Cx) (N:List Str) (link:List (Option Nat)) (scope:Scope):Prop where
 kind:scope.kind=.function
 cell:∀y∈scope.names,y.2≠.cell
 names:∀y∈scope.names,y.2=.local->scope.names.lookup y.1=some .local
 free:∀y∈scope.names,y.2=.free->(X.env.kindOf y.1=some .cell\/X.env.kindOf y.1=some .free)
 len:link.length=N.length
 link:∀(i j:Nat) (x:Str),link[i]?=some (some j)->N[i]?=some x->X.N[j]?=some x/\scope.names.lookup x=some .free
noncomputable def iy(link:List (Option Nat))(σ:St):St:=link.map λo=>o.bind λj=>(σ[j]?).join
section
variable {X:Cx} {ah:List (Addr×Obj)} {σ:St} {H:Hp} {s:Shared}
def Inv.adopt(I:Inv X ah σ H s)(hn:H D=none)(h1:X.s₀.heap.objs.size<=D)(h2:D≠X.env.locals)(h3:∀x c,X.env.cells.lookup x=some c->c≠D)(h4:∀p∈X.pn++ah,p.1≠D)
  (ho:eS X.prog X.w (cy H D o) s.heap D o):Inv X ah σ (cy H D o) s:=by
 have ne:∀b u,H b=some u->b≠D:=λb u e z=>by rw[z,hn]at e;cases e
 refine I.step (ch:=[D]) (λb hb=>?_) (λb u _ _ _ e _=>e) (λb u _ _ _ e _=>⟨u.slots,e⟩) (λb u hc _ n=>?_) (λb u _ e=>⟨u,e⟩)
  (λb xs e=>by rw[aH (ne b _ e)];exact e) (λb u xs e=>by rw[aH (ne b _ e)];exact e) (λb ps e=>by rw[aH (ne b _ e)];exact e) (λm hm=>hm) (λb u e=>?_) I.bare
 ·have e:b=D:=by simpa using hb
  subst e;exact⟨.inr h1,h2,h3,h4⟩
 ·rw[aH (λz=>hc (by simp[z]))];exact n
 ·by_cases hb:b=D
  ·subst hb;rw[aA]at e;cases e;exact ho
  ·rw[aH hb]at e;exact(I.hok b u e).vN (λ_ _ _ q=>q) (λc q=>by rw[aH (ne c _ q)];exact q) (λc xs q=>by rw[aH (ne c _ q)];exact q) λc ob v q=>by rw[aH (ne c _ q)];exact q
def zf{N:List Str}{link:List (Option Nat)}(S:gJ X N link scope)(I:Inv X ah σ H s)(Vd:∀b∈fp,o8 X ah H b)
  (hC:s.heap.objs.size<=C) (ns:h.Ns C λ_=>none) (hk:∀b o,s.heap.get? b=some o->h.get? b=some o) (hex:∀b∈fp,∃o,s.heap.get? b=some o) :
  Inv (bY X N scope C s H fp) [] (iy link σ) H {s with heap:=h,toks:=tk}:=by
 have vQ:∀y∈scope.names,y.2=.free->∃c,X.env.cells.lookup y.1=some c:=λy hy hf=>I.ok.has y.1 (S.free y hy hf)
 have WL:∀x c,X.env.cells.lookup x=some c->c<s.heap.objs.size:=λx c e=>let ⟨v,o,ho,_⟩:=I.cell x c e;aG ho
 refine⟨⟨I.ok.mod,S.kind,I.ok.glob,I.ok.blt,hC,λx y c h1 h2=>I.ok.inj x y c (dr h1) (dr h2),λx hx=>?_,λx c hx=>(by cases hx),I.ok.hd,I.ok.frames,.inl rfl,λb hb=>⟨?_,λx c e=>(Vd b hb).2.2.2.2.1 x c (dr e)⟩,I.bs,aJ I.ok.bsz I.sz,
  λb o e hb=>?_,λb hb z=>?_,I.stack,I.ui,I.tabs⟩,rfl,I.bare,Un.kept hk,⟨_,ns,λi x v e1 e2 e3=>?_⟩,λx c e=>?_,I.hok.fresh hC,λx c e=>I.freeC x c (dr e),λp hp=>(by cases hp),I.hok.kept hk,by unfold iy;rw[aQ];exact S.len⟩
 ·-- HE cells VC there
  have Cv:=hx;have hf:scope.names.lookup x=some .free:=by
   rcases Cv with h1 | h1
   ·rcases lq h1 with q | ⟨_,q⟩
    ·exact absurd rfl (S.cell _ (ez q))
    ·exact q
   ·rcases lq h1 with q | ⟨z,_⟩
    ·exact q
    ·cases z
  have hm:=ez hf;obtain⟨c,hc⟩:=pV scope.names [] hm (vQ _ hm rfl);exact gC hc
 ·intro z;obtain⟨o,ho⟩:=hex b hb;exact absurd (bQ (aG ho) (aJ hC (iR z.symm))) (eI _)
 ·rcases(Vd b hb).2.2.2.1 with z | z
  ·exact I.ok.noex b o e z
  ·exact absurd (bQ (aG e) (aJ I.ok.bsz z)) (eI _)
 ·rcases aW.mp (I.uh b z)with q | q
  ·exact(Vd b hb).2.1 q
  ·exact(Vd b hb).2.2.1 q
 ·-- a slot: Za abi from HE WM
  have hi:i<link.length:=by
   have:=(di.mp e2).1;unfold iy at this
   rwa [aQ]at this
  unfold iy at e2;rw[cJ,dy hi]at e2;have e2:=bC e2;cases z:link[i]with
  | none=>rw[z]at e2;cases e2
  | some j =>
   rw[z]at e2;have e2:(σ[j]?).join=some v:=e2;obtain⟨hX,hf⟩:=S.link i j x (by rw[dy hi,z]) e1
   have hm:=ez hf;have Ve:=S.free _ hm rfl;obtain⟨m,hn,hl⟩:=I.loc;obtain⟨u,r,l⟩:=hl j x v hX (by
    cases q:σ[j]? with
    | none=>rw[q]at e2;cases e2
    | some q'=>rw[q]at e2;cases q' with
     | none=>cases e2
     | some v'=>cases e2;rfl) (by rcases Ve with q | q;exact .inr (.inl q);exact .inr (.inr q))
   refine⟨u,r,.inr ⟨uL hf,?_⟩⟩;obtain⟨c,hc⟩:=pV scope.names [] hm (vQ _ hm rfl);obtain⟨c',Dn⟩:=gC hc;refine⟨c',Dn,?_⟩;rcases l with⟨lk,_⟩ | ⟨_,d,hd,rF⟩
   ·rcases Ve with q | q<;>(rw[show X.env.kindOf x=some .local from lk]at q;cases q)
   ·have:=dr Dn;rw[hd]at this;cases this;exact rF.keeps hk
 ·obtain⟨v,o,ho,hd⟩:=I.cell x c (dr e);exact⟨v,o,hk _ _ ho,hd⟩
end
abbrev TB:=V->St->Hp->(Option V->St->Hp->Prop)->Prop
def PB(X:Cx)(tg:Expr)(ifs:List Expr)(elt:Expr)(tb:TB):Prop :=
 ∀(ah:List (Addr×Obj)) (s:Shared) (σ:St) (H:Hp) (v:V) (u:Value) (Q:Option V->St->Hp->Prop),Inv X ah σ H s->RelV v u->tb v σ H Q ->
  wpAny (model X.prog X.w) X.A (assign tg X.env u) (λ_ s2=>wpAny (model X.prog X.w) X.A (AQ ifs X.env) (λok s3 =>
   if ok=true then wpAny (model X.prog X.w) X.A (eval elt X.env) (λy s4=>∃v' bz H',Inv X ah bz H' s4/\RelV v' y/\Q (some v') bz H') X.xe s3
   else ∃bz H',Inv X ah bz H' s3/\Q none bz H') X.xe s2) X.xe s
def ES(hg:PG X tg g)(he:PE X elt te):PB X tg [] elt (λv σ H Q=>g v σ H λg8 H1=>te g8 H1 λy H2=>Q (some y) g8 H2):=by
 intro ah s σ H v u Q I r h;refine thn (hg ah s σ H v u _ I r h) λ_ s2 ⟨g8,H1,I1,q1⟩=>ak ?_
 rw[if_pos rfl];exact thn (he ah s2 g8 H1 _ I1 q1) (by rintro y s4 ⟨v',H2,I2,r2,q2⟩;exact⟨v',g8,H2,I2,r2,q2⟩)
def Jk(hg:PG X tg g)(hc:PT X c tc)(he:PE X elt te) :
  PB X tg [c] elt (λv σ H Q=>g v σ H λg8 H1=>tc g8 H1 λb H2=>if b=true then te g8 H2 λy H3=>Q (some y) g8 H3 else Q none g8 H2):=by
 intro ah s σ H v u Q I r h;refine thn (hg ah s σ H v u _ I r h) λ_ s2 ⟨g8,H1,I1,q1⟩=>?_
 refine wpAny_tests_one (thn (hc ah s2 g8 H1 _ I1 q1) λb s3 ⟨H2,I2,q2⟩=>?_)
 cases b with
 | true =>
  rw[if_pos rfl]at q2 ⊢;exact thn (he ah s3 g8 H2 _ I2 q2) (by rintro y s4 ⟨v',H3,I3,r3,q3⟩;exact⟨v',g8,H3,I3,r3,q3⟩)
 | false =>
  rw[if_neg bB]at q2 ⊢;exact⟨g8,H2,I2,q2⟩
def rX(link:List (Option Nat))(wi:TI)(tb:TB):TE:=λσ H Q=>wi σ H λJ H1=>∃W:Nat->Nat->List V->St->Hp->Prop,(∃m,W 0 m [] (iy link σ) H1)/\∀i m acc bz H',W i m acc bz H' ->
 (J.stop i H'/\acc.length<=sizeLine/\∀D,H' D=none->Q (.ref D) (cy H' D (.lst acc))) \/
 (J.go i H'/\acc.length<sizeLine/\∀x H2,J.yld i H' x H2->tb x bz H2 λo m7 H3=>∃m',m'<m/\W (i+1) m' (acc++o.toList) m7 H3)
structure WN (X:Cx) (ah:List (Addr×Obj)) (H:Hp) (C:Addr):Prop where
 free:H C=none
 above:X.s₀.heap.objs.size<=C
 loc:C≠X.env.locals
 cell:∀x c,X.env.cells.lookup x=some c->c≠C
 pin:∀p∈X.pn++ah,p.1≠C
def rY(hc:X.calm=true)(S:gJ X N link scope)(hi:PI X tg iter wi)
  (hb:∀(C:Addr) (s:Shared) (H:Hp) (fp:List Addr),PB (bY X N scope C s H fp) tg ifs elt tb) (hs:∀x,foldedSetIterable iter X.env x=pure x) (I:Inv X ah σ H s) (h:rX link wi tb σ H Q)
  (WO:∀(s5:Shared) (D C:Addr) (H5:Hp) (m:Str->Option Value),Inv X ah σ H5 s5->Q (.ref D) H5->s5.heap.Ns C m->WN X ah H5 C->compPost (model X.prog X.w) X.A X.xe use Q' (.ref D) C (.ok .next) s5) :
  wpAny (model X.prog X.w) X.A (comprehension (.ListComp elt [⟨tg,iter,ifs,0⟩] scope pos) scope X.env mZ (newList []) false (eval iter X.env) use) Q' X.xe s:=by
 have vQ:∀y∈scope.names,y.2=.free->∃c,X.env.cells.lookup y.1=some c:=λy hy hf=>I.ok.has y.1 (S.free y hy hf)
 refine wpAny_comprehension_free rfl hs (ze vQ) S.kind S.names (thn (hi ah s σ H _ I h) λv s1 h1=>thn h1 λV7 s2 h2=>?_)
 obtain⟨it,fp,tn,J,H2,rfl,I2,T,dh,f2,W,⟨m0,w0⟩,o7⟩:=h2;refine jS (wpAny_newFunctionEnv S.cell (by grind) (λfZ ns sb=>?_) S.kind)
 dsimp only at ns sb ⊢
 generalize hD:s2.heap.push {cls:=.type "list",dict:=none,data:=.seq [].toArray}=HD at ns sb ⊢
 have hC:HD.objs.size=s2.heap.objs.size+1:=by rw[<-hD,dz]
 have Vf:s2.heap.objs.size≠HD.objs.size:=by grind
 have ET:s2.heap.objs.size<=HD.objs.size:=by grind
 have old:∀b o,s2.heap.get? b=some o->fZ.get? b=some o:=λb o e=>by
  have uM:=aG e;exact sb.extBut b o (aZ (bQ uM ET)) (aE _ (by rw[<-hD];exact aE _ e))
 have WQ:fZ.get? s2.heap.objs.size=some {cls:=.type "list",data:=.seq [].toArray} :=
  sb.extBut _ _ Vf (aE _ (by rw[<-hD];exact bu _ rfl))
 generalize eD:s2.heap.objs.size=D at *
 generalize eC:HD.objs.size=C at *
 have Zb:∀b∈fp,∃o,s2.heap.get? b=some o:=λb jt=>let ⟨o,e,_⟩:=T.obj _ _ dh b jt;⟨o,e⟩
 have I3:∀tk,Inv (bY X N scope C s2 H2 fp) [] (iy link σ) H2 {s2 with heap:=fZ,toks:=tk}:=λtk =>
  zf S I2 f2 (by rw[eD];exact ET) ns old Zb
 have Zc:∀b∈fp,b≠D:=λb jt z=>by
  obtain⟨o,e⟩:=Zb b jt;have:=aG e;rw[z,<-eD]at this;exact eI _ this
 have yQ:∀{H':Hp} {pl:List (Addr×Obj)},(∀b∈fp,H' b=none)->(∀p∈pl,p.1=D)->∀b∈fp,o8 (bY X N scope C s2 H2 fp) pl H' b:=λ{H' pl} hn hp b jt=>by
  have K0:=(I3 0).ok.exf b jt;exact⟨hn b jt,K0.1,(I3 0).ok.exfs b jt,.inl jt,K0.2,λp Cw z=>Zc b jt (z▸hp p (by simpa[bY]using Cw))⟩
 have Se:∀x c,(bY X N scope C s2 H2 fp).env.cells.lookup x=some c->c≠D:=λx c e z=>by
  obtain⟨v,o,ho,_⟩:=I2.cell x c (dr e);have:=aG ho;rw[z,<-eD]at this;exact eI _ this
 have fsD:D∉(bY X N scope C s2 H2 fp).fs:=λz=>by
  obtain⟨_,o,ho,_⟩:=I2.stack.mem z;have:=aG ho;rw[<-eD]at this;exact eI _ this
 have loop:∀s3:Shared,s3={s2 with heap:=fZ,toks:=s2.toks+([]:List (Str×Value)).length} ->
   codeAny (model X.prog X.w) X.A (.compLoop (.ListComp elt [⟨tg,iter,ifs,0⟩] scope pos) 0 (.ref it) (.ref D) (bY X N scope C s2 H2 fp).env) (compPost (model X.prog X.w) X.A X.xe use Q' (.ref D) C) s3:=by
  rintro s3 rfl
  refine Cu (λn s'=>∃i acc bz H' aw nn,Inv (bY X N scope C s2 H2 fp) [] bz H' s'/\tn i s'.heap/\(∀b∈fp,H' b=none)/\H' D=none/\s'.heap.get? D=some {cls:=.type "list",data:=.seq aw.toArray nn}/\Vals acc aw/\W i n acc bz H') ?_ m0
   ⟨0,[],_,H2,[],0,I3 _,T.keep _ _ _ dh λb jt o e=>old b o e,λb jt=>(f2 b jt).1,I2.hok.fresh (iR eD),WQ,.nil,w0⟩
  rintro n s4 ⟨i,acc,K3,H4,aw,nn,I4,Dp,Zd,hD4,Es,hv,w4⟩
  have Sf:Inv (bY X N scope C s2 H2 fp) [(D,{cls:=.type "list",data:=.seq aw.toArray nn})] K3 H4 s4:=I4.kJ λp hp=>by
   have e:p=(D,{cls:=.type "list",data:=.seq aw.toArray nn}):=by simpa using hp
   subst e;exact⟨Es,hD4,Vf,fsD,λv=>by simp⟩
  have EU:∀p∈[(D,({cls:=.type "list",data:=.seq aw.toArray nn}:Obj))],p.1=D:=λp hp=>by
   have e:p=(D,{cls:=.type "list",data:=.seq aw.toArray nn}):=by simpa using hp
   rw[e]
  rcases o7 i n acc K3 H4 w4 with⟨stop,hz,q⟩ | ⟨go,hz,step⟩
  ·refine thn (T.done (bY X N scope C s2 H2 fp) rfl rfl rfl hc i _ s4 K3 H4 _ Sf (yQ Zd EU) Dp stop) λr s5 ⟨hr,I5⟩=>?_
   subst hr;obtain⟨m,hn,_⟩:=I5.loc;have pD:=I5.pin (D,{cls:=.type "list",data:=.seq aw.toArray nn}) (eu _ (cj.mpr rfl))
   have K8:∀b o,s2.heap.get? b=some o->b≠D/\b≠C:=λb o e=>by
    have:=aG e;rw[eD]at this;exact⟨aZ this,aZ (bQ this ET)⟩
   have K9:X.env.locals≠D/\X.env.locals≠C:=by
    have:=I2.lt;rw[eD]at this;exact⟨aZ this,aZ (bQ this ET)⟩
   have I6:=I2.KO I5.os I5.base I5.hok I5.bare λb jt=>⟨(f2 b jt).2.2.2.1,(f2 b jt).2.1,(f2 b jt).2.2.2.2.1,(f2 b jt).2.2.2.2.2⟩
   have I7:=Inv.adopt (o:=.lst acc) I6 pD.2.1 (aJ I2.sz (iR eD)) (bR K9.1) (λx c e=>let ⟨v,o,ho,_⟩:=I2.cell x c e;(K8 c o ho).1)
    (λp hp=>(K8 p.1 p.2 (I2.pin p hp).1).1) ⟨hz,aw,nn,hv,pD.1⟩
   exact WO s5 D C _ m I7 (q D pD.2.1) hn ⟨by rw[aH (bR Vf)];exact I5.free,aJ (aJ I2.sz (iR eD)) ET,bR K9.2,λx c e=>let ⟨v,o,ho,_⟩:=I2.cell x c e;(K8 c o ho).2,λp hp=>(K8 p.1 p.2 (I2.pin p hp).1).2⟩
  ·refine thn (T.item (bY X N scope C s2 H2 fp) rfl rfl rfl hc i _ s4 K3 H4 _ Sf (yQ Zd EU) Dp go) λr s5 ⟨u,hr,h5⟩=>?_
   subst hr;refine thn h5 λ_ Ze z9=>?_
   obtain⟨x,H5,I5,r5,y5,MD,Wb⟩:=z9;have Wc:=I5.pinned (yQ Wb EU) (T.obj _ _ MD);have jr:∀{o:Option V} {U3:St} {H6:Hp} {s6:Shared},Inv (bY X N scope C s2 H2 fp) ([(D,{cls:=.type "list",data:=.seq aw.toArray nn})]++o9 fp Ze.heap) U3 H6 s6 ->
     tn (i+1) s6.heap/\(∀b∈fp,H6 b=none)/\H6 D=none/\s6.heap.get? D=some {cls:=.type "list",data:=.seq aw.toArray nn}:=λ{o U3 H6 s6} I6=>by
    have pD:=I6.pin (D,_) (eu _ (lQ _ (cj.mpr rfl)));refine⟨T.keep _ _ _ MD λb jt o e=>(I6.pin (b,o) (eu _ (eu _ (g9 jt e)))).1,λb jt=>?_,pD.2.1,pD.1⟩
    obtain⟨o,e,d⟩:=T.obj _ _ MD b jt;exact(I6.pin (b,o) (eu _ (eu _ (g9 jt e)))).2.1
   refine j3 (hb C s2 H2 fp _ Ze K3 H5 x u _ Wc r5 (step x H5 y5)) (λ_ s6 h6=>j3 h6 (λok s7 h7=>?_) λ_ _ z=>False.elim z) λ_ _ z=>False.elim z
   cases ok with
   | false =>
    rw[if_neg bB]at h7 ⊢;obtain⟨Vg,H8,I8,m',WR,w8⟩:=h7;obtain⟨a1,a2,a3,a4⟩:=jr (o:=none) I8;exact⟨m',WR,i+1,_,Vg,H8,aw,nn,I8.kJ (λp hp=>by cases hp),a1,a2,a3,a4,by simpa using hv,w8⟩
   | true =>
    rw[if_pos rfl]at h7 ⊢;refine j3 h7 (λy s8 z9=>?_) λ_ _ z=>False.elim z
    obtain⟨v8,Vg,H8,I8,r8,m',WR,w8⟩:=z9;obtain⟨a1,a2,a3,a4⟩:=jr (o:=some v8) I8;have hl:=hv.length;refine fx F.slot_list_append ⟨_,a4,rfl⟩ F.entry_list_append (F.args_list_append_2 _ _) (PySem.list_append D aw.toArray nn y (by rw[bW];lia)) ⟨a4,?_⟩
    have I9:Inv (bY X N scope C s2 H2 fp) [] Vg H8 s8:=I8.kJ (λp hp=>by cases hp)
    have qq:=PySem.IsL.update a4 λz=>z.push y
    have hp:aw.toArray.push y=(aw++[y]).toArray:=by simp
    rw[hp]at qq;refine⟨m',WR,i+1,_,Vg,H8,aw++[y],_,I9.turned (λb o hne e=>(iL _ _ (bR hne)).trans e) a3 Vf (.inr (iR eD)) Se (λp hp=>by simp[bY]at hp),T.keep _ _ _ a1 λb jt o e=>(iL _ _ (bR (Zc b jt))).trans e,a2,a3,qq,hv.append (.cons r8 .nil),w8⟩
 exact codeAny_compStart_list (loop _ rfl) (T.self _ 0 _ _ _ (T.keep _ _ _ dh λb jt o e=>old b o e) (loop _ rfl))
def AR(hc:X.calm=true)(S:gJ X N link scope)(hi:PI X tg iter wi)
  (hb:∀(C:Addr) (s:Shared) (H:Hp) (fp:List Addr),PB (bY X N scope C s H fp) tg ifs elt tb) (hs:∀x,foldedSetIterable iter X.env x=pure x:=by intro _;rfl) :
  PE X (.ListComp elt [⟨tg,iter,ifs,0⟩] scope pos) (rX link wi tb):=by
 intro ah s σ H Q I h;rw[eval_ListComp];refine rY hc S hi hb hs I h λs5 D C H5 m I5 q hn L=>⟨m,hn,λh' sb=>?_⟩
 exact⟨.ref D,H5,I5.turned (λb o hne e=>(sb.2 b hne).trans e) L.free L.loc (.inr L.above) L.cell L.pin,rfl,q⟩
def AS(hc:X.calm=true)(hN:X.N.Nodup)(hx:X.N[i]?=some x)(hl:X.env.scope.names.lookup x=some .local)(S:gJ X N link scope)(hi:PI X tg iter wi)
  (hb:∀(C:Addr) (s:Shared) (H:Hp) (fp:List Addr),PB (bY X N scope C s H fp) tg ifs elt tb) (hw:swapsWith (.ListComp elt [⟨tg,iter,ifs,0⟩] scope pos) (some (.Name x mZ)) Cy.line X.env=pure true) (hs:∀x,foldedSetIterable iter X.env x=pure x:=by intro _;rfl) :
  PS X (.Assign [.Name x mZ] (.ListComp elt [⟨tg,iter,ifs,0⟩] scope pos) Cy) (Ib (rX link wi tb) (gName i)):=by
 intro ah s σ H D I h;rw[exec_Assign_Name_used _ _ _ _ hw];refine ai (t9 (ai ?_));refine ai (thn (rY hc S hi hb hs I h λs5 a C H5 m I5 q hn L=>?_) λ_ s' q=>ak (ak q))
 refine wpAny_assign_Name (store_ok2 (v:=.ref a) I5 hN hx (.inl hl) rfl (λs6 I6 k=>?_) (.inr hl))
 refine⟨m,?_,λh' sb=>?_⟩
 ·obtain⟨o,es,ep,ho,r⟩:=hn;obtain⟨b,sb1,hor⟩:=k;have ne:C≠b:=λz=>by
   rcases hor with w | w
   ·exact L.loc (z.trans w)
   ·exact L.cell x b w z.symm
  exact⟨o,es,ep,(sb1.2 C ne).trans ho,r⟩
 ·exact⟨_,H5,I6.turned (λb o hne e=>(sb.2 b hne).trans e) L.free L.loc (.inr L.above) L.cell L.pin,q⟩
noncomputable def cU(link:List (Option Nat))(ρ:List (Option PV)):List (Option PV):=link.map λo=>o.bind λj=>(ρ[j]?).join
def KG(L:List Nat)(g:Tg):Prop:=∀p st st1,g p st=some st1->st1.ρ.length=st.ρ.length/\∀j:Nat,j∉L->st1.ρ[j]?=st.ρ[j]?
def Sh(L:List Nat)(g:Qb):Prop:=∀p st st1,g p st=some st1->st1.ρ.length=st.ρ.length/\∀j:Nat,j∉L->st1.ρ[j]?=st.ρ[j]?
def Jl(i:Nat):KG [i] (du i):=λp st st1 h=>by
 obtain⟨_,rfl⟩:=aC h;exact⟨jW,λj hj=>bV (λz=>hj (by simp[z]))⟩
def Jm:Sh [] Cj:=λp st st1 h=>by
 cases p with
 | nil=>cases h;exact⟨rfl,λ_ _=>rfl⟩
 | cons _ _=>cases h
def EV(h1:KG L g)(h2:Sh M r):Sh (L++M) (pN g r):=λp st st1 h=>by
 cases p with
 | nil=>cases h
 | cons p ps =>
  obtain⟨dh,e1,e2⟩:=aK h;obtain⟨l1,k1⟩:=h1 p st dh e1;obtain⟨l2,k2⟩:=h2 ps dh st1 e2;exact⟨l2.trans l1,λj hj=>(k2 j λz=>hj (eu _ z)).trans (k1 j λz=>hj (lQ _ z))⟩
def NM(h:Sh L r):KG L (za n r):=λp st st1 e=>by
 unfold za at e;split at e
 ·obtain⟨_,e⟩:=bL e;exact h _ st st1 e
 ·obtain⟨_,e⟩:=bL e;exact h _ st st1 e
 ·cases e
section
variable {K:W.Frag} {F:Fz} {ρ:List (Option PV)} {σ:St}
def Lc.iy(L:Lc K F ρ σ)(link:List (Option Nat)):Lc K F (cU link ρ) (iy link σ) where
 av:=λi p e=>by
  unfold cU at e;rw[cJ]at e;cases z:link[i]? with
  | none=>rw[z]at e;cases e
  | some o =>
   rw[z]at e;cases o with
   | none=>cases e
   | some j =>
    have e:(ρ[j]?).join=some p:=bC e;cases w:ρ[j]? with
    | none=>rw[w]at e;cases e
    | some q =>
     rw[w]at e;cases e;obtain⟨v,h1,h2⟩:=L.av j p w;refine⟨v,?_,h2⟩;unfold L2.U.iy;rw[cJ,z];show some ((σ[j]?).join)=_;rw[h1];rfl
 len:=by unfold cU L2.U.iy;rw[aQ,aQ]
def Lc.back{L:List Nat}(R:Lc K F La σ)(hl:WS.length=σ.length)(h0:WS=cU link ρ)(hk:∀j:Nat,j∉L->La[j]?=WS[j]?)(hL:∀i∈L,link[i]?=some none):Lc K F WS σ where
 av:=λi p e=>by
  refine R.av i p ?_;rw[hk i λhi=>?_]
  ·exact e
  ·rw[h0]at e;unfold cU at e;rw[cJ,hL i hi]at e;cases e
 len:=hl
end
noncomputable def WT{α:Type}:Rs α×bP->Option (α×List aj)
 | (.ok a,st)=>some (a,st.h)
 | _=>none
abbrev Bd:=List (Option PV)->PV->List aj->Option (Option PV×List aj)
def pW(g:Tg)(fe:Gx PV):Bd:=λρ p h=>(g p ⟨ρ,h⟩).bind λst1=>(fe st1).bind λr=>(WT r).map λx=>(some x.1,x.2)
def wx(g:Tg)(ft:Gx Bool)(fe:Gx PV):Bd:=λρ p h=>(g p ⟨ρ,h⟩).bind λst1=>(ft st1).bind λr=>match r with
 | (.ok b,dh)=>if b=true then(fe dh).bind λr=>(WT r).map λx=>(some x.1,x.2)else some (none,dh.h)
 | _=>none
noncomputable def dU(bd:PV->List aj->Option (Option PV×List aj)):List PV->List aj->Option (List PV×List aj)
 | [],h=>some ([],h)
 | p::ps,h=>(bd p h).bind λr=>(dU bd ps r.2).map λs=>(r.1.toList++s.1,s.2)
section
variable {X:Cx} {af:Hp} {ag:Fz} {N:List Str} {link:List (Option Nat)} {scope:Scope} {tg iter elt c:Expr} {pos:Pos} {fi:Gx (List PV)} {g:Tg} {fe:Gx PV} {ft:Gx Bool} {L:List Nat} {cl:Bool}
def wz(e:WT r=some (a,h)):∃st,r=(.ok a,st)/\st.h=h:=by
 obtain⟨r,st⟩:=r;cases r with
 | ok x=>cases e;exact⟨st,rfl,rfl⟩
 | ex m C=>cases e
def _root_.L2.U.PB.imp(h:PB Y tg ifs elt tb)(i:∀v σ H Q,tb' v σ H Q->tb v σ H Q):PB Y tg ifs elt tb':=λah s σ H v u Q I r w=>h ah s σ H v u Q I r (i _ _ _ _ w)
def Zf(X:Cx)(af:Hp)(ag:Fz)(g:Tg)(fe:Gx PV):TB:=λv σ H Q=>tG X.K af ag g v σ H λg8 H1=>∀Y:Cx,Y.K=X.K->tE Y af ag fe g8 H1 λy H2=>Q (some y) g8 H2
def Zg(X:Cx)(af:Hp)(ag:Fz)(g:Tg)(ft:Gx Bool)(fe:Gx PV):TB:=λv σ H Q=>tG X.K af ag g v σ H λg8 H1=>∀Y:Cx,Y.K=X.K->tT Y af ag ft g8 H1 λt H2=>if t=true then tE Y af ag fe g8 H2 λy H3=>Q (some y) g8 H3 else Q none g8 H2
section
variable (ht:∀(C:Addr) (s:Shared) (H:Hp) (fp:List Addr),PG (bY X N scope C s H fp) tg (tG X.K af ag g)) (he:∀(C:Addr) (s:Shared) (H:Hp) (fp:List Addr),PE (bY X N scope C s H fp) elt (tE (bY X N scope C s H fp) af ag fe))
include ht he
def Zh(C:Addr)(s:Shared)(H:Hp)(fp:List Addr):PB (bY X N scope C s H fp) tg [] elt (Zf X af ag g fe) :=
 (ES (ht C s H fp) (he C s H fp)).imp (by rintro v σ H Q ⟨F,st,p,st',R,b,e,q⟩;exact⟨F,st,p,st',R,b,e,λbz H' F' R' g'=>q bz H' F' R' g' _ rfl⟩)
def Zi(hw:∀(C:Addr) (s:Shared) (H:Hp) (fp:List Addr),PT (bY X N scope C s H fp) c (tT (bY X N scope C s H fp) af ag ft))(C:Addr)(s:Shared)(H:Hp)(fp:List Addr):PB (bY X N scope C s H fp) tg [c] elt (Zg X af ag g ft fe) :=
 (Jk (ht C s H fp) (hw C s H fp) (he C s H fp)).imp (by rintro v σ H Q ⟨F,st,p,st',R,b,e,q⟩;exact⟨F,st,p,st',R,b,e,λbz H' F' R' g'=>q bz H' F' R' g' _ rfl⟩)
end
def nR(h:tS X af ag (kX fe (du i)) D σ H):tE X af ag fe σ H λv H1=>D.nx (σ.set i (some v)) H1:=by
 obtain⟨F,st,R,h⟩:=h;refine⟨F,st,R,h.bnd λp v F1 st1 H1 R1 g1 b1 h1=>?_⟩
 obtain⟨st',e,z⟩:=h1.stp;obtain⟨hi,rfl⟩:=aC e;exact z F1 _ H1 ⟨R1.c,R1.l.set hi b1⟩ (Gr.refl _)
end
def SI(h:Heap)(it l:Addr)(k:Nat)(xs:Array Value):Prop:=(h.IsListIter it l k/\h.IsList l xs)\/(h.IsTupleIter it l k/\h.IsTuple l xs)
def SI.at{h h':Heap}{it l:Addr}{k:Nat}{xs:Array Value}(x:SI h it l k xs)(h1:∀o,h.get? it=some o->h'.get? it=some o)(h2:∀o,h.get? l=some o->h'.get? l=some o):SI h' it l k xs:=by
 rcases x with⟨⟨o,e,r⟩,⟨o',e',r'⟩⟩ | ⟨⟨o,e,r⟩,⟨o',e',r'⟩⟩
 ·exact .inl ⟨⟨o,h1 o e,r⟩,⟨o',h2 o' e',r'⟩⟩
 ·exact .inr ⟨⟨o,h1 o e,r⟩,⟨o',h2 o' e',r'⟩⟩
def SI.Lb{h:Heap}{it l:Addr}{k:Nat}{xs:Array Value}(x:SI h it l k xs):∃o,h.get? it=some o/\∃vs,o.data=.fields vs:=by
 rcases x with⟨⟨o,e,_,d⟩,_⟩ | ⟨⟨o,e,_,d⟩,_⟩
 ·grind
 ·grind
def SI.sq{h:Heap}{it l:Addr}{k:Nat}{xs:Array Value}(x:SI h it l k xs):∃o n,h.get? l=some o/\o.data=.seq xs n:=by
 rcases x with⟨_,⟨o,e,_,n,d⟩⟩ | ⟨_,⟨o,e,_,n,d⟩⟩
 ·grind
 ·grind
def SI.ne{h:Heap}{it l:Addr}{k:Nat}{xs:Array Value}(x:SI h it l k xs):l≠it:=λz=>by
 obtain⟨o,e,vs,d⟩:=x.Lb;obtain⟨o',n,e',d'⟩:=x.sq;subst z;rw[e]at e';cases e';rw[d]at d';cases d'
section
variable {prog:Program} {w:World} {A:Around} {E:Value->Shared->Prop} {s:Shared}
def zg{it t:Addr}{i:Nat}{aw:Array Value}{x:Value}{Q:Value->Shared->Prop}(NN:s.heap.IsTupleIter it t i)(ht:s.heap.IsTuple t aw)(hx:aw[i]?=some x)
  (hQ:∀h',h'.IsTupleIter it t (i+1)->Heap.SameBut it s.heap h'->Q x {s with heap:=h'}):wpAny (model prog w) A (Builtin.SmallTypes.nextOf (.ref it)) Q E s:=by
 obtain⟨o,ho,hc,hd⟩:=id NN;obtain⟨ol,WU,_,nl,NO⟩:=ht;refine ai (fq NN.typeIs sX (eE sX NN.typeIs Dy (by
  show wpAny _ _ (field (.ref it) 0 >>= _) _ _ s;refine ai (cx ho hd rfl ?_);show wpAny _ _ (if(Value.ref t==Value.none)=true then _ else _) _ _ s
  rw[if_neg (show ¬((Value.ref t==Value.none)=true)from bB)]
  show wpAny _ _ (field (.ref it) 1 >>= _) _ _ s;refine ai (cx ho hd (x:=.int i 0) rfl ?_);show wpAny _ _ (seqItems? (.ref t) >>= _) _ _ s;refine ai (eG WU NO ?_);simp only[jR,hx];refine ai (wpAny_setField ho hd (by simp) (ak ⟨x,rfl,ak (hQ _ ⟨_,lP _ ho (Obj.isFreed_of_fields (Obj.data_mapFields hd _)),(Obj.cls_mapFields ..).trans hc,by rw[Obj.data_mapFields hd];simp[rawInt]⟩ (Heap.SameBut.update ..))⟩))) (Dx _)))
def zh{it t:Addr}{i:Nat}{aw:Array Value}{Q:Value->Shared->Prop}(hh:A.handled=none)(NN:s.heap.IsTupleIter it t i)(ht:s.heap.IsTuple t aw)(hx:aw[i]?=none)
  (hE:∀h' e,Heap.ExtBut it s.heap h'->(∃o,h'.get? e=some o/\o.cls=.type "StopIteration")->E (.ref e) {s with heap:=h'}):wpAny (model prog w) A (Builtin.SmallTypes.nextOf (.ref it)) Q E s:=by
 obtain⟨o,ho,hc,hd⟩:=id NN;obtain⟨ol,WU,_,nl,NO⟩:=ht;refine ai (fq NN.typeIs sX (eE sX NN.typeIs Dy (by
  show wpAny _ _ (field (.ref it) 0 >>= _) _ _ s;refine ai (cx ho hd rfl ?_);refine ai (cx ho hd (x:=.int i 0) rfl ?_);show wpAny _ _ (seqItems? (.ref t) >>= _) _ _ s;refine ai (eG WU NO ?_);simp only[jR,hx];refine ai (gW (ai (wpAny_setField ho hd (by simp) ?_)))
  show wpAny _ _ (newExc (.type "StopIteration") [] >>= _) _ _ _;refine ai ?_;simp only[newExc,newTuple];refine ai (jS ?_ (by size_fits))
  refine ai (m:=firstArgMember _ _) (wpAny_of_eq (a:=Value.none) (by first | rfl | (simp only[firstArgMember];rfl)) ?_)
  refine jS ?_ (by size_fits)
  simp only[raiseNew];refine ai (wpAny_handled ?_)
  first | rw[show A.in1.handled=none from hh] | rw[hh]
  exact ai (ak (wpAny_throw (hE _ _ (((Heap.SameBut.update ..).extBut.push _).push _) ⟨_,bu _ rfl,rfl⟩)))) (Dx _)))
def SI.next{it l:Addr}{k:Nat}{xs:Array Value}{x:Value}{Q:Value->Shared->Prop}(hi:SI s.heap it l k xs)(hx:xs[k]?=some x)(hQ:∀h',SI h' it l (k+1) xs->Heap.SameBut it s.heap h'->Q x {s with heap:=h'}) :
  wpAny (model prog w) A (Builtin.SmallTypes.nextOf (.ref it)) Q E s:=by
 have ne:=hi.ne;rcases hi with⟨h1,h2⟩ | ⟨h1,h2⟩
 ·exact wpAny_nextOf_list_item h1 h2 hx λh' a b=>hQ h' (.inl ⟨a,h2.extBut b.extBut ne⟩) b
 ·exact zg h1 h2 hx λh' a b=>hQ h' (.inr ⟨a,h2.extBut b.extBut ne⟩) b
def SI.stop{it l:Addr}{k:Nat}{xs:Array Value}{Q:Value->Shared->Prop}(hh:A.handled=none)(hi:SI s.heap it l k xs)(hx:xs[k]?=none)
  (hE:∀h' e,Heap.ExtBut it s.heap h'->(∃o,h'.get? e=some o/\o.cls=.type "StopIteration")->E (.ref e) {s with heap:=h'}):wpAny (model prog w) A (Builtin.SmallTypes.nextOf (.ref it)) Q E s:=by
 rcases hi with⟨h1,h2⟩ | ⟨h1,h2⟩
 ·exact wpAny_nextOf_list_end hh h1 h2 hx hE
 ·exact zh hh h1 h2 hx hE
end
def nl{a b:Nat}(h:a<b):@Ne Addr a b:=aZ h
section
variable {prog:Program} {w:World} {A:Around} {E:Value->Shared->Prop} {s:Shared} {z TI TO i1 i2 l1 l2:Nat} {k:Nat} {xs ys:Array Value}
def gK(h:Heap)(l:Addr)(xs:Array Value)(c:String):Prop:=(c="list_iterator"/\h.IsList l xs)\/(c="tuple_iterator"/\h.IsTuple l xs)
def jv{l:Addr}{xs:Array Value}{c:String}{Q:Value->Shared->Prop}(h:gK s.heap l xs c)(hQ:Q (.ref s.heap.objs.size) {s with heap:=s.heap.push {cls:=.type c,data:=.fields #[.ref l,.int 0 0]}}):wpAny (model prog w) A (pyIter (.ref l)) Q E s:=by
 rcases h with⟨rfl,h⟩ | ⟨rfl,h⟩
 ·exact yn h hQ
 ·exact wpAny_pyIter_tuple h hQ
end
def qQ(K:W.Frag)(H:Hp)(c:Bool)(l:Addr)(vs:List V):Prop:=if c=true then uk K H l vs else gY K H l vs
def Dq(h:Heap)(c:Bool)(it l:Addr)(k:Nat):Prop:=if c=true then h.IsListIter it l k else h.IsTupleIter it l k
noncomputable def jE(c:Bool):String:=if c=true then "list_iterator" else "tuple_iterator"
section
variable {X:Cx} {ah:List (Addr×Obj)} {σ:St} {H:Hp} {s:Shared}
def qQ.get(I:Inv X ah σ H s){c:Bool}{l:Addr}{vs:List V}(h:qQ X.K H c l vs):∃aw:List Value,Vals vs aw/\gK s.heap l aw.toArray (jE c):=by
 unfold jE;cases c with
 | true =>
  obtain⟨aw,r,pl,_⟩:=I.list (h);exact⟨aw,r,.inl ⟨rfl,pl.isList⟩⟩
 | false =>
  obtain⟨aw,r,pl,_⟩:=I.tuple (h);exact⟨aw,r,.inr ⟨rfl,pl⟩⟩
def qQ.inj(I:Inv X ah σ H s){c:Bool}{l:Addr}{vs ws:List V}(h:qQ X.K H c l vs)(h':qQ X.K H c l ws):vs=ws:=by
 cases c with
 | true=>exact I.kL h h'
 | false=>exact I.js h h'
def rZ{h:Heap}{c:Bool}{it l:Addr}{k:Nat}{xs:Array Value}(h1:Dq h c it l k)(h2:gK h l xs (jE c)):SI h it l k xs:=by
 cases c with
 | true =>
  rcases h2 with⟨_,q⟩ | ⟨q,_⟩
  ·exact .inl ⟨h1,q⟩
  ·exact absurd q (by decide)
 | false =>
  rcases h2 with⟨q,_⟩ | ⟨_,q⟩
  ·exact absurd q (by decide)
  ·exact .inr ⟨h1,q⟩
def uN{h:Heap}{c:Bool}{it l:Addr}{k k':Nat}{xs:Array Value}{h0:Heap}(h1:SI h it l k xs)(h2:gK h0 l xs (jE c))(kp:∀o,h0.get? l=some o->h.get? l=some o):Dq h c it l k:=by
 cases c with
 | true =>
  rcases h2 with⟨_,⟨o,e,hc,_⟩⟩ | ⟨q,_⟩
  ·rcases h1 with⟨a,_⟩ | ⟨_,⟨o',e',Dn,_⟩⟩
   ·exact a
   ·grind
  ·exact absurd q (by decide)
 | false =>
  rcases h2 with⟨q,_⟩ | ⟨_,⟨o,e,hc,_⟩⟩
  ·exact absurd q (by decide)
  ·rcases h1 with⟨_,⟨o',e',Dn,_⟩⟩ | ⟨a,_⟩
   ·grind
   ·exact a
def Inv.turns{t':Nat}{h':Heap}{ch:List Addr}(I:Inv X ah σ H s)(hf:∀b∈ch,o8 X ah H b)(kp:∀b o,b∉ch->s.heap.get? b=some o->h'.get? b=some o):Inv X ah σ H {s with heap:=h',toks:=t'}:=by
 have QH:∀b u,H b=some u->b∉ch:=λb u e z=>by rw[(hf b z).1]at e;cases e
 refine I.step (λb hb=>⟨(hf b hb).2.2.2.1,(hf b hb).2.1,(hf b hb).2.2.2.2.1,(hf b hb).2.2.2.2.2⟩) (λb o _ _ hc e _=>kp b o hc e) (λb o _ _ hc e _=>⟨o.slots,kp b o hc e⟩) (λ_ _ _ _ n=>n)
  (λb o hc e=>⟨o,kp b o hc e⟩) (λ_ _ e=>e) (λ_ _ _ e=>e) (λ_ _ e=>e) (λm hm=>?_) (λb u e=>?_) I.bare
 ·obtain⟨o,es,ep,ho,r⟩:=hm;exact⟨o,es,ep,kp _ o (λz=>(hf _ z).2.1 rfl) ho,r⟩
 ·refine(I.hok b u e).vN (λc v hc q=>kp c v ?_ q) (λ_ q=>q) (λ_ _ q=>q) λ_ _ _ q=>q
  rcases hc with z | z
  ·rw[z];exact QH b u e
  ·exact QH c _ z
end
def Dq.at{h h':Heap}{c:Bool}{it l:Addr}{k:Nat}(x:Dq h c it l k)(h1:∀o,h.get? it=some o->h'.get? it=some o):Dq h' c it l k:=by
 cases c with
 | true =>
  obtain⟨o,e,r⟩:=(x);exact(⟨o,h1 o e,r⟩)
 | false =>
  obtain⟨o,e,r⟩:=(x);exact(⟨o,h1 o e,r⟩)
def Dq.obj{h:Heap}{c:Bool}{it l:Addr}{k:Nat}(x:Dq h c it l k):∃o,h.get? it=some o/\∀v,o.data≠.cell v:=by
 unfold Dq at x;split at x
 ·obtain⟨o,e,_,d⟩:=x;exact⟨o,e,λv=>by grind⟩
 ·obtain⟨o,e,_,d⟩:=x;exact⟨o,e,λv=>by grind⟩
def EW{prog:Program}{w:World}{A:Around}{it l:Addr}{xs:Array Value}(hh:A.handled=none):Draws prog w A it [it,l] xs.size (λi x=>xs[i]?=some x) (λi h=>SI h it l i xs) where
 live:=λi h st=>by
  obtain⟨o,e,_⟩:=st.Lb;exact⟨o,e⟩
 frame:=λi h h' st k=>st.at (λo e=>k it (by simp) o e) (λo e=>k l (by simp) o e)
 item:=λi s Q E hi st hQ=>SI.next st (ot hi) λh' a b=>hQ _ h' s.toks (ot hi) a b
 done:=λs Q E st hE=>SI.stop hh st (jN (az _)) hE
set_option maxHeartbeats 2000000 in
theorem EX(l:Addr)(xs:Array Value)(c:String)(part:Obj) :
  Meets (Builtin.«enumerate.__new__» ⟨[.type "enumerate",.ref l],[]⟩) (λ_ R s=>gK s.heap l xs c/\s.heap.get? l=some part /\
   ∀h1 h2:Heap,h1=s.heap.push {cls:=.type c,data:=.fields #[.ref l,.int 0 0]}->h2=h1.push {cls:=.type "enumerate",data:=.fields #[.none,.bool false,.ref s.heap.objs.size,rawInt 0,.none,.none]}->R (.ok (.ret (.ref h1.objs.size))) {s with heap:=h2}) :=
 .of_wp λprog w A R s h=>by
  obtain⟨hp,g,d,tk,os⟩:=s;obtain⟨hl,hpt,h⟩:=h;have hL:gK (Shared.heap ⟨hp,g,d,tk,os⟩) l xs c:=hl;have Jn:=sub_enumerate;rcases hl with⟨rfl,⟨o,e,hc,n,hd⟩⟩ | ⟨rfl,⟨o,e,hc,n,hd⟩⟩
  ·obtain⟨oc,od,WV,Q7⟩:=o;replace hc:oc=.type "list":=hc;replace hd:WV=.seq xs n:=hd
   wp_walk using iK e
   refine wpAny_stack_any λst=>ak ?_
   split
   ·rename_i c' _ _ _ _ _;cases(c'==Value.type "enumerate")<;>(wp_walk using iK e,jv hL)<;>exact⟨_,rfl,h _ _ rfl rfl⟩
   ·wp_walk using iK e,jv hL
    exact⟨_,rfl,h _ _ rfl rfl⟩
  ·obtain⟨oc,od,WV,Q7⟩:=o;replace hc:oc=.type "tuple":=hc;replace hd:WV=.seq xs n:=hd
   wp_walk using iK e
   refine wpAny_stack_any λst=>ak ?_
   split
   ·rename_i c' _ _ _ _ _;cases(c'==Value.type "enumerate")<;>(wp_walk using iK e,jv hL)<;>exact⟨_,rfl,h _ _ rfl rfl⟩
   ·wp_walk using iK e,jv hL
    exact⟨_,rfl,h _ _ rfl rfl⟩
def Jo{prog:Program}{w:World}{A:Around}{E:Value->Shared->Prop}{s:Shared}{e it l:Addr}{k:Nat}{i:Int}{xs:Array Value}{old:Value}{Q:Option Value->Shared->Prop}(hh:A.handled=none)(a1:IsEnum s.heap e it i old)(st:SI s.heap it l k xs)(hx:xs[k]?=none)(hQ:∀h',Heap.ExtBut it s.heap h'->Q none {s with heap:=h'}):wpAny (model prog w) A (pyNext (.ref e)) Q E s:=by
 have ty:s.TypeIs (.ref e) "enumerate":=⟨_,a1,rfl⟩;unfold pyNext;refine ai (jY (fq ty F.slot_enumerate_next (eE F.slot_enumerate_next ty F.entry_enumerate_next (by
  show wpAny _ _ (field (.ref e) 2 >>= _) _ _ _;refine ai (cx a1 rfl rfl (ai (SI.stop hh st hx λh' y sb ⟨o,ho,hc⟩=>?_)))
  exact ai (jT ⟨o,ho,hc⟩ tU (ak (hQ _ sb)))) (F.args_enumerate_next_1 _))))
def Zj(K:W.Frag)(c:Bool)(l:Addr):It where
 go:=λi H=>∃vs v,qQ K H c l vs/\vs[i]?=some v
 yld:=λi H x H'=>∃T v,H T=none/\x=.ref T/\H'=cy H T (.aq [.int i,v])/\∀vs,qQ K H c l vs->vs[i]?=some v
 stop:=λi H=>∃vs,qQ K H c l vs/\vs.length<=i
def eTn(e it l:Nat)(c:Bool)(i:Nat)(h:Heap):Prop:=(∃old,IsEnum h e it i old)/\Dq h c it l i
def Jp{P:Program}{w:World}{K:W.Frag}{elts:List Expr}{x1:Nat}{pj:Pos}{e it l:Nat}{c:Bool}(ord:it<e)(o1:l<it) :
  Turn P w K (.Tuple elts x1 pj) (Zj K c l) [e,it] e (eTn e it l c) where
 mem:=dj
 obj:=by
  rintro i h ⟨⟨_,a1⟩,a2⟩ b hb
  simp only[aW,cK,cM]at hb;rcases hb with rfl | rfl
  ·exact⟨_,a1,λv=>by simp⟩
  ·exact a2.obj
 keep:=(by rintro i h h' ⟨⟨old,a1⟩,a2⟩ k;exact⟨⟨old,k e (by simp) _ a1⟩,a2.at λo x=>k it (by simp) o x⟩)
 item:=by
  rintro X hP hw hK hc i ah s σ H E I hf ⟨⟨old,a1⟩,a2⟩ ⟨vs,v,hv,ev⟩
  subst hP hw hK;obtain⟨aw,r1,k1⟩:=hv.get I;obtain⟨x,ex,rx⟩:=r1.get ev;have ne:e≠it:=oK ord;have Zk:e≠l:=oK (iQ o1 ord);have NO:X.A.in1.handled=none:=I.ok.hd hc;refine wpAny_pyNext_enum_itemD (EW (xs:=aw.toArray) (l:=l) NO) a1 (rZ a2 k1) (by
   have:=(di.mp ex).1;simpa using this) ne (by simp[ne,Zk]) λx' h' tk Cv hO st hT Sb kp=>⟨_,rfl,?_⟩
  have xe:x'=x:=by
   have e1:aw.toArray[i]?=some x:=by simpa using ex
   rw[e1]at Cv;cases Cv;rfl
  subst xe;refine wpAny_letOwnedTupleGo_enum hO λHu WW sb=>?_
  have Si:∀b∈[e,it],b<s.heap.objs.size:=λb hb=>by
   simp only[aW,cK,cM]at hb;have h1:e<s.heap.objs.size:=aG a1;rcases hb with rfl | rfl<;>lia
  have eT:e≠s.heap.objs.size:=aZ (Si e (by simp))
  have Sj:∀b o,b∉[e,it]->s.heap.get? b=some o->Hu.get? b=some o:=λb o hb z=>by
   simp only[aW,cK,cM,not_or]at hb;exact sb.extBut _ _ hb.1 (kp b o hb.1 hb.2 z)
  have I1:Inv X ah σ H {s with heap:=Hu,toks:=tk+1}:=Inv.turns I hf Sj
  have hn:H s.heap.objs.size=none:=I.fresh;have Jq:=I.um (H':=H) (az _) hn;have pr:Hu.get? s.heap.objs.size=some {cls:=.type "tuple",data:=.seq #[.int i tk,x']}:=sb.extBut _ _ (bR eT) hT
  have I2:=Inv.adopt (D:=s.heap.objs.size) (o:=.aq [.int i,v]) I1 hn (by
    rcases Jq.2.2.2.1 with q | q
    ·exact I.sz
    ·exact q) Jq.2.1 Jq.2.2.2.2.1 Jq.2.2.2.2.2 ⟨(by show 2<=sizeLine;decide),[.int i tk,x'],.cons ⟨tk,rfl⟩ (.cons rx .nil),⟨_,pr,rfl,⟨0,rfl⟩,rfl⟩⟩
  refine⟨.ref s.heap.objs.size,_,I2,rfl,⟨s.heap.objs.size,v,hn,rfl,rfl,λvD h1=>?_⟩,⟨⟨_,WW⟩,?_⟩,λb hb=>?_⟩
  ·rw[<-qQ.inj I hv h1];exact ev
  ·have nli:l≠it:=aZ o1;have q:=uN (k':=i) st k1 λo z=>kp l o (bR Zk) nli z
   exact q.at λo z=>sb.extBut _ _ (bR ne) z
  ·rw[aH (aZ (Si b hb))];exact(hf b hb).1
 done:=by
  rintro X hP hw hK hc i ah s σ H E I hf ⟨⟨old,a1⟩,a2⟩ ⟨vs,hv,he⟩
  subst hP hw hK;obtain⟨aw,r1,k1⟩:=hv.get I;have hz:aw.toArray[i]?=none:=jN (by rw[bW,<-r1.length];exact he)
  refine Jo (I.ok.hd hc) a1 (rZ a2 k1) hz λh' sb=>⟨rfl,?_⟩
  exact Inv.turns (t':=s.toks) I hf λb o hb z=>by
   simp only[aW,cK,cM,not_or]at hb;exact sb b o hb.2 z
 self:=(by rintro A i s Q E ⟨⟨_,a1⟩,_⟩ q;exact wpAny_pyIter_enum a1 q)
noncomputable def AU:Expr->Bool
 | .Tuple _ _ _=>true
 | _=>false
noncomputable def nC:PV->Option (List PV)
 | .nd .aq ps=>some ps
 | .nd .lst ps=>some ps
 | _=>none
def eV(p q:PV):PV:=.aq [p,q]
def i9{K:W.Frag}(h:nC p=some ps)(b:aU K F p x):∃c l vs,x=.ref l/\qQ K F.F c l vs/\ax K F ps vs/\∀F',bT F.F F'->qQ K F' c l vs:=by
 unfold nC at h;split at h
 ·cases h;obtain⟨l,vs,rfl,h1,h2⟩:=bF.mp b;exact⟨false,l,vs,rfl,h1,h2,λF' s=>cC s h1⟩
 ·cases h;obtain⟨l,vs,rfl,h1,h2⟩:=cZ.mp b;exact⟨true,l,vs,rfl,h1.sq,h2,λF' s=>(iZ s h1).sq⟩
 ·cases h
def Cz{K:W.Frag}(hs:uk K F.F a vs)(hb:ax K F ps vs):Walk K F ps (U1 K a):=by
 intro af ag F' st σ H R s i;have hq:=(s.s.trans R.sub).seq hs;refine⟨λp e=>?_,λe=>?_⟩
 ·obtain⟨v,e1,b1⟩:=hb.get e;refine⟨⟨vs,v,hq,e1⟩,λx H' ⟨hH,y⟩=>?_⟩
  subst hH;have:=y vs hq;rw[e1]at this;cases this;exact⟨F',R,Gr.refl _,b1.mono s⟩
 ·refine⟨vs,hq,?_⟩;rw[<-hb.length];exact gy.mp e
def EY{K:W.Frag}(hs:gY K F.F a vs)(hb:ax K F ps vs):Walk K F ps (V8 K a):=by
 intro af ag F' st σ H R s i;have hq:=cC (s.s.trans R.sub) hs;refine⟨λp e=>?_,λe=>?_⟩
 ·obtain⟨v,e1,b1⟩:=hb.get e;refine⟨⟨vs,v,hq,e1⟩,λx H' ⟨hH,y⟩=>?_⟩
  subst hH;have:=y vs hq;rw[e1]at this;cases this;exact⟨F',R,Gr.refl _,b1.mono s⟩
 ·refine⟨vs,hq,?_⟩;rw[<-hb.length];exact gy.mp e
noncomputable def EZ(lo:Int)(n:Nat):List PV:=(List.range n).map fun(i:Nat)=>.int (lo+i)
def zi{K:W.Frag}(lo:Int)(n:Nat):Walk K F (EZ lo n) (U2 lo n):=by
 intro af ag F' st σ H R s i;unfold EZ;refine⟨λp e=>?_,λe=>?_⟩
 ·rw[cJ]at e;by_cases hi:i<n
  ·rw[yf hi]at e;cases e;exact⟨hi,λx H' ⟨hH,y⟩=>by subst hH y;exact⟨F',R,Gr.refl _,aD.mpr rfl⟩⟩
  ·rw[td (by simpa using hi)]at e;cases e
 ·rw[cJ]at e;by_cases hi:i<n
  ·rw[yf hi]at e;cases e
  ·exact yr hi
def jL:Nat->List PV->List PV
 | _,[]=>[]
 | k,p::r=>eV (.int k) p::jL (k+1) r
theorem mC:∀(ps:List PV) (k i:Nat),(jL k ps)[i]?=ps[i]?.map λp=>eV (.int ((k+i:Nat):Int)) p
 | [],k,i=>by simp[jL]
 | p::r,k,0=>by simp[jL]
 | p::r,k,i+1=>by
  simp only[jL,List.getElem?_cons_succ];rw[mC r (k+1) i,show k+1+i=k+(i+1) by lia]
def Jr{K:W.Frag}(k1:∀F',bT F.F F'->qQ K F' c l vs)(b1:ax K F ps vs):Walk K F (jL 0 ps) (Zj K c l):=by
 intro af ag F' st σ H R s i;have h1:=k1 H (s.s.trans R.sub);refine⟨λp e=>?_,λe=>?_⟩
 ·rw[mC]at e;cases z1:ps[i]? with
  | none=>rw[z1]at e;cases e
  | some p1 =>
   rw[z1]at e;cases e;obtain⟨v,e1,WX⟩:=b1.get z1;refine⟨⟨vs,v,h1,e1⟩,λx H' z9=>?_⟩
   obtain⟨T,v',hn,hx,hH,hall⟩:=z9;have g1:=hall vs h1;rw[e1]at g1;cases g1;subst hx hH;obtain⟨R2,s2⟩:=R.laid (.aq [.int i,v]) hn;refine⟨_,R2,s2,bF.mpr ⟨T,[.int i,v],rfl,gY.of aA,.cons ?_ (.cons (WX.mono (s.trans s2)) .nil)⟩⟩;rw[jZ];exact aD.mpr rfl
 ·refine⟨vs,h1,?_⟩;rw[mC]at e;cases z1:ps[i]? with
  | none =>
   have:=gy.mp z1;rw[b1.length]at this;exact this
  | some p1=>rw[z1]at e;cases e
section
variable {X:Cx} {af:Hp} {ag:Fz} {a b e tg:Expr} {fa fb:Gx PV} {ts:Gx (List PV)} {pos p:Pos}
noncomputable def NP(i j:Int):Bool:=decide (-(2^62)<=i/\i<2^62 /\ -(2^62)<=j/\j<2^62)
def wA:List PV->Option (List PV)
 | [.int j]=>if NP 0 j=true then some (EZ 0 j.toNat)else none
 | _=>none
def NQ(g:List PV->Option (List PV))(ts:Gx (List PV)):Gx (List PV):=bnd ts λps=>iB (g ps)
def E2(hg:Gl X "range")(hm:X.mg "range"=none)(ha:PA X [a] (tA X af ag ts))(hs:starEach [a] X.env=[(false,eval a X.env)]:=by rfl):PI X tg (.Call (.Name "range" p) [a] [] pos) (tI X af ag (NQ wA ts)) :=
 (B3 hg hm ha hs).imp λσ H Rr ⟨F,st,R,h⟩=>⟨F,st,R,h.bnd λps vs F1 st1 H1 R1 g1 b1 h1=>by
  obtain⟨o,e,z⟩:=h1.iB;unfold wA at e;split at e
  ·obtain⟨hr,rfl⟩:=aC e;obtain⟨v,rfl,b⟩:=dv b1;obtain⟨_,_,h3,h4⟩:=gS hr;rw[aD.mp b];exact⟨_,rfl,h3,h4,z _ H1 F1 R1 (Gr.refl _) (zi 0 _)⟩
  ·cases e⟩
def AV(fa:Gx PV):Gx (List PV):=bnd fa λp=>iB ((nC p).map λps=>jL 0 ps)
def WY(ht:AU tg=true)(hg:Gl X "enumerate")(hm:X.mg "enumerate"=none)(ha:PE X a (tE X af ag fa))(hs:starEach [a] X.env=[(false,eval a X.env)]) :
  PI X tg (.Call (.Name "enumerate" p) [a] [] pos) (tI X af ag (AV fa)):=by
 rintro ah s σ H R I ⟨F,st,Rp,h⟩
 have hA:=gq ha pq hs pos ah s σ H (λvs H'=>∃F' st' x pa ps,vs=[x]/\Rep X.K af ag F' st' σ H'/\aU X.K F' pa x/\nC pa=some ps/\∀b Sk ED,Rep X.K af ag ED st' σ Sk->Gr F' ED->Walk X.K ED (jL 0 ps) b->R b Sk) I
  ⟨F,st,Rp,h.bnd λp v F1 st1 H1 R1 g1 b1 h1=>by
   obtain⟨o,e,z⟩:=h1.iB;obtain⟨ps,e1,rfl⟩:=aM e;exact⟨F1,st1,v,p,ps,rfl,R1,b1,e1,z⟩⟩
 refine Call_ (ld_blt I hg hm boot_enumerate (gw (thn hA λus s1 z9=>?_) hs rfl))
 obtain⟨vs,H1,I1,r1,F1,st1,x,pa,ps,ev,R1,b1,f3,q⟩:=z9;subst ev;obtain⟨u1,rfl,NR⟩:=iY r1;obtain⟨c1,l1,Zl,rfl,q1,Qc,k1⟩:=i9 f3 b1;cases NR;obtain⟨aw,v1,Js⟩:=(k1 H1 R1.sub).get I1;obtain⟨part,Ld⟩:∃o,s1.heap.get? l1=some o:=by
  rcases Js with⟨_,⟨o,e,_⟩⟩ | ⟨_,⟨o,e,_⟩⟩
  ·grind
  ·grind
 have Jt:=aG Ld;refine callType_new PySem.F.called_enumerate (by decide) (PySem.F.typeCall_enumerate_1 _) (PySem.F.newCall_enumerate_1 _) (λobj=>PySem.F.args_object_init_2 obj _) PySem.F.entry_enumerate_new (EX l1 aw.toArray (jE c1) part) ⟨Js,Ld,λh1 h2 e1 e2=>?_⟩
 have z1:h1.objs.size=s1.heap.objs.size+1:=by simp_all
 have p1:∀b o,s1.heap.get? b=some o->h1.get? b=some o:=λb o e=>by rw[e1];exact aE _ e
 have p2:∀b o,h1.get? b=some o->h2.get? b=some o:=λb o e=>by rw[e2];exact aE _ e
 have g2:IsEnum h2 h1.objs.size s1.heap.objs.size 0 .none:=by rw[e2];exact bu _ rfl
 have g1:=p2 _ _ (by rw[e1];exact bu _ rfl)
 have I2:Inv X ah σ H1 {s1 with heap:=h2,toks:=s1.toks}:=I1.kept λb o e=>p2 _ _ (p1 _ _ e)
 have kH:∀b,s1.heap.objs.size<=b->H1 b=none:=λb hb=>I1.hok.fresh hb
 refine⟨⟨_,g2,rfl⟩,?_⟩;show wpAny _ _ (pyIter (.ref h1.objs.size)) _ _ {s1 with heap:=h2,toks:=s1.toks}
 refine wpAny_pyIter_enum g2 ?_;cases tg with
 | Tuple elts x1 pj =>
  refine⟨h1.objs.size,[h1.objs.size,s1.heap.objs.size],_,_,H1,rfl,I2,Jp (by lia) Jt,⟨⟨_,g2⟩,(by
   cases c1 with
   | true=>exact(⟨_,g1,rfl,rfl⟩)
   | false=>exact(⟨_,g1,rfl,rfl⟩))⟩,λb hb=>?_,q _ H1 F1 R1 (Gr.refl _) (Jr k1 Qc)⟩
  simp only[aW,cK,cM]at hb;have Sl:s1.heap.objs.size<=b:=by rcases hb with rfl | rfl<;>lia
  exact I1.um Sl (kH b Sl)
 | _=>cases ht
end
end L2.U
namespace L2
open PySem PySem.Spec PyProof.Rows
noncomputable def WZ(z:Str):It:=⟨λi _=>i<z.cps.size,λi H x H'=>H'=H/\∃c,z.cps[i]?=some c/\x=.str ⟨#[c]⟩,λi _=>z.cps.size<=i⟩
def E3{P:Program}{w:World}{K:W.Frag}{tg:Expr}(z:Str)(t:Tok)(it:Addr):Turn P w K tg (WZ z) [it] it (λi h=>h.IsStrIter it "str_ascii_iterator" z t i) where
 mem:=by simp
 obj:=λi h st b hb=>by
  have e:b=it:=by grind
  subst e;obtain⟨o,e,c,d⟩:=st;exact⟨o,e,λv z=>by grind⟩
 keep:=λi h h' st k=>let ⟨o,ho,r⟩:=st;⟨o,k it (by simp) o ho,r⟩
 item:=by
  intro X hP hw hK hc i ah s σ H E I hf st hg;subst hP hw hK;have hx:z.cps[i]?=some z.cps[i]:=ot hg;obtain⟨f0,f1,f2,f3,f4,f5⟩:=hf it (by simp)
  refine wpAny_pyNext_ascii_item st hx λh' st' sb=>?_
  have I1:=I.turned (t':=s.toks+1) (λb o hb e=>(sb.2 b hb).trans e) f0 f1 f3 f4 f5
  obtain⟨o,e,c,d⟩:=id st';exact⟨_,rfl,Ar e c d (by decide) ⟨.str ⟨#[z.cps[i]]⟩,H,I1,⟨_,rfl⟩,⟨rfl,_,hx,rfl⟩,st',λb hb=>(hf b hb).1⟩⟩
 done:=by
  intro X hP hw hK hc i ah s σ H E I hf st hg;subst hP hw hK;obtain⟨f0,f1,f2,f3,f4,f5⟩:=hf it (by simp)
  exact wpAny_pyNext_ascii_end (I.ok.hd hc) st (jN hg) λh' eb=>⟨rfl,I.turned (λb o hb e=>eb b o hb e) f0 f1 f3 f4 f5⟩
 self:=λ_ _ _ _ _ st h=>wpAny_pyIter_striter_ascii st h
def W0(tl:TE):TI:=λσ H R=>tl σ H λx H1=>∃z,x=.str z/\z.cps.all (· < 128)=true/\R (WZ z) H1
def NS{X:Cx}{tg l:Expr}{tl:TE}(hl:PE X l tl):PI X tg l (W0 tl):=by
 intro ah s σ H R I h;refine thn (hl ah s σ H _ I h) λv s1 ⟨x,H1,I1,r1,q1⟩=>?_
 obtain⟨z,e,hz,q⟩:=q1;subst e;obtain⟨t,rfl⟩:=r1;refine wpAny_pyIter_ascii hz ?_;refine⟨s1.heap.objs.size,[s1.heap.objs.size],_,_,H1,rfl,I1.kept λb o e=>aE _ e,E3 z t _,⟨_,bu _ rfl,rfl,rfl⟩,λb hb=>?_,q⟩
 have e:b=s1.heap.objs.size:=by grind
 subst e;exact I1.um (az _) (I1.hok.fresh (az _))
end L2
namespace L2.U
open PySem PySem.Spec PyProof.Rows
noncomputable def Ju(z:Str):List PV:=z.cps.toList.map λc=>.str ⟨#[c]⟩
def E4{K:W.Frag}{F:Fz}(z:Str):Walk K F (Ju z) (WZ z):=by
 intro af ag F' st σ H R s i;refine⟨λp e=>?_,λe=>?_⟩
 ·unfold Ju at e;rw[cJ,tj]at e;obtain⟨c,e1,rfl⟩:=aM e;have hi:i<z.cps.size:=(Array.getElem?_eq_some_iff.mp e1).1;refine⟨hi,λx H' ⟨hH,c',e2,e3⟩=>?_⟩
  subst hH e3;cases bC (e1.symm.trans e2);exact⟨F',R,Gr.refl _,bE.mpr rfl⟩
 ·unfold Ju at e;rw[cJ,tj]at e;show z.cps.size<=i
  grind
inductive AW where
 | sq (ps:List PV) | cl (n:Nat)
def Sm(K:W.Frag)(F:Fz):AW->It->Prop
 | .sq ps,J=>Walk K F ps J
 | .cl n,J=>∃a,F.μ[n]?=some a/\J=U1 K a
abbrev Dr(X:Cx)(af:Hp)(ag:Fz)(f:Gx AW):TI:=tX X af ag (Sm X.K) f
def Qd(f:Gx (List PV)):Gx AW:=bnd f λps=>cf (.sq ps)
def Le(n:Nat)(h:List aj)(i:Nat):Option (Option PV):=match cE h (.ref n)with
 | some (.lst,ps)=>some ps[i]?
 | _=>none
def Sn(h:List aj)(p:PV):Option AW:=match nC p with
 | some ps=>some (.sq ps)
 | none=>match p with
  | .ref n=>match cE h (.ref n)with
   | some (.lst,_)=>some (.cl n)
   | _=>none
  | .str z=>if z.cps.all (· < 128)=true then some (.sq (Ju z))else none
  | _=>none
def zj(fe:Gx PV):Gx AW:=bnd fe λp=>hp λh=>Sn h p
def E5(g:Tg)(body:Gx dE)(n:Nat):Nat->Nat->Gx dE
 | 0,_=>λ_=>none
 | f+1,i=>λst=>match Le n st.h i with
  | some (some p)=>bnd (stp (g p)) (λ_=>bnd body (pP (E5 g body n f (i+1)))) st
  | some none=>some (.ok .nx,st)
  | none=>none
def W2(g:Tg)(body:Gx dE):AW->Gx dE
 | .sq ps=>gH g body ps
 | .cl n=>E5 g body n gF 0
def Jv(fi:Gx AW)(g:Tg)(body:Gx dE):Gx dE:=bnd fi (W2 g body)
section
variable {X:Cx} {af:Hp} {ag:Fz} {e tg iter:Expr} {fa:Gx PV} {fb:Gx dE} {body:List Stmt} {pos:Pos}
def NT(h:PI X tg e (tI X af ag f)):PI X tg e (Dr X af ag (Qd f)):=(by rintro ah s σ H R I ⟨F,st,Rp,hh⟩;exact h ah s σ H R I ⟨F,st,Rp,hh.bnd λps J F1 st1 H1 R1 g1 b1 h1=>h1.cf J H1 F1 R1 (Gr.refl _) b1⟩)
def E6{K:W.Frag}{st:bP}(R:Rep K af ag F st σ H)(ha:F.μ[n]?=some a)(e:Le n st.h i=some o):∃ps vs,o=ps[i]?/\uk K H a vs/\ax K F ps vs:=by
 unfold Le at e;split at e
 ·rename_i ps z;cases e;obtain⟨a',vs,e1,h1,h2⟩:=R.at z (cR.mpr ⟨a,ha,rfl⟩);cases e1;exact⟨ps,vs,rfl,gZ.sq h1,h2⟩
 ·cases e
def E7(he:PE X e (tE X af ag fa)):PI X tg e (Dr X af ag (zj fa)):=by
 rintro ah s σ H R I ⟨F,st,Rp,h⟩
 obtain⟨r,e1,e2⟩:=At.bnd h
 match r,e2 with
 | (.ex m C,st1),e2 =>
  exact Eb he ah s σ H R I ⟨F,st,Rp,_,e1,e2⟩
 | (.ok p,st1),e2 =>
  obtain⟨ps,e3,q⟩:=At.hp e2;unfold Sn at e3;split at e3
  ·rename_i qs e4;cases e3;unfold nC at e4;split at e4
   ·cases e4;refine Eb he ah s σ H R I ⟨F,st,Rp,_,e1,λv H1 F1 R1 s1 b1=>?_⟩
    obtain⟨a,vs,rfl,hs,hb⟩:=bF.mp b1;exact⟨a,rfl,⟨vs,cC R1.sub hs⟩,q _ H1 F1 R1 s1 (EY hs hb)⟩
   ·cases e4;refine As he ah s σ H R I ⟨F,st,Rp,_,e1,λv H1 F1 R1 s1 b1=>?_⟩
    obtain⟨a,vs,rfl,hs,hb⟩:=cZ.mp b1;exact⟨a,rfl,⟨vs,(iZ R1.sub hs).sq⟩,q _ H1 F1 R1 s1 (Cz hs.sq hb)⟩
   ·cases e4
  ·split at e3
   ·rename_i n _;split at e3
    ·rename_i qs z;cases e3;refine As he ah s σ H R I ⟨F,st,Rp,_,e1,λv H1 F1 R1 s1 b1=>?_⟩
     obtain⟨a,vs,rfl,hs,hb⟩:=R1.at z b1;obtain⟨a',ha,e5⟩:=cR.mp b1;cases e5;exact⟨a,rfl,⟨vs,gZ.sq hs⟩,q _ H1 F1 R1 s1 ⟨a,ha,rfl⟩⟩
    ·cases e3
   ·obtain⟨hz,rfl⟩:=aC e3;refine NS he ah s σ H R I ⟨F,st,Rp,_,e1,λv H1 F1 R1 s1 b1=>?_⟩
    exact⟨_,bE.mp b1,hz,q _ H1 F1 R1 s1 (E4 _)⟩
   ·cases e3
def NU{fi:Gx AW}(hp:PassesOwn (model X.prog X.w) X.A X.env X.xe)(hc:X.calm=true)(hi:PI X tg iter (Dr X af ag fi))(hg:PG X tg (tG X.K af ag g))(hb:PSs X body (tS X af ag fb))
  (hs:∀x,foldedSetIterable iter X.env x=pure x:=by intro _;rfl):PS X (.For tg iter body [] pos) (tS X af ag (Jv fi g fb)):=(MC hp hc hi hg hb hs).imp <| by
 rintro D σ H ⟨F,st,R,h⟩
 refine⟨F,st,R,h.bnd λsr J F1 st1 H1 R1 g1 wk h1=>?_⟩
 cases sr with
 | sq ps =>
  refine⟨λi m bz H'=>m=ps.length-i/\i<=ps.length/\∃F' st',Rep X.K af ag F' st' bz H'/\Gr F1 F'/\Sa X af ag F' D st' (gH g fb (ps.drop i)),⟨ps.length,by simp,gV _,F1,st1,R1,Gr.refl _,h1⟩,?_⟩
  rintro i m bz H' ⟨rfl,hi,F',st',R',s',hr⟩
  obtain⟨wg,W3⟩:=wk af ag F' st' bz H' R' s' i;by_cases uM:i<ps.length
  ·obtain⟨go,wy⟩:=wg ps[i] (dy uM);rw[xQ uM]at hr;refine .inr ⟨go,λAu H2=>∃F2 dh,Rep X.K af ag F2 dh Au H2/\Gr F1 F2/\Sa X af ag F2 D dh (gH g fb (ps.drop (i+1))),λAu H2 n2=>⟨ps.length-(i+1),by lia,rfl,uM,n2⟩,λx H2 y=>?_⟩
   obtain⟨F2,R2,s2,b2⟩:=wy x H2 y;obtain⟨r,e1,e2⟩:=At.bnd hr;obtain⟨So,e3,e4⟩:=aM e1;subst e4;refine⟨F2,st',ps[i],So,R2,b2,e3,λm7 H3 F3 R3 s3=>⟨F3,So,R3,?_⟩⟩
   exact Sa.o7 _ (λF4 Dp K3 H4 R4 g4 z=>⟨F4,Dp,R4,(s'.trans (s2.trans s3)).trans g4,z⟩) (Sa.mono (e2) (s2.trans s3))
  ·have e:i=ps.length:=by lia
   subst e;rw[List.drop_length]at hr;exact .inl ⟨W3 (td (az _)),At.cf hr F' bz H' R' (Gr.refl _)⟩
 | cl n =>
  obtain⟨a,ha,rfl⟩:=wk;refine⟨λi m bz H'=>∃F' st',Rep X.K af ag F' st' bz H'/\Gr F1 F'/\Sa X af ag F' D st' (E5 g fb n m i),⟨gF,F1,st1,R1,Gr.refl _,h1⟩,?_⟩
  rintro i m bz H' ⟨F',st',R',s',hr⟩
  cases m with
  | zero=>obtain⟨r,e,_⟩:=hr;cases e
  | succ m =>
   obtain⟨r,e1,e2⟩:=hr;have e1:(match Le n st'.h i with
    | some (some p)=>bnd (stp (g p)) (λ_=>bnd fb (pP (E5 g fb n m (i+1)))) st'
    | some none=>some (.ok .nx,st')
    | none=>none)=some r:=e1
   cases z:Le n st'.h i with
   | none=>rw[z]at e1;cases e1
   | some o =>
    obtain⟨ps,vs,ho,hq,pO⟩:=E6 R' (s'.m n a ha) z;cases o with
    | none =>
     rw[z]at e1;cases e1;refine .inl ⟨⟨vs,hq,?_⟩,e2 F' bz H' R' (Gr.refl _)⟩;rw[<-pO.length];exact gy.mp ho.symm
    | some p =>
     rw[z]at e1;obtain⟨v,hv,bv⟩:=pO.get ho.symm;refine .inr ⟨⟨vs,v,hq,hv⟩,λAu H2=>∃F2 dh,Rep X.K af ag F2 dh Au H2/\Gr F1 F2/\Sa X af ag F2 D dh (E5 g fb n m (i+1)),λAu H2 n2=>⟨m,lV m,n2⟩,λx H2 ⟨hH,y⟩=>?_⟩
     subst hH;have:=y vs hq;rw[hv]at this;cases this;obtain⟨r',q1,q2⟩:=At.bnd (⟨r,e1,e2⟩);obtain⟨So,e3,e4⟩:=aM q1;subst e4;refine⟨F',st',p,So,R',bv,e3,λm7 H3 F3 R3 s3=>⟨F3,So,R3,?_⟩⟩
     exact Sa.o7 _ (λF4 Dp K3 H4 R4 g4 z=>⟨F4,Dp,R4,(s'.trans s3).trans g4,z⟩) (Sa.mono (q2) s3)
end
def AX(bd:PV->List aj->Option (Option PV×List aj))(n:Nat):Nat->Nat->List aj->Option (List PV×List aj)
 | 0,_,_=>none
 | f+1,i,h=>match Le n h i with
  | some (some p)=>(bd p h).bind λr=>(AX bd n f (i+1) r.2).map λs=>(r.1.toList++s.1,s.2)
  | some none=>some ([],h)
  | none=>none
def AY(bd:PV->List aj->Option (Option PV×List aj))(h:List aj):AW->Option (List PV×List aj)
 | .sq ps=>if ps.length<=gF then dU bd ps h else none
 | .cl n=>AX bd n gF 0 h
def AZ(c:Bool)(ρ:List (Option PV))(r:List PV×List aj):Option (Rs PV×bP):=if c=true then hZ ⟨.lst,r.1⟩ ⟨ρ,r.2⟩else some (.ok (.lst r.1),⟨ρ,r.2⟩)
def ja(c:Bool)(link:List (Option Nat))(fi:Gx AW)(bd:Bd):Gx PV:=bnd fi λs st=>(AY (bd (cU link st.ρ)) st.h s).bind (AZ c st.ρ)
section
variable {X:Cx} {af:Hp} {ag:Fz} {N:List Str} {link:List (Option Nat)} {scope:Scope} {tg iter elt c:Expr} {pos:Pos} {fi:Gx AW} {g:Tg} {fe:Gx PV} {ft:Gx Bool} {L:List Nat} {cl:Bool}
def wB{st1:bP}{Q:VK}(R':kC X.K af ag F' hf H')(L1:Lc X.K F1 st1.ρ σ)(g':Gr F1 F')(pO:ax X.K F' done acc)(hn:H' D=none)(e4:AZ cl st1.ρ (done,hf)=some r)(e2:Ey X af ag F1 (λa st'=>∀b H' F',Rep X.K af ag F' st' σ H'->Gr F1 F'->aU X.K F' a b->Q b H') r):Q (.ref D) (cy H' D (.lst acc)):=by
 have Ro:Rep X.K af ag F' ⟨st1.ρ,hf⟩ σ H':=⟨R',L1.mono g'⟩;cases cl with
 | true =>
  have e4:=e4;exact Tx.hZ (Tx.mono ⟨r,e4,e2⟩ g' λ_ _ z=>z) Ro hn aA pO
 | false =>
  have e4:=e4;cases e4;obtain⟨R2,s2⟩:=Ro.laid (.lst acc) hn;exact e2 _ _ _ R2 (g'.trans s2) (cZ.mpr ⟨D,acc,rfl,gZ.of aA,pO.mono s2⟩)
def r6{Q:VK}
  (hb:∀(F2:Fz) (ρ:List (Option PV)) (p:PV) (h h':List aj) (o:Option PV) (x:V) (bz:St) (H2:Hp) (Q':Option V->St->Hp->Prop),bd (cU link ρ) p h=some (o,h')->Rep X.K af ag F2 ⟨cU link ρ,h⟩ bz H2->aU X.K F2 p x ->
   (∀o' m7 H3 F3,Rep X.K af ag F3 ⟨cU link ρ,h'⟩ m7 H3->Gr F2 F3->ax X.K F3 o.toList (Option.toList o')->Q' o' m7 H3)->tb x bz H2 Q')
  (h:tE X af ag (ja cl link fi bd) σ H Q):rX link (Dr X af ag fi) tb σ H Q:=by
 obtain⟨F,st,R,h⟩:=h;refine⟨F,st,R,h.bnd λsr J F1 st1 H1 R1 g1 wk h1=>?_⟩
 obtain⟨r,e1,e2⟩:=h1;obtain⟨⟨rs,hf⟩,e3,e4⟩:=aK e1;cases sr with
 | sq ps =>
  obtain⟨d8,e3⟩:=bL e3;refine⟨λi m acc bz H'=>m=ps.length-i/\i<=ps.length/\acc.length<=i/\∃F' h' done rest,Rep X.K af ag F' ⟨cU link st1.ρ,h'⟩ bz H'/\Gr F1 F'/\dU (bd (cU link st1.ρ)) (ps.drop i) h'=some (rest,hf)/\done++rest=rs/\ax X.K F' done acc,
   ⟨ps.length,rfl,gV _,az _,F1,st1.h,[],rs,⟨R1.c,R1.l.iy link⟩,Gr.refl _,e3,rfl,.nil⟩,?_⟩
  rintro i m acc bz H' ⟨rfl,hi,ha,F',h',done,rest,R',g',hr,hd,pO⟩
  obtain⟨wg,W3⟩:=wk af ag F' _ bz H' R' g' i;by_cases uM:i<ps.length
  ·rw[xQ uM]at hr;obtain⟨⟨o,h2⟩,e5,e6⟩:=aK hr;obtain⟨⟨r2,h3⟩,e7,e8⟩:=aM e6;cases e8;obtain⟨go,wy⟩:=wg ps[i] (dy uM);refine .inr ⟨go,oB (aJ ha hi) (oB d8 (by decide)),λx H2 y=>?_⟩
   obtain⟨F2,R2,s2,b2⟩:=wy x H2 y;refine hb F2 st1.ρ ps[i] h' h2 o x bz H2 _ e5 R2 b2 λo' m7 H3 F3 R3 s3 b3=>⟨ps.length-(i+1),by lia,rfl,uM,?_,F3,h2,done++o.toList,r2,R3,g'.trans (s2.trans s3),e7,by rw[<-hd,gA],(pO.mono (s2.trans s3)).append b3⟩
   rw[bA];cases o'<;>simp <;> lia
  ·have e:i=ps.length:=by lia
   subst e;rw[List.drop_length]at hr;cases hr;rw[cX]at hd;subst hd;exact .inl ⟨W3 (td (az _)),aJ ha (dD d8),λD hn=>wB R'.c R1.l g' pO hn e4 e2⟩
 | cl n =>
  obtain⟨a,hna,rfl⟩:=wk;refine⟨λi m acc bz H'=>i+m=gF/\acc.length<=i/\∃F' h' done rest,Rep X.K af ag F' ⟨cU link st1.ρ,h'⟩ bz H'/\Gr F1 F'/\AX (bd (cU link st1.ρ)) n m i h'=some (rest,hf)/\done++rest=rs/\ax X.K F' done acc,
   ⟨gF,jZ _,az _,F1,st1.h,[],rs,⟨R1.c,R1.l.iy link⟩,Gr.refl _,e3,rfl,.nil⟩,?_⟩
  rintro i m acc bz H' ⟨hm,ha,F',h',done,rest,R',g',hr,hd,pO⟩
  cases m with
  | zero=>cases hr
  | succ m =>
   have hr:(match Le n h' i with
    | some (some p)=>(bd (cU link st1.ρ) p h').bind λr=>(AX (bd (cU link st1.ρ)) n m (i+1) r.2).map λs=>(r.1.toList++s.1,s.2)
    | some none=>some ([],h')
    | none=>none)=some (rest,hf):=hr
   have y9:i<=gF:=by lia
   cases z:Le n h' i with
   | none=>rw[z]at hr;cases hr
   | some o =>
    obtain⟨ps,vs,ho,hq,Zm⟩:=E6 R' (g'.m n a hna) z;rw[z]at hr;cases o with
    | none =>
     cases hr;rw[cX]at hd;subst hd;refine .inl ⟨⟨vs,hq,?_⟩,aJ ha (dD y9),λD hn=>wB R'.c R1.l g' pO hn e4 e2⟩
     rw[<-Zm.length];exact gy.mp ho.symm
    | some p =>
     obtain⟨⟨o,h2⟩,e5,e6⟩:=aK hr;obtain⟨⟨r2,h3⟩,e7,e8⟩:=aM e6;cases e8;obtain⟨v,hv,bv⟩:=Zm.get ho.symm;refine .inr ⟨⟨vs,v,hq,hv⟩,oB (aJ ha y9) (by decide),λx H2 ⟨hH,y⟩=>?_⟩
     subst hH;have:=y vs hq;rw[hv]at this;cases this;refine hb F' st1.ρ p h' h2 o v bz H2 _ e5 R' bv λo' m7 H3 F3 R3 s3 b3=>⟨m,lV m,by lia,?_,F3,h2,done++o.toList,r2,R3,g'.trans s3,e7,by rw[<-hd,gA],(pO.mono s3).append b3⟩
     rw[bA];cases o'<;>simp <;> lia
def E8(hg:KG L g)(hL:∀i∈L,link[i]?=some none)(h:tE X af ag (ja cl link fi (pW g fe)) σ H Q):rX link (Dr X af ag fi) (Zf X af ag g fe) σ H Q :=
 r6 (λF2 ρ p h h' o x bz H2 Q' e R2 b2 k=>by
  obtain⟨st1,e1,e⟩:=aK e;obtain⟨r,e2,e⟩:=aK e;obtain⟨⟨a,hh⟩,e3,e4⟩:=aM e;cases e4;obtain⟨vB,rfl,rfl⟩:=wz e3;obtain⟨l1,k1⟩:=hg _ _ _ e1;refine⟨F2,_,p,st1,R2,b2,e1,λm7 H3 F3 R3 s3 Y hY=>⟨F3,st1,by grind,_,e2,λv H4 F4 R4 s4 b4=>?_⟩⟩
  rw[hY]at R4 b4;exact k (some v) m7 H4 F4 ⟨R4.c,(R3.l.mono s4).back (l1.symm.trans R3.l.len) rfl k1 hL⟩ (s3.trans s4) (.cons b4 .nil)) h
def E9(hg:KG L g)(hL:∀i∈L,link[i]?=some none)(h:tE X af ag (ja cl link fi (wx g ft fe)) σ H Q):rX link (Dr X af ag fi) (Zg X af ag g ft fe) σ H Q :=
 r6 (λF2 ρ p h h' o x bz H2 Q' e R2 b2 k=>by
  obtain⟨st1,e1,e⟩:=aK e;obtain⟨r,e2,e⟩:=aK e;obtain⟨l1,k1⟩:=hg _ _ _ e1;refine⟨F2,_,p,st1,R2,b2,e1,λm7 H3 F3 R3 s3 Y hY=>⟨F3,st1,by grind,r,e2,?_⟩⟩
  match r,e with
  | (.ok b,dh),e =>
   intro b' H4 F4 R4 s4 eb;cases eb;cases b with
   | true =>
    have e:=e;obtain⟨r,e5,e⟩:=aK e;obtain⟨⟨a,hh⟩,e6,e7⟩:=aM e;cases e7;obtain⟨vB,rfl,rfl⟩:=wz e6;rw[if_pos rfl];refine⟨F4,dh,R4,_,e5,λv H5 F5 R5 s5 b5=>?_⟩
    rw[hY]at R5 b5;exact k (some v) m7 H5 F5 ⟨R5.c,(R3.l.mono (s4.trans s5)).back (l1.symm.trans R3.l.len) rfl k1 hL⟩ (s3.trans (s4.trans s5)) (.cons b5 .nil)
   | false =>
    have e:=e;cases e;rw[hY]at R4;exact k none m7 H4 F4 ⟨R4.c,(R3.l.mono s4).back (l1.symm.trans R3.l.len) rfl k1 hL⟩ (s3.trans s4) .nil) h
end
noncomputable def CA:aj:=⟨.aq,[]⟩
section
variable {K:W.Frag} {af H:Hp} {ag F F':Fz} {st:bP} {σ:St} {a:Addr} {n:Nat} {c:aj}
def Sq{μ:List Addr}(hd:μ.Nodup)(h1:μ[n]?=some a)(h2:μ[m]?=some b)(hm:m≠n):b≠a:=λz=>by
 subst z;exact hm ((List.getElem?_inj (di.mp h2).1 hd).mp (h2.trans h1.symm))
def Rep.lock(R:Rep K af ag F st σ H)(ha:F.μ[n]?=some a)(hf:F.F a=none)(u:HO):Rep K af ag ⟨cy F.F a u,F.μ⟩ ⟨st.ρ,st.h.set n CA⟩ σ (cy H a u)/\Gr F ⟨cy F.F a u,F.μ⟩:=by
 have g:Gr F ⟨cy F.F a u,F.μ⟩:=⟨ee hf,λ_ _ h=>h⟩
 have h0:=(R.c.new n a ha).1;refine⟨⟨⟨λb o e=>?_,λb o e=>?_,R.c.base.trans g,λb o e=>?_,λm b e=>?_,by simp[R.c.hl],R.c.nd,λm d b hd hb hl=>?_⟩,R.l.mono g⟩,g⟩
 ·have e:cy F.F a u b=some o:=e;by_cases hb:b=a
  ·subst hb;rw[aA]at e ⊢;exact e
  ·rw[aH hb]at e ⊢;exact R.c.sub _ _ e
 ·rw[aH (cQ e h0)];exact R.c.keep _ _ e
 ·have e:cy F.F a u b=some o:=e;by_cases hb:b=a
  ·subst hb;exact .inr h0
  ·rw[aH hb]at e;exact R.c.fresh _ _ e
 ·obtain⟨h1,o,h2⟩:=R.c.new m b e;by_cases hb:b=a
  ·subst hb;exact⟨h1,u,aA⟩
  ·exact⟨h1,o,by rw[aH hb];exact h2⟩
 ·by_cases hm:m=n
  ·subst hm;rw[List.getElem?_set_self' ]at hd;cases z:st.h[m]? with
   | none=>rw[z]at hd;cases hd
   | some d'=>rw[z]at hd;cases hd;cases hl
  ·rw[bV (bR hm)]at hd;have jt:=Sq R.c.nd ha hb hm;obtain⟨h1,vs,h2,h3⟩:=R.c.cell m d b hd hb hl;exact⟨(aH jt).trans h1,vs,h2.to g.s (λo e=>by rw[aH jt];exact e) (λz=>z),h3.mono g⟩
end
noncomputable def nS:bG->PV
 | .inl i=>.int i
 | .inr x=>.str x
noncomputable def Ds:PV->Option (List PV)
 | .nd .lst qs=>some qs
 | _=>none
def abr(n:Nat)(ks:List (bG×List bG))(ps:List PV)(p q:PV):Option (List PV):=match p with
 | .ref m=>if m=n then(eU true q).bind λk=>(gr k ks ps).bind Ds else none
 | _=>none
section
variable {X:Cx} {af:Hp} {ag:Fz} {tg iter va vb:Expr} {fe fa fb:Gx PV} {f:Gx dE} {body:List Stmt} {pos abt:Pos} {D:vR} {g:Tg}
def NV(fe:Gx PV):Gx PV:=bnd fe λp st=>match p with
 | .ref n=>(i8 st.h (.ref n)).bind λq=>match q.2.k with
  | .lst=>some (.ok (.lst q.2.ps),⟨st.ρ,st.h.set n CA⟩)
  | _=>none
 | p=>some (.ok p,st)
def Sr{e:Expr}(he:PE X e (tE X af ag fe)):PE X e (tE X af ag (NV fe)):=he.imp λσ H Q h=>by
 obtain⟨F,st,R,h⟩:=h;refine⟨F,st,R,h.bnd λp v F1 st1 H1 R1 g1 b1 h1=>?_⟩
 have keep:(∀n,p≠.ref n)->Q v H1:=λhp=>by
  obtain⟨r,e1,e2⟩:=h1;cases p with
  | ref n=>exact absurd rfl (hp n)
  | _=>cases e1;exact e2 _ _ F1 R1 (Gr.refl _) b1
 cases p with
 | ref n =>
  obtain⟨r,e1,e2⟩:=h1;obtain⟨⟨m,c⟩,d1,e3⟩:=aK (show(i8 st1.h (.ref n)).bind _=some r from e1)
  obtain⟨z,W4,hl⟩:=fL d1;cases z;obtain⟨a,ha,rfl⟩:=cR.mp b1;obtain⟨ck,cp⟩:=c;cases ck with
  | lst =>
   cases e3;obtain⟨hf,ws,k1,hv⟩:=R1.c.cell n _ a W4 ha hl;have k1:H1 a=some (.lst ws):=k1;obtain⟨R2,g2⟩:=R1.lock ha hf (.lst ws);have eH:cy H1 a (.lst ws)=H1:=by
    funext b
    by_cases hb:b=a
    ·subst hb;rw[aA,k1]
    ·rw[aH hb]
   rw[eH]at R2;exact e2 _ _ _ R2 g2 (cZ.mpr ⟨a,ws,rfl,gZ.of aA,hv.mono g2⟩)
  | _=>cases e3
 | _=>exact keep λ_ z=>nomatch z
end
def A0{P:Program}{w:World}{H':Hp}{h1 h5 B:Heap}(x:kB P w H' h1)(hB:∀b o,H' b=some o->∃ob,B.get? b=some ob)(k1:B.StaysIn h1)(k5:B.StaysIn h5):kB P w H' h5:=λa o e=>by
 have keep:∀b u o',H' b=some o'->h1.get? b=some u->h5.get? b=some u:=λb u o' eb q=>by
  obtain⟨ob,P4⟩:=hB b o' eb;have:=k1 b ob P4;rw[q]at this;cases this;exact k5 b _ P4
 refine(x a o e).vN (λb u hb q=>?_) (λ_ q=>q) (λ_ _ q=>q) λ_ _ _ q=>q
 rcases hb with rfl | hb
 ·exact keep _ _ _ e q
 ·exact keep _ _ _ hb q
def Fb{l:List Env}{H H':Hp}{h h1 h5 B B':Heap}(u:Un (kH l) [] H H' h h1)(sm:Dm H H')(hB:∀b o,H' b=some o->∃ob,B.get? b=some ob)(hU:∀b ob,h.get? b=some ob->H b=none->b∉kH l->B.get? b=some ob)
  (k5:B.StaysIn h5) (fr:h1.FunFrames B' l) (up:h1.UpToSlots h5):Un (kH l) [] H H' h h5:=by
 have slot:∀b o,h.get? b=some o->H b=none->b∈kH l->∃sl,h5.get? b=some {o with slots:=sl}:=λb o q n hb=>by
  obtain⟨sl,e⟩:=u.slot b o q n hb (by simp)
  obtain⟨_,o',lM,hd⟩:=fr.mem hb;rw[e]at lM;cases lM;obtain⟨QD,e'⟩:=up b _ e hd;exact⟨QD,e'⟩
 refine⟨λb o q n hb _=>k5 b o (hU b o q n hb),λb o q n hb _=>slot b o q n hb,u.free,λb o q hx=>?_,u.tups,u.frzs,u.tbls⟩
 cases z:H b with
 | none =>
  by_cases hb:b∈kH l
  ·grind
  ·exact⟨o,k5 b o (hU b o q z hb)⟩
 | some v =>
  obtain⟨v',z'⟩:=sm b v z;obtain⟨ob,P4⟩:=hB b v' z';exact⟨ob,k5 b ob P4⟩
def CB{P:Program}{w:World}{H:Hp}{h:Heap}{a:Addr}{o:HO}(x:eS P w H h a o):∃ob,h.get? a=some ob:=by
 cases o with
 | lst xs=>obtain⟨_,_,_,_,e⟩:=x;exact⟨_,e⟩
 | aq xs=>obtain⟨_,_,_,ob,e,_⟩:=x;exact⟨_,e⟩
 | dK kvs=>obtain⟨_,_,_,_,o,_,_,e,_⟩:=x;exact⟨_,e⟩
 | dT kvs=>obtain⟨_,_,o,_,_,e,_⟩:=x;exact⟨_,e⟩
 | set S n=>obtain⟨o,_,_,_,e,_⟩:=x;exact⟨_,e⟩
 | ins C dx fs=>obtain⟨_,_,_,e,_⟩:=x;exact⟨_,e⟩
 | own y=>obtain⟨_,e⟩:=x;exact⟨_,e⟩
 | xd fs=>obtain⟨_,⟨_,_,_,e,_⟩,_⟩:=x;exact⟨_,e⟩
 | UU lo hi=>obtain⟨_,_,_,e⟩:=x;exact⟨_,e⟩
 | vH ob u=>obtain⟨e,_⟩:=x;exact⟨_,e⟩
 | yE q=>obtain⟨_,e,_⟩:=x;exact⟨_,e⟩
 | UT f y=>exact⟨_,show h.get? a=some _ from x⟩
 | ext φ=>obtain⟨_,⟨_,e⟩,_⟩:=x;exact⟨_,e⟩
section
variable {P:Program} {w:World} {K:W.Frag} {mg:Str->Option Value} {base:Heap} {N:List Str} {qual:Str} {scope:Scope} {f:Addr} {cd:Value} {A:Around} {aB:List Env} {s:Shared} {H:Hp} {E E1:XK} {ah:List (Addr×Obj)} {σ:St} {H1:Hp} {s1 s':Shared} {e:Value}
def A1(I:Inv (ek (gE P w) P w K mg base N qual scope f cd A aB s H E) ah σ H1 s1){b:Addr}{ob:Obj}(q:s.heap.get? b=some ob)(hb:b∉kH aB):b∉kH (envOfC qual scope s.heap.objs.size f cd::aB):=λhm=>by
 rcases aW.mp (I.uh b hm)with z | z
 ·exact absurd (aG q) (by rw[z];exact eI _)
 ·exact hb z
def wC(I:Inv (ek (gE P w) P w K mg base N qual scope f cd A aB s H E) ah σ H1 s1)(h:gE P w (envOfC qual scope s.heap.objs.size f cd::aB) H1 s1 E1 e s')(hE:∀cls H2,E1 cls none H2->Dm H H2/\E cls none H2) :
  (ek (gE P w) P w K mg base N qual scope f cd A aB s H E).xe e s':=by
 obtain⟨a,cls,a0,B,H2,rfl,Hm,hb,un,hok,sm,he,NW,hB,hU⟩:=h;obtain⟨Ss,hE⟩:=hE cls H2 he;have I2:=I.KO Hm un hok hb (λb z=>absurd z (by simp))
 refine wpAny_leaves_onW I.ok.frames rfl NW λh' NX up=>?_
 have Zn:∀b ob,s.heap.get? b=some ob->H b=none->b∉kH aB->B.get? b=some ob:=λb ob q n hb=>hU b ob (I.base.keep b ob q n hb (by simp[ek])) (I.base.free b ob q n (by simp[ek])) (A1 I q hb)
 exact⟨a,cls,a0,B,H2,rfl,Hm.trans I.os,hb,Fb I2.base Ss hB Zn NX.1 NW.2.2.1.2.2 up,A0 hok hB NW.1 NX.1,Ss,hE,NX,hB,Zn⟩
def A2{h1:Heap}{a:Addr}{cls:Value}{vs:List Value}(I:Inv (ek (gE P w) P w K mg base N qual scope f cd A aB s H E) ah σ H1 s1)(hm:Heap.MadeExcOf s1.heap h1 a cls vs)(Ss:Dm H H1)(hE:E cls none H1) :
  (ek (gE P w) P w K mg base N qual scope f cd A aB s H E).xe (.ref a) {s1 with heap:=h1}:=by
 have hB:∀b o,H1 b=some o->∃ob,(W.hideAll s1.heap (kH (envOfC qual scope s.heap.objs.size f cd::aB))).get? b=some ob:=λb o e=>by
  obtain⟨ob,q⟩:=CB (I.hok b o e);exact⟨ob,W.hideAll_get _ q λhb=>by
   have:=I.ui b hb;rw[e]at this;cases this⟩
 have hU:∀b ob,s.heap.get? b=some ob->H b=none->b∉kH aB->(W.hideAll s1.heap (kH (envOfC qual scope s.heap.objs.size f cd::aB))).get? b=some ob:=λb ob q n hb =>
  W.hideAll_get _ (I.base.keep b ob q n hb (by simp[ek])) (A1 I q hb)
 refine wpAny_leaves_madeW I.ok.frames rfl (λb o q=>W.of_hideAll _ q) (W.funFrames_hide I.stack λenv he b hb=>oA.mpr ⟨env,he,hb⟩) hm λh' t NW aq tn up=>?_
 refine⟨a,cls,.ref t,_,H1,rfl,I.os,I.bare,Fb (I.base.trans (Un.kept hm.keeps)) Ss hB hU NW.1 (I.funs.of_keeps λb o q _=>⟨o,hm.keeps b o q,rfl⟩) up,A0 (I.hok.kept hm.keeps) hB (λb o q=>hm.keeps b o (W.of_hideAll _ q)) NW.1,Ss,hE,NW,hB,hU⟩
end
def uO(K:W.Frag)(f:Addr)(cF:Value):Prop:=∃oc od fd oR,K.lookup f=some ⟨oc,od,.func fd,oR⟩/\fd.code=cF
def Jw{P:Program}{w:World}{K:W.Frag}{mg:Str->Option Value}{base:Heap}{x qual:Str}{st:Stmt}{f:Addr}{fd:FuncData}{N ps:List Str}{k:Nat}{sp:Sp}(F:KC K x qual st f fd)(S:cA N ps (ar st))(len:∀vs H Q E,sp vs H Q E->vs.length=ps.length)
  (hbody:∀(cF:Value) (A:Around) (aB:List Env) (s:Shared) (H:Hp) (vs:List V) (Q:VK) (E:XK),uO K f cF->cN k (A.deeper (envOfC qual (ar st) s.heap.objs.size f cF))->sp vs H Q E ->
   ∃t,PSs (ek (gE P w) P w K mg base N qual (ar st) f cF A aB s H E) (bO st) t/\t {nx:=λ_ H'=>Q .aL H',rt:=Q} (start N vs) H):FnOk P w K mg base (gE P w) (k+1) f fd ps sp:=by
 obtain⟨oc,od,kV,doc,pm,an,cF,ct,oR,rfl,lk,xM⟩:=F.ex;exact KU lk xM S len λA aB s H vs Q E hr KW=>hbody cF A aB s H vs Q E ⟨oc,od,_,oR,lk,rfl⟩ hr KW
noncomputable def qX(H:Hp)(μ:List Addr):Hp:=λb=>if b∈μ then none else H b
section
variable {K:W.Frag} {af H H':Hp} {ag F F':Fz} {h h':List aj}
def CD{μ:List Addr}{b:Addr}{o:HO}(e:qX H μ b=some o):H b=some o/\b∉μ:=by
 unfold qX at e;split at e
 ·cases e
 ·grind
def CF{μ:List Addr}{b:Addr}(e:qX H μ b=none):H b=none\/b∈μ:=by
 unfold qX at e;split at e
 ·grind
 ·grind
def kC.enter(C:kC K af ag F h H):kC K (qX H F.μ) F F h H/\∀b o,H b=some o->qX H F.μ b=some o\/∃n:Nat,F.μ[n]?=some b:=by
 refine⟨⟨C.sub,λb o e=>(CD e).1,Gr.refl F,λa o e=>.inl e,λn a e=>⟨if_pos (tu e),(C.new n a e).2⟩,C.hl,C.nd,C.cell⟩,λb o e=>?_⟩
 by_cases hb:b∈F.μ
 ·obtain⟨n,hn⟩:=tm.mp hb;exact .inr ⟨n,hn⟩
 ·exact .inl (by unfold qX;rw[if_neg hb];exact e)
def kC.leave(C:kC K af ag F h H)(D:kC K (qX H F.μ) F F' h' H'):kC K af ag F' h' H':=by
 have none_of:∀a,qX H F.μ a=none->af a=none:=λa e=>by
  rcases CF e with z | z
  ·exact C.keep.free z
  ·obtain⟨n,hn⟩:=tm.mp z;exact(C.new n a hn).1
 refine⟨D.sub,λb o e=>D.keep b o ?_,C.base.trans D.base,λa o e=>?_,λn a e=>⟨none_of a (D.new n a e).1,(D.new n a e).2⟩,D.hl,D.nd,D.cell⟩
 ·unfold qX;rw[if_neg λhb=>?_]
  ·exact C.keep b o e
  ·obtain⟨n,hn⟩:=tm.mp hb;rw[(C.new n b hn).1]at e;cases e
 ·rcases D.fresh a o e with z | z
  ·exact C.fresh a o z
  ·grind
end
abbrev jw:=List PV->List aj->Option (Rs PV×List aj)
def W5(K:W.Frag)(af:Hp)(F:Fz)(h':List aj)(Q:VK)(E:XK):Rs PV->Prop
 | .ok p=>∀v F' H',kC K af F F' h' H'->aU K F' p v->Q v H'
 | .ex _ C=>∀cls F' H',kC K af F F' h' H'->ClsAt K C cls->E cls none H'
def r9(K:W.Frag)(n:Nat)(f:jw):Sp:=λvs H Q E=>∃af F h ps r h',kC K af F F h H/\(∀b o,H b=some o->af b=some o\/∃n:Nat,F.μ[n]?=some b)/\ax K F ps vs/\ps.length=n/\f ps h=some (r,h')/\W5 K af F h' Q E r
noncomputable def fy(n:Nat)(ps:List PV):List (Option PV):=ps.map some++List.replicate (n-ps.length) none
noncomputable def Lf:Rs dE×bP->Option (Rs PV×List aj)
 | (.ok (.rt p),st)=>some (.ok p,st.h)
 | (.ok .nx,st)=>some (.ok .aL,st.h)
 | (.ex m C,st)=>some (.ex m C,st.h)
 | _=>none
def gj(fb:Gx dE)(n:Nat):jw:=λps h=>(fb ⟨fy n ps,h⟩).bind Lf
def wD{K:W.Frag}{F:Fz}{ps:List PV}{vs:List V}{N:List Str}(b:ax K F ps vs):Lc K F (fy N.length ps) (start N vs) where
 av:=λi p e=>by
  unfold fy at e;unfold start;by_cases hi:i<ps.length
  ·rw[fj (by simpa using hi),cJ]at e
   cases z:ps[i]? with
   | none=>rw[z]at e;cases e
   | some q =>
    rw[z]at e;cases e;obtain⟨v,h1,h2⟩:=b.get z;refine⟨v,?_,h2⟩;rw[fj (by simpa using (b.length▸hi)),cJ,h1]
    rfl
  ·rw[gQ (by simpa using hi),List.getElem?_replicate]at e
   split at e<;>cases e
 len:=by unfold fy start;simp[b.length]
def A3{K:W.Frag}{af H H':Hp}{F F':Fz}{h':List aj}(full:∀b o,H b=some o->af b=some o\/∃n:Nat,F.μ[n]?=some b)(D:kC K af F F' h' H'):Dm H H':=λb o e=>by
 rcases full b o e with z | ⟨n,hn⟩
 ·exact⟨o,D.keep b o z⟩
 ·exact(D.new n b (D.base.m n b hn)).2
def NY{P:Program}{w:World}{K:W.Frag}{mg:Str->Option Value}{base:Heap}{x qual:Str}{st:Stmt}{f:Addr}{fd:FuncData}{N ps:List Str}{k:Nat}{fb:Gx dE}(F:KC K x qual st f fd)(S:cA N ps (ar st))
  (hbody:∀(cF:Value) (A:Around) (aB:List Env) (s:Shared) (H:Hp) (E:XK),uO K f cF->cN k (A.deeper (envOfC qual (ar st) s.heap.objs.size f cF))->∀(af:Hp) (ag:Fz),
   PSs (ek (gE P w) P w K mg base N qual (ar st) f cF A aB s H E) (bO st) (tS (ek (gE P w) P w K mg base N qual (ar st) f cF A aB s H E) af ag fb)):FnOk P w K mg base (gE P w) (k+1) f fd ps (r9 K ps.length (gj fb N.length)):=by
 refine Jw F S (by rintro vs H Q E ⟨_,_,_,_,_,_,_,_,b,hl,_⟩;rw[<-b.length];exact hl) λcF A aB s H vs Q E Vh hr z9=>?_
 obtain⟨af,F,h,as,r,h',C,full,b,hl,hf,res⟩:=z9;refine⟨_,hbody cF A aB s H E Vh hr af F,F,⟨fy N.length as,h⟩,⟨C,wD b⟩,?_⟩;obtain⟨q,e1,e2⟩:=aK hf;refine⟨q,e1,?_⟩;rcases q with⟨f | ⟨m,c⟩,st⟩
 ·cases f with
  | rt=>cases e2;exact λv F' H' C' g b'=>res v F' H' C' b'
  | nx=>cases e2;exact λF' bz H' R g=>res .aL F' H' R.c (cG.mpr rfl)
  | _=>cases e2
 ·cases e2;cases m with
  | true=>exact λF' bz H' ah s1 h1 a cls vs R sf I hc hm=>A2 I hm (A3 full R.c) (res cls F' H' R.c hc)
  | false=>exact λbz ah H1 s1 e s' I h=>wC I h (by rintro cls H2 ⟨hc,F',R,sf⟩;exact⟨A3 full R.c,res cls F' H2 R.c hc⟩)
mutual
def noRef:PV->Bool
 | .ref _=>false
 | .nd _ ps=>ao ps
 | _=>true
def ao:List PV->Bool
 | []=>true
 | p::ps=>noRef p&&ao ps
end
section
variable {K:W.Frag} {F:Fz} {μ:List Addr}
mutual
theorem aU.any:∀{p:PV} {v:V},noRef p=true->aU K F p v->aU K ⟨F.F,μ⟩ p v
 | .aL,_,_,b=>cG.mpr (cG.mp b)
 | .bl _,_,_,b=>aX.mpr (aX.mp b)
 | .int _,_,_,b=>aD.mpr (aD.mp b)
 | .str _,_,_,b=>bE.mpr (bE.mp b)
 | .fn _,_,_,b=>pF.mpr (pF.mp b)
 | .ref _,_,h,_=>by simp[noRef]at h
 | .nd k ps,_,h,b=>by
  obtain⟨a,vs,h1,h2,h3⟩:=g7.mp b;exact g7.mpr ⟨a,vs,h1,h2,ax.any h h3⟩
theorem ax.any:∀{ps:List PV} {vs:List V},ao ps=true->ax K F ps vs->ax K ⟨F.F,μ⟩ ps vs
 | [],_,_,b=>by rw[b.b7];exact .nil
 | _::_,_,h,b=>by
  simp only[ao,aF]at h;obtain⟨v,r,rfl,b1,b2⟩:=b.bM;exact .cons (b1.any h.1) (ax.any h.2 b2)
end
end
def mD(h:List aj):Nat->PV->Option PV
 | 0,p=>if noRef p=true then some p else none
 | n+1,p=>if noRef p=true then some p else match p with
  | .ref m=>(h[m]?).bind λc=>if live c=true then(dg (mD h n) c.ps).map (.nd c.k)else none
  | .nd k ps=>(dg (mD h n) ps).map (.nd k)
  | _=>none
open Classical in
noncomputable def jF (F:Fz) (h:List aj) (H:Hp):Hp:=λa=>match F.F a with
 | some o=>some o
 | none=>if(∃(n:Nat) (c:aj),F.μ[n]?=some a/\h[n]?=some c/\live c=true)then H a else none
section
variable {K:W.Frag} {af H:Hp} {ag F:Fz} {h:List aj}
def gL{a:Addr}{o:HO}(e:F.F a=some o):jF F h H a=some o:=by unfold jF;rw[e]
def CG{a:Addr}{n:Nat}{c:aj}(e:F.F a=none)(h1:F.μ[n]?=some a)(h2:h[n]?=some c)(h3:live c=true):jF F h H a=H a:=by
 unfold jF;rw[e];exact if_pos ⟨n,c,h1,h2,h3⟩
def wF{a:Addr}{o:HO}(e:jF F h H a=some o):F.F a=some o\/(H a=some o/\∃n:Nat,F.μ[n]?=some a):=by
 unfold jF at e;split at e
 ·grind
 ·split at e
  ·grind
  ·cases e
def kC.mD(C:kC K af ag F h H)(μ:List Addr):∀(n:Nat) (p q:PV) (v:V),mD h n p=some q->aU K F p v->aU K ⟨jF F h H,μ⟩ q v:=by
 have keep:∀{p:PV} {v:V},noRef p=true->aU K F p v->aU K ⟨jF F h H,μ⟩ p v:=λhn b =>
  aU.mono (F:=⟨F.F,μ⟩) (F':=⟨jF F h H,μ⟩) ⟨λb o e=>gL e,λ_ _ e=>e⟩ (b.any hn)
 intro n;induction n with
 | zero =>
  intro p q v e b;obtain⟨hn,rfl⟩:=aC e;exact keep hn b
 | succ n ih =>
  intro p q v e b;unfold U.mD at e;split at e
  ·grind
  ·have list:∀(ps qs:List PV) vs,dg (U.mD h n) ps=some qs->ax K F ps vs->ax K ⟨jF F h H,μ⟩ qs vs:=by
    intro ps;induction ps with
    | nil=>intro qs vs e b;cases e;rw[b.b7];exact .nil
    | cons p ps ih2 =>
     intro qs vs e b;obtain⟨y,r,e1,e2,rfl⟩:=eK e;obtain⟨v,w,rfl,b1,b2⟩:=b.bM;exact .cons (ih p y v e1 b1) (ih2 r w e2 b2)
   split at e
   ·obtain⟨c,e1,e⟩:=aK e;obtain⟨hl,e⟩:=bL e;obtain⟨qs,e2,rfl⟩:=aM e;obtain⟨a,h1,h2⟩:=cR.mp b;obtain⟨hF,vs,h3,h4⟩:=C.cell _ c a e1 h1 hl;exact g7.mpr ⟨a,vs,h2,h3.to (λb o e=>gL e) (λo e=>by rw[show(Fz.mk (jF F h H) μ).F a=jF F h H a from rfl,CG hF h1 e1 hl];exact e) (λz=>by cases z),list _ _ _ e2 h4⟩
   ·obtain⟨qs,e2,rfl⟩:=aM e;obtain⟨a,vs,h1,h2,h3⟩:=g7.mp b;exact g7.mpr ⟨a,vs,h1,h2.to (λb o e=>gL e) (λo e=>gL e) id,list _ _ _ e2 h3⟩
   ·cases e
end
section
variable {X:Cx} {af:Hp} {ag:Fz} {e:Expr} {es:List Expr} {ts:Gx (List PV)} {pos p:Pos} {k n:Nat} {f:Addr} {fd:FuncData} {ps:List Str} {x:Str} {g:jw}
def nT{CX:BP}{sp:Sp}{E:XK}{ah:List (Addr×Obj)}{σ:St}{H:Hp}{s:Shared}{Q:VK}{us:List Value}{vs:List V}(F:FnOk X.prog X.w X.K X.mg X.base CX k f fd ps sp)(hr:cN k X.A)(hb:cz X.K fd ps [])(hx:∀e s',CX X.stack H s E e s'->X.xe e s')
  (I:Inv X ah σ H s) (r:Vals vs us) (h:sp vs H Q E):wpAny (model X.prog X.w) X.A (call (.ref f) us) (EP X ah σ Q) X.xe s:=by
 have P9:=hb s us I.mh (by rw[cX,<-r.length];exact F.len _ _ _ _ h)
 rw[cX]at P9;refine wpAny_call (oM (F.run X.A X.stack s H ⟨us,[]⟩ us vs Q E hr I.MT P9 r h) λr s' hq=>?_)
 cases r with
 | error e=>exact hx e s' hq
 | ok fl =>
  cases fl with
  | ret u=>exact I.after hq
  | next=>exact False.elim hq
  | brk=>exact False.elim hq
  | cont=>exact False.elim hq
noncomputable def Su:Rs PV->Rs PV
 | .ok p=>.ok p
 | .ex _ C=>.ex false C
def gM(h:List aj)(p:PV):Option PV:=if h.isEmpty=true then some p else mD h 4 p
def NZ(st:bP):Rs PV×List aj->Option (Rs PV×bP)
 | (.ok p,h)=>(gM h p).map λq=>(.ok q,st)
 | (.ex _ C,_)=>some (.ex false C,st)
def gD(n:Nat)(g:jw)(as:List PV):Gx PV:=λst=>if as.length=n then(g as st.h).map λr=>(Su r.1,⟨st.ρ,r.2⟩)else none
def jb(n:Nat)(g:jw)(as:List PV):Gx PV:=λst=>if as.length=n/\(st.h.isEmpty || ao as)=true then(g as []).bind (NZ st)else none
def Lg(n:Nat)(g:jw)(ts:Gx (List PV)):Gx PV:=bnd ts (jb n g)
def zk(X:Cx)(f:Addr)(w:List PV->Gx PV):Prop:=∀(af H:Hp) (ag F:Fz) (st:bP) (σ:St) (ah:List (Addr×Obj)) (s:Shared) (Q:VK) (as:List PV) (us:List Value) (vs:List V),Inv X ah σ H s->Rep X.K af ag F st σ H->ax X.K F as vs->Vals vs us->Tx X af ag (aU X.K) F st (w as) σ Q ->
 wpAny (model X.prog X.w) X.A (call (.ref f) us) (EP X ah σ Q) X.xe s
def N0(G:FnOk X.prog X.w X.K X.mg X.base (gE X.prog X.w) k f fd ps (r9 X.K n g))(hr:cN k X.A)(hb:cz X.K fd ps []):zk X f (gD n g):=by
 rintro af H ag F st σ ah s Q as us vs I R b r ⟨q,e1,e2⟩
 obtain⟨hl,e1⟩:=bL e1;obtain⟨⟨rs,h'⟩,e3,e4⟩:=aM e1;subst e4;obtain⟨C,full⟩:=R.c.enter;cases rs with
 | ok p'=>exact nT G hr hb (λe s' hx=>rQ ah σ H s e s' I hx) I r ⟨_,F,st.h,as,_,h',C,full,b,hl,e3,λv F' H' D b'=>e2 v H' F' ⟨R.c.leave D,R.l.mono D.base⟩ D.base b'⟩
 | ex m c=>exact thn (nT (Q:=λ_ _=>False) G hr hb (λe s' hx=>e2 σ ah H s e s' I hx) I r ⟨_,F,st.h,as,_,h',C,full,b,hl,e3,λcls F' H' D hc=>⟨hc,F',⟨R.c.leave D,R.l.mono D.base⟩,D.base⟩⟩) (by rintro v s3 ⟨_,_,_,_,z⟩;exact z.elim)
def Rep.back{K:W.Frag}{af H H1 H':Hp}{ag F F':Fz}{μ:List Addr}{st:bP}{σ:St}{h':List aj}(R:Rep K af ag F st σ H)(hH:bT H H1)(D:kC K H1 ⟨F.F,μ⟩ F' h' H'):Rep K af ag ⟨jF F' h' H',F.μ⟩ st σ H'/\Gr F ⟨jF F' h' H',F.μ⟩:=by
 have g:bT F.F (jF F' h' H'):=λb o e=>gL (D.base.s b o e)
 refine⟨R.after (hH.trans D.keep) g rfl (λb o e=>?_) (λa o e=>?_),g,λ_ _ z=>z⟩
 ·rcases wF e with z | ⟨z,_⟩
  ·exact D.sub b o z
  ·exact z
 ·rcases wF e with z | ⟨_,n,z⟩
  ·exact(D.fresh a o z).imp_right hH.free
  ·exact .inr (hH.free (D.new n a z).1)
def kC.pure{K:W.Frag}{af H:Hp}{ag F:Fz}{h:List aj}(C:kC K af ag F h H):kC K H ⟨F.F,[]⟩ ⟨F.F,[]⟩ [] H :=
 ⟨C.sub,bT.refl H,Gr.refl _,λa o e=>.inl e,λn a e=>by simp at e,rfl,oI,λn c a e=>by simp at e⟩
def wG{K:W.Frag}{H H':Hp}{G F':Fz}{h':List aj}{p q:PV}{v:V}(μ:List Addr)(D:kC K H G F' h' H')(e:gM h' p=some q)(b:aU K F' p v):aU K ⟨jF F' h' H',μ⟩ q v:=by
 unfold gM at e;split at e
 ·rename_i z;cases e;have e0:F'.μ=[]:=sW (by rw[<-D.hl,yx.mp z];rfl)
  exact b.mono ⟨λb o e=>gL e,λn a e=>by rw[e0]at e;simp at e⟩
 ·exact D.mD μ _ _ _ _ e b
def se{K:W.Frag}{af H:Hp}{ag F:Fz}{st:bP}{σ:St}{as:List PV}{vs:List V}(R:Rep K af ag F st σ H)(hn:(st.h.isEmpty || ao as)=true)(b:ax K F as vs)(μ:List Addr):ax K ⟨F.F,μ⟩ as vs:=by
 rcases Bool.or_eq_true _ _▸hn with z | z
 ·have e0:F.μ=[]:=sW (by rw[<-R.c.hl,yx.mp z];rfl)
  exact ax.mono (F:=F) (F':=⟨F.F,μ⟩) ⟨bT.refl _,λn a e=>by rw[e0]at e;simp at e⟩ b
 ·exact b.any z
def Sv(G:FnOk X.prog X.w X.K X.mg X.base (gE X.prog X.w) k f fd ps (r9 X.K n g))(hr:cN k X.A)(hb:cz X.K fd ps []):zk X f (jb n g):=by
 rintro af H ag F st σ ah s Q as us vs I R b r ⟨q,e1,e2⟩
 obtain⟨⟨hl,hn⟩,e1⟩:=bL e1;obtain⟨⟨rs,h'⟩,e3,e4⟩:=aK e1;have full:∀b o,H b=some o->H b=some o\/∃n:Nat,(Fz.mk F.F []).μ[n]?=some b:=by grind
 have b3:=se R hn b [];cases rs with
 | ok p' =>
  obtain⟨p2,e5,e6⟩:=aM e4;subst e6;refine nT G hr hb (λe s' hx=>rQ ah σ H s e s' I hx) I r ⟨H,⟨F.F,[]⟩,[],as,_,h',R.c.pure,full,b3,hl,e3,λv F' H' D b'=>?_⟩
  obtain⟨R3,g3⟩:=R.back (bT.refl _) D;exact e2 v H' _ R3 g3 (wG F.μ D e5 b')
 | ex m c =>
  cases e4;refine thn (nT (Q:=λ_ _=>False) G hr hb (λe s' hx=>e2 σ ah H s e s' I hx) I r ⟨H,⟨F.F,[]⟩,[],as,_,h',R.c.pure,full,b3,hl,e3,λcls F' H' D hc=>?_⟩) (by rintro v s3 ⟨_,_,_,_,z⟩;exact z.elim)
  obtain⟨R3,g3⟩:=R.back (bT.refl _) D;exact⟨hc,_,R3,g3⟩
def Fc{w:List PV->Gx PV}(G:zk X f w)(hg:Gl X x)(hm:X.mg x=some (.ref f))(hk:W.keepIn X.K (.ref f)=true)(ha:PA X (e::es) (tA X af ag ts))(vK:(x==("__debug__":Str))=false)
  (he:starEach (e::es) X.env=(false,eval e X.env)::starEach es X.env) (oW:(backTo pos (starEach es X.env)).any (·.1)=false):PE X (.Call (.Name x p) (e::es) [] pos) (tE X af ag (bnd ts w)):=by
 rintro ah s σ H Q I ⟨F1,st,R,h⟩
 refine gR (ld_glob I hg hm ?_ vK);exact W.callWith_K I.ok.mod.kin hk (thn (ha pos ah s σ H (λvs H2=>∃F2 dh as,Rep X.K af ag F2 dh σ H2/\ax X.K F2 as vs/\Tx X af ag (aU X.K) F2 dh (w as) σ Q) I
  ⟨F1,st,R,h.bnd λas vs F2 dh H2 R2 g2 b2 h2=>⟨F2,dh,as,R2,b2,h2⟩⟩) (by rintro us s1 ⟨vs,H2,I2,r,F2,dh,as,R2,b2,z⟩;exact⟨I2.mh,G _ _ _ _ _ _ _ _ _ _ _ _ I2 R2 b2 r z⟩)) he oW
end
noncomputable def Sw(T:String):Kd->Bool
 | .lst=>T=="list"
 | .dt _ _=>T=="dict"
 | _=>false
def tyG(T:String)(p:PV):Gx Unit:=hp λh=>(cE h p).bind λq=>if Sw T q.1=true then some ()else none
section
variable {X:Cx} {af:Hp} {ag:Fz} {e o:Expr} {es:List Expr} {fo fe:Gx PV} {ts:Gx (List PV)} {pos dW hJ:Pos} {T id:String} {name:Str} {r:V->List V->Hp->VK->Prop}
def Rep.tyV{K:W.Frag}{st:bP}(R:Rep K af ag F st σ H)(e:cE st.h p=some (k,ps))(ht:Sw T k=true)(b:aU K F p v):L2.tyV K T v H:=by
 obtain⟨a,vs,rfl,h2,h3⟩:=R.at e b
 match k,ht,h2 with
 | .lst,ht,h2=>exact .inl ⟨aR ht,vs,gZ.sq h2⟩
 | .dt false ks,ht,⟨kvs,h2,_⟩=>exact .inr (.inr (.inl ⟨aR ht,.inl ⟨kvs,h2⟩⟩))
 | .dt true ks,ht,⟨xs,h2,_⟩=>exact .inr (.inr (.inl ⟨aR ht,.inr ⟨xs,h2⟩⟩))
def Hv(T:String)(w:PV->List PV->Gx PV)(fo:Gx PV)(ts:Gx (List PV)):Gx PV:=bnd fo λp=>bnd (tyG T p) λ_=>bnd ts λas=>w p as
def Vi(X:Cx)(r:V->List V->Hp->VK->Prop)(w:PV->List PV->Gx PV):Prop:=∀(af H:Hp) (ag F:Fz) (st:bP) (σ:St) (p:PV) (as:List PV) (v:V) (ws:List V) (Q:VK),Tx X af ag (aU X.K) F st (w p as) σ Q->Rep X.K af ag F st σ H->aU X.K F p v->ax X.K F as ws->r v ws H Q
def Fd(hw:Vi X r w)(h:tE X af ag (Hv T w fo ts) σ H Q):Y2 X.K T r (tE X af ag fo) (tA X af ag ts) σ H Q:=by
 obtain⟨F,st,R,h⟩:=h;refine⟨F,st,R,h.bnd λp v F1 st1 H1 R1 g1 b1 h1=>?_⟩
 obtain⟨u,e,z⟩:=At.hp (At.bnd h1);obtain⟨⟨k,ps⟩,e1,e2⟩:=aK e;obtain⟨hk,_⟩:=aC e2;refine⟨R1.tyV e1 hk b1,F1,st1,R1,Tx.bnd z λas ws F2 dh H2 R2 g2 b2 h2=>hw af H2 ag F2 dh σ p as v ws Q h2 R2 (b1.mono g2) b2⟩
def Jx(hw:Vi X r w)(h:tE X af ag (Hv T w fo (cf [])) σ H Q):Rk X.K T r (tE X af ag fo) σ H Q:=by
 obtain⟨F,st,R,h⟩:=h;refine⟨F,st,R,h.bnd λp v F1 st1 H1 R1 g1 b1 h1=>?_⟩
 obtain⟨u,e,z⟩:=At.hp (At.bnd h1);obtain⟨⟨k,ps⟩,e1,e2⟩:=aK e;obtain⟨hk,_⟩:=aC e2;exact⟨R1.tyV e1 hk b1,hw af H1 ag F1 st1 σ p [] v [] Q (At.cf (At.bnd z)) R1 b1 .nil⟩
def Fe(hg:ER X.K r g):Vi X r (iD g):=λ_ _ _ _ _ _ _ _ _ _ _ h R bp ba=>Tx.mut hg h R bp ba
def N1:Vi X (NI X.K) nB:=λ_ _ _ _ _ _ _ _ _ _ _ h R bp ba=>Tx.ext h R bp ba
def wH(m:Str):Option (String×(PV->List PV->Gx PV)) :=
 if m==("append":Str)then some ("list",iD (fU kh))
 else if m==("extend":Str)then some ("list",nB)
 else none
noncomputable def Ff(m:Str):Option (String×(PV->List PV->Gx PV)) :=
 none
def W6(hu:X.A.units+1150<cLine)(ht:wH name=some (T,w))(ho:PE X o (tE X af ag fo))(ha:PA X (e::es) (tA X af ag ts))(kP:attributeBase o name X.env (eval o X.env)=eval o X.env)
  (IE:((backTo hJ (starEach (e::es) X.env)).all (λx=>!x.1)&&(backToKw hJ (keywordEach [] X.env)).all (λx=>x.1.isSome)&&decide ((e::es).length+([]:List Keyword).length+(if([]:List Keyword).isEmpty then 0 else 1)<30))=true)
  (kQ:(dW.endLine==hJ.line)=true) (qO:starEach (e::es) X.env=(false,eval e X.env)::starEach es X.env) (oW:(backTo hJ (starEach es X.env)).any (·.1)=false):PE X (.Call (.Attribute o name dW) (e::es) [] hJ) (tE X af ag (Hv T w fo ts)):=by
 unfold wH at ht;split at ht
 ·rename_i hx;cases ht;have hx:=aR hx;subst hx;exact(KY xW PySem.F.slot_list_append PySem.F.type_list_append Cc ho ha kP IE kQ qO oW).imp λ_ _ _ h=>Fd (Fe Jj) h
 ·split at ht
  ·rename_i hx;cases ht;have hx:=aR hx;subst hx;exact(KY xW PySem.F.slot_list_extend PySem.F.type_list_extend NJ ho ha kP IE kQ qO oW).imp λ_ _ _ h=>Fd N1 h
  ·cases ht
def Sx(ht:Ff name=some (T,w))(ho:PE X o (tE X af ag fo))(kP:attributeBase o name X.env (eval o X.env)=eval o X.env)(kQ:(dW.endLine==hJ.line)=true) :
  PE X (.Call (.Attribute o name dW) [] [] hJ) (tE X af ag (Hv T w fo (cf []))):=by
 cases ht
def iE(po pi pv:PV):bP->Option bP:=λst=>(i8 st.h po).bind λc=>match c.2.k with
 | .lst=>(mx pi).bind λi=>(B9 c.2.ps.length i).map λj=>⟨st.ρ,st.h.set c.1 ⟨.lst,c.2.ps.set j pv⟩⟩
 | .dt t ks=>(eU t pi).bind λk=>if ks.length<gF then some ⟨st.ρ,st.h.set c.1 (ib t k pv ks c.2.ps)⟩else none
 | _=>none
def W7(K:W.Frag):D6:=λo i v H Q=>∃af ag F st τ po pi pv st',iE po pi pv st=some st'/\Rep K af ag F st τ H/\aU K F po o/\aU K F pi i/\aU K F pv v/\∀H' F',Rep K af ag F' st' τ H'->Gr F F'->Q H'
def Sy(hu:X.A.units+1150<cLine):D7 X (W7 X.K):=by
 rintro ah s σ H o i v ov iv u Q I ro ri rv ⟨af,ag,F,st,τ,po,pi,pv,st',e,R,bo,bi,bv,k⟩
 obtain⟨⟨n,c⟩,e1,e0⟩:=aK e;clear e;have e:=e0;clear e0;obtain⟨rfl,hc,hl⟩:=fL e1;obtain⟨a,ha,rfl⟩:=cR.mp bo;obtain⟨_,vs,h2,h3⟩:=R.c.cell n c a hc ha hl;split at e
 ·rename_i hk;obtain⟨j,e2,e⟩:=aK e;obtain⟨m,e3,rfl⟩:=aM e;rw[eL e2]at bi;have hk:=hk;rw[hk]at h2;refine Ep ah s σ H _ _ v ov iv u Q I ro ri rv ⟨a,vs,j,m,rfl,aD.mp bi,h2,by rw[<-h3.length];exact e3,k _ F (R.put hc hl ha aA (h3.set bv m)) (Gr.refl _)⟩
 ·rename_i t ks hk;have hk:=hk;obtain⟨kk,e2,e⟩:=aK e;obtain⟨hz,rfl⟩:=aC e;rw[hk]at h2;cases t with
  | false =>
   obtain⟨kvs,g1,g2,g3⟩:=h2;obtain⟨j,rfl,rfl⟩:=lp e2 bi;rw[<-g3]at h3;obtain⟨lN,uz,p1,p2,p3⟩:=EM (j:=j) bv h3;have d8:kvs.length<sizeLine:=by
    have:ks.length=kvs.length:=by grind
    exact bQ (by grind) (dD (az _))
   rw[g2]at p1;refine NK ah s σ H _ _ v ov iv u Q I ro ri rv ⟨a,kvs,j,rfl,rfl,g1,d8,k _ F ?_ (Gr.refl _)⟩;simp only[p1];exact R.put hc hl ha ⟨_,aA,p2,rfl⟩ p3
  | true =>
   obtain⟨xs,g1,g2,g3,g4⟩:=h2;obtain⟨cc,rfl,Mj⟩:=i7 e2 bi;refine NL (by lia) ah s σ H _ _ v ov iv u Q I ro ri rv ⟨a,cc,xs,kk,rfl,rfl,g1,λz hz=>dJ R.sub (g2 z hz),dJ R.sub Mj,(by
    have:ks.length=xs.length:=by grind
    exact bQ (by grind) (dD (az _))),λr hr=>?_⟩
   obtain⟨lN,uz,vD,p1,p2,p3,p4,p5⟩:=EN bv hr Mj g2 h3 g4;rw[g3]at p1;refine k _ F ?_ (Gr.refl _);simp only[p1];exact R.put hc hl ha ⟨_,aA,p3,p2,p5⟩ p4
 ·cases e
def N2(fv fo fi:Gx PV):Gx dE:=bnd fv λv=>bnd fo λo=>bnd fi λi=>stp (iE o i v)
def Sz(hu:X.A.units+1150<cLine)(he:PE X e (tE X af ag fv))(ho:PE X o (tE X af ag fo))(hi:PE X k (tE X af ag fi))
  (ha:∀v,assign (.Subscript o k Cy) X.env v=(do
   let ov <-holding [v] (eval o X.env)
   let iv <-holding [v,ov] (eval k X.env)
   standAt Cy
   holding [v,ov,iv] (setItem ov iv v)
   release [v,ov,iv] []))
  (hs:swapsWithSole [.Subscript o k Cy] e pos.line X.env=pure false) (hw:swappedStores [.Subscript o k Cy] e X.env=pure none):PS X (.Assign [.Subscript o k Cy] e pos) (tS X af ag (N2 fv fo fi)) :=
 (D9 he (Mx ho hi (Sy hu) ha) hs hw rfl).imp λD σ H ⟨F,st,R,h⟩=>⟨F,st,R,h.bnd λpv v F1 st1 H1 R1 g1 b1 h1=>⟨F1,st1,R1,h1.bnd λpo o F2 dh H2 R2 g2 b2 h2=>⟨F2,dh,R2,h2.bnd λpi i F3 vB H3 R3 g3 b3 h3=>by
  obtain⟨st',e,z⟩:=h3.stp;exact⟨af,ag,F3,vB,σ,po,pi,pv,st',e,R3,b2.mono g3,b3,b1.mono (g2.trans g3),λH' F' R' g'=>z F' σ H' R' g'⟩⟩⟩⟩
def Jy(t:Bool):Gx PV:=hZ ⟨.dt t [],[]⟩
def SA(t:Bool):PE X (.Dict [] [] pos) (tE X af ag (Jy t)):=by
 cases t with
 | false=>exact EO.imp (by rintro σ H Q ⟨F,st,R,h⟩ p hp;exact Tx.hZ h R hp ⟨[],aA,rfl,rfl⟩ .nil)
 | true=>exact IH.imp (by rintro σ H Q ⟨F,st,R,h⟩ p hp;exact Tx.hZ h R hp ⟨[],aA,(λ_ z=>nomatch z),rfl,.nil⟩ .nil)
end
def A4(K:W.Frag)(mg:Str->Option Value)(P:Params)(T:Str)(rows:List (Str×Str)):Prop :=
 ∃a es n,mg T=some (.ref a)/\K.lookup a=some ⟨.type "dict",none,.dict es n,#[]⟩/\W.KeysLit P es.toList/\∀k fn,rows.lookup k=some fn->∃f,W.nsIn K a k=some (some (.ref f))/\mg fn=some (.ref f)/\W.nsIn K mainGlobals fn=some (some (.ref f))
def uP(K:W.Frag)(mg:Str->Option Value)(P:Params)(T:Str)(rows:List (Str×PV)):Prop :=
 ∃a es n,(a==sysModules)=false/\mg T=some (.ref a)/\K.lookup a=some ⟨.type "dict",none,.dict es n,#[]⟩/\W.KeysLit P es.toList/\∀k p,rows.lookup k=some p->∃u v,W.nsIn K a k=some (some u)/\RelV v u/\∀F,aU K F p v
def W8(K:W.Frag)(a:Addr):R2:=λx y H Q=>∃k u v,x=.ref a/\y=.str k/\W.nsIn K a k=some (some u)/\RelV v u/\Q v H
noncomputable def N3:PV->Option Str | .str x=>some x | _=>none
def sg(h:N3 p=some i):p=.str i:=by
 cases p<;>first | (cases h;rfl) | cases h
section
variable {X:Cx} {af:Hp} {ag:Fz} {e ke:Expr} {es:List Expr} {fk fe ff:Gx PV} {ts:Gx (List PV)} {pos p sp:Pos} {T:Str}
def Fg{es:Array DictEntry}(hl:X.K.lookup a=some ⟨.type "dict",none,.dict es n,#[]⟩)(hk:W.KeysLit X.w.params es.toList):P7 X (W8 X.K a):=by
 rintro value slice ah s σ H x y v u Q I rx ry ⟨k,u',v',ex,ey,e,rv,q⟩ hs
 subst ex ey;cases rx;obtain⟨t,rfl⟩:=ry;have hm:=W.mapOf_K (prog:=X.prog) I.mh hl hk;exact l8 hm.typeIs slot_dict_getitem.lookup (wpAny_getItem_of (strKind_is X.prog X.w k t) hm (W.find_K hl e) ⟨v',H,I.tok _,rv,q⟩) hs
def CH(j7:Str->Option PV)(fk:Gx PV):Gx PV:=bnd fk λq=>iB ((N3 q).bind j7)
def SD(ht:uP X.K X.mg X.w.params T rows)(hg:Gl X T)(hk:PE X ke (tE X af ag fk))(hs:kN ke)(vK:(T==("__debug__":Str))=false):PE X (.Subscript (.Name T p) ke sp) (tE X af ag (CH (λk=>rows.lookup k) fk)):=by
 obtain⟨a,QG,n,_,t1,t2,t3,t4⟩:=ht;refine(Eo (Fg t2 t3) (uj (v:=.ref a) hg t1 rfl vK) hk hs).imp λσ H Q ⟨F,st,R,h⟩=>?_
 refine⟨F,st,R,h.bnd λpk v F1 st1 H1 R1 g1 b1 h1=>?_⟩
 obtain⟨q,e1,z⟩:=h1.iB;obtain⟨k,e2,e3⟩:=aK e1;rw[sg e2]at b1;obtain⟨u,w,n1,n2,n3⟩:=t4 k q e3;exact⟨k,u,w,rfl,bE.mp b1,n1,n2,z _ H1 F1 R1 (Gr.refl _) (n3 F1)⟩
def SE(ht:A4 X.K X.mg X.w.params T rows)(hg:Gl X T)(hk:PE X ke (tE X af ag fk))(hs:kN ke)(vK:(T==("__debug__":Str))=false):PE X (.Subscript (.Name T p) ke sp) (tE X af ag (CH (λk=>(rows.lookup k).map .fn) fk)):=by
 obtain⟨a,QG,n,t1,t2,t3,t4⟩:=ht;refine(Eo (Fg t2 t3) (uj (v:=.ref a) hg t1 rfl vK) hk hs).imp λσ H Q ⟨F,st,R,h⟩=>?_
 refine⟨F,st,R,h.bnd λpk v F1 st1 H1 R1 g1 b1 h1=>?_⟩
 obtain⟨q,e1,z⟩:=h1.iB;obtain⟨k,e2,e3⟩:=aK e1;obtain⟨fn,e4,rfl⟩:=aM e3;rw[sg e2]at b1;obtain⟨f,n1,n2,n3⟩:=t4 k fn e4;exact⟨k,.ref f,.ref f,rfl,bE.mp b1,n1,rfl,z _ H1 F1 R1 (Gr.refl _) (pF.mpr ⟨f,rfl,n3⟩)⟩
def Lh(X:Cx)(fns:List (Str×Nat))(call:Str->jw):Prop:=∀x n,fns.lookup x=some n->∃k f fd ps,FnOk X.prog X.w X.K X.mg X.base (gE X.prog X.w) k f fd ps (r9 X.K n (call x))/\cN k X.A/\X.mg x=some (.ref f)/\W.keepIn X.K (.ref f)=true/\cz X.K fd ps []
noncomputable def Vj:PV->Option Str | .fn x=>some x | _=>none
def Fh{p:PV}(h:Vj p=some i):p=.fn i:=by
 cases p<;>first | (cases h;rfl) | cases h
def A5(fns:List (Str×Nat))(call:Str->jw)(ff:Gx PV)(ts:Gx (List PV)):Gx PV:=bnd ff λq=>bnd (iB ((Vj q).bind λx=>(fns.lookup x).map λn=>(x,n))) λx=>Lg x.2 (call x.1) ts
def uQ(v k:Expr)(sp:Pos)(args:List Expr)(pos:Pos)(env:Env):eval (.Call (.Subscript v k sp) args [] pos) env=(do callWith pos (<-eval (.Subscript v k sp) env) [] (backTo pos (starEach args env)) (backToKw pos (keywordEach [] env))):=rfl
def Jz{call:Str->jw}(QK:Lh X fns call)(Eu:∀x a,W.nsIn X.K mainGlobals x=some (some (.ref a))->X.mg x=some (.ref a))(hf:PE X (.Subscript v k sp) (tE X af ag ff))(ha:PA X (e::es) (tA X af ag ts))
  (he:starEach (e::es) X.env=(false,eval e X.env)::starEach es X.env) (oW:(backTo pos (starEach es X.env)).any (·.1)=false):PE X (.Call (.Subscript v k sp) (e::es) [] pos) (tE X af ag (A5 fns call ff ts)):=by
 rintro ah s σ H Q I ⟨F,st,R,h⟩
 rw[uQ];refine ai (thn (hf ah s σ H (λv H1=>∃F1 st1 q,Rep X.K af ag F1 st1 σ H1/\aU X.K F1 q v/\Tx X af ag (aU X.K) F1 st1 (bnd (iB ((Vj q).bind λx=>(fns.lookup x).map λn=>(x,n))) λx=>Lg x.2 (call x.1) ts) σ Q) I
  ⟨F,st,R,h.bnd λq v F1 st1 H1 R1 g1 b1 h1=>⟨F1,st1,q,R1,b1,h1⟩⟩) λu s1 ⟨x,H1,I1,rx,F1,st1,q,R1,b1,h1⟩=>?_)
 obtain⟨⟨y,n⟩,e1,z⟩:=At.iB (At.bnd h1);obtain⟨y',e2,e3⟩:=aK e1;obtain⟨n',e4,e5⟩:=aM e3;simp only[iP]at e5;obtain⟨rfl,rfl⟩:=e5;rw[Fh e2]at b1;obtain⟨a,rfl,RS⟩:=pF.mp b1;obtain⟨j,f',fd,ps,G,hr,m1,m2,m3⟩:=QK _ _ e4;have:=bC ((Eu _ a RS).symm.trans m1);cases this;cases rx;exact W.callWith_K I.ok.mod.kin m2 (thn (ha pos ah s1 σ H1 (λvs H2=>∃F2 dh as,Rep X.K af ag F2 dh σ H2/\ax X.K F2 as vs/\Tx X af ag (aU X.K) F2 dh (jb _ _ as) σ Q) I1
  ⟨F1,st1,R1,Tx.bnd z λas vs F2 dh H2 R2 g2 b2 h2=>⟨F2,dh,as,R2,b2,h2⟩⟩) (by rintro us s2 ⟨vs,H2,I2,r,F2,dh,as,R2,b2,z⟩;exact⟨I2.mh,Sv G hr m3 _ _ _ _ _ _ _ _ _ _ _ _ I2 R2 b2 r z⟩)) he oW
noncomputable def wI(f:Str):List Str->List PV->Option PV
 | g::ns,p::ps=>if g=f then some p else wI f ns ps
 | _,_=>none
def JA(f:Str)(fe:Gx PV):Gx PV:=bnd fe λp=>hp λh=>match cE h p with
 | some (.ins _ ns,ps)=>wI f ns ps
 | _=>none
theorem pX{K:W.Frag}:∀{fs:List (Str×V)} {ps:List PV} {p:PV},wI f (fs.map (·.1)) ps=some p->ax K F ps (fs.map (·.2))->f∈fs.map (·.1)/\∃v,fs.lookup f=some v/\aU K F p v
 | [],_,_,h,_=>by cases h
 | (g,v)::r,[],_,h,_=>by cases h
 | (g,v)::r,q::ps,p,h,b=>by
  obtain⟨v',w,e,b1,b2⟩:=b.bM;cases e;have h:(if g=f then some q else wI f (r.map (·.1)) ps)=some p:=h
  by_cases hg:g=f
  ·grind
  ·rw[if_neg hg]at h;obtain⟨h1,v2,h2,h3⟩:=pX h b2;have hgf:(f==g)=false:=by grind
   exact⟨cH _ h1,v2,by grind,h3⟩
def SF(he:PE X e (tE X af ag fe))(hb:attributeBase e f X.env (eval e X.env)=eval e X.env):PE X (.Attribute e f pos) (tE X af ag (JA f fe)):=(MP he hb).imp λσ H Q ⟨F,st,R,h⟩=>⟨F,st,R,h.bnd λq v F1 st1 H1 R1 g1 b1 h1=>by
 obtain⟨o,e,z⟩:=h1.hp;split at e
 ·rename_i C ns ps hd;obtain⟨a,vs,rfl,⟨Ca,dx,fs,h2,h3,h4,h5,h6,h7⟩,h8⟩:=R1.at hd b1;subst h6 h7;obtain⟨hm,w,hl,bw⟩:=pX e h8;exact⟨a,Ca,dx,fs,w,rfl,h5,h3,h4 f hm,hl,z _ H1 F1 R1 (Gr.refl _) bw⟩
 ·cases e⟩
noncomputable def ic(f:Str)(q:PV):List Str->List PV->List Str×List PV
 | g::ns,p::ps=>if g=f then(g::ns,q::ps)else(g::(ic f q ns ps).1,p::(ic f q ns ps).2)
 | _,_=>([f],[q])
theorem A6{K:W.Frag}(bq:aU K F q v):∀{fs:List (Str×V)} {ps:List PV},ax K F ps (fs.map (·.2))->(gi f v fs).map (·.1)=(ic f q (fs.map (·.1)) ps).1/\ax K F (ic f q (fs.map (·.1)) ps).2 ((gi f v fs).map (·.2))/\∀g∈(ic f q (fs.map (·.1)) ps).1,g=f\/g∈fs.map (·.1)
 | [],ps,b=>by
  have e:=sW b.length;subst e;exact⟨rfl,.cons bq .nil,λg hg=>.inl (by simpa[ic]using hg)⟩
 | (g,w)::r,[],b=>by have:=b.length;simp at this
 | (g,w)::r,p::ps,b=>by
  obtain⟨v',w',e,b1,b2⟩:=b.bM;cases e;obtain⟨h1,h2,h3⟩:=A6 bq b2;by_cases hg:g=f
  ·subst hg;have e1:gi g v ((g,w)::r)=(g,v)::r:=if_pos rfl;have e2:ic g q (((g,w)::r).map (·.1)) (p::ps)=(g::r.map (·.1),q::ps):=if_pos rfl;rw[e1,e2];exact⟨rfl,.cons bq b2,λy hy=>.inr hy⟩
  ·have e1:gi f v ((g,w)::r)=(g,w)::gi f v r:=if_neg hg;have e2:ic f q (((g,w)::r).map (·.1)) (p::ps)=(g::(ic f q (r.map (·.1)) ps).1,p::(ic f q (r.map (·.1)) ps).2):=if_neg hg;rw[e1,e2];refine⟨by rw[aO,h1],.cons b1 h2,λy hy=>?_⟩
   rcases aW.mp hy with rfl | hy
   ·grind
   ·grind
def wJ(K:W.Frag)(cls:List Str)(flds:List Str):Prop:=∀C,cls.contains C=true->∃Ca,ClsAt K C (.ref Ca)/\qN K Ca/\∀f,flds.contains f=true->fQ K Ca f
def eW(cls flds:List Str)(f:Str)(po pv:PV):bP->Option bP:=λst=>(i8 st.h po).bind λc=>match c.2.k with
 | .ins C ns=>if(cls.contains C&&flds.contains f&&decide (ns.length<900))=true then some ⟨st.ρ,st.h.set c.1 ⟨.ins C (ic f pv ns c.2.ps).1,(ic f pv ns c.2.ps).2⟩⟩else none
 | _=>none
def JB(cls flds:List Str)(f:Str)(fv fo:Gx PV):Gx dE:=bnd fv λv=>bnd fo λo=>stp (eW cls flds f o v)
theorem ei{cls flds:List Str}(hc:wJ X.K cls flds){po pv:PV}{o v:V}{F F1:Fz}{st st':bP}(R:Rep X.K af ag F st σ H)(b2:aU X.K F1 po o)(g:Gr F1 F)(b1:aU X.K F pv v)(e:eW cls flds f po pv st=some st') :
  ∃a Ca dx fs,o=.ref a/\H a=some (.ins Ca dx fs)/\qN X.K Ca/\fQ X.K Ca f/\fs.length<900/\Rep X.K af ag F st' σ (cy H a (.ins Ca dx (gi f v fs)))/\∀n c C ns,i8 st.h po=some (n,c)->c.k=.ins C ns->ClsAt X.K C (.ref Ca):=by
  obtain⟨⟨n,c⟩,e1,e0⟩:=aK e;clear e;have e:=e0;clear e0;obtain⟨rfl,Dn,hl⟩:=fL e1;obtain⟨a,ha,rfl⟩:=cR.mp (b2.mono g);obtain⟨_,vs,Zo,g3⟩:=R.c.cell n c a Dn ha hl;split at e
  ·rename_i C ns hk;obtain⟨hq,rfl⟩:=aC e;rw[aF,aF]at hq;rw[hk]at Zo;obtain⟨Ca,dx,fs,k1,k2,k3,k4,rfl,rfl⟩:=Zo;obtain⟨Cb,m1,m2,m3⟩:=hc C hq.1.1;have eC:Ca=Cb:=by
    have:=k1.symm.trans m1;cases this;rfl
   subst eC;have dX:=gS hq.2;rw[aQ]at dX;obtain⟨p1,p2,p3⟩:=A6 b1 g3;refine⟨a,Ca,dx,fs,rfl,k4,k2,m3 f hq.1.2,dX,R.put Dn hl ha ⟨Ca,dx,_,k1,k2,λg hg=>?_,aA,p1,rfl⟩ p2,λn c C ns h1 h2=>?_⟩
   ·rcases p3 g hg with rfl | hg
    ·exact m3 _ hq.1.2
    ·exact k3 g hg
   ·cases e1.symm.trans h1;cases hk.symm.trans h2;exact k1
  ·cases e
def SG{cls flds:List Str}(hc:wJ X.K cls flds)(ho:PE X o (tE X af ag fo))(he:PE X e (tE X af ag fv))(hs:swapsWith e (some (.Attribute o f mZ)) pos.line X.env=pure false):PS X (.Assign [.Attribute o f mZ] e pos) (tS X af ag (JB cls flds f fv fo)) :=
 (MQ ho he hs).imp λD σ H ⟨F,st,R,h⟩=>⟨F,st,R,h.bnd λpv v F1 st1 H1 R1 g1 b1 h1=>⟨F1,st1,R1,h1.bnd λpo o F2 dh H2 R2 g2 b2 h2=>by
  obtain⟨st',e,z⟩:=h2.stp;obtain⟨a,Ca,dx,fs,k1,k2,k3,k4,k5,k6,_⟩:=ei hc R2 b2 (Gr.refl _) (b1.mono g2) e;exact⟨a,Ca,dx,fs,k1,k2,k3,k4,Nat.le_add_left_of_le k5,z F2 σ _ k6 (Gr.refl _)⟩⟩⟩
end
def W9(X:Cx)(af:Hp)(ag:Fz)(fa:Addr)(ω:PV->Gx PV):Prop:=∀(H:Hp) (F:Fz) (st:bP) (σ:St) (ah:List (Addr×Obj)) (s:Shared) (Q:VK) (p:PV) (u:Value) (v:V),Inv X ah σ H s->Rep X.K af ag F st σ H->aU X.K F p v->RelV v u->Tx X af ag (aU X.K) F st (ω p) σ Q ->
 wpAny (model X.prog X.w) X.A (call (.ref fa) [u]) (EP X ah σ Q) X.xe s
structure Fj (X:Cx) (af:Hp) (ag:Fz) (n:Nat) (ω:PV->Gx PV):Prop where
 ex:∃fa o u Xa,ag.μ[n]?=some fa/\X.af fa=some (.vH o u)/\o.data=.func Xa/\W9 X af ag fa ω
structure SH (X:Cx):Prop where
 ex:∃x c T,x∈dq/\W.tabIn X.K x=some (c,T)/\W.codeHdIn X.K c T=true/\X.env.code=.ref c/\X.env.qual++"<lambda>"=HS x
 blt:Ew X.mg X.base
theorem sh{K:W.Frag}:∀ns:List Int,ax K F (ns.map .int) (ns.map V.int)
 | []=>.nil
 | n::r=>.cons (aD.mpr rfl) (sh r)
section
variable {X:Cx} {af:Hp} {ag:Fz} {e o:Expr} {fe fo:Gx PV} {pos p wK zp ap cp:Pos}
def A7(h:starEach [e] X.env=(false,eval e X.env)::starEach [] X.env)(hq:wpAny M A (eval e X.env) (λv s1=>Q [v] s1) E s):wpAny M A (spliced (backTo pos (starEach [e] X.env))) Q E s:=by
 rw[h];exact Calls.spliced_cons (thn hq λv s1 q=>Calls.spliced_nil q)
end
end L2.U
namespace PySem
open PyProof.Rows
namespace F
def ej:entryFor table "dict.update.loop"=some Builtin.«dict.update.loop» := entryFor_of_tree (by kernel_rfl)
def b8:plainId "dict.update.loop"=true:=by decide +kernel
end F
section
variable {prog:Program} {w:World} {K:Type} [DecidableEq K] {knd:KeyKind prog w K} {A:Around} {R:Result->Shared->Prop} {I:Addr} {fp wr:List Addr} {G:Array GenState->Array GenState->Prop} {n:Nat} {P:Nat->Value->Prop} {St:Nat->Shared->Prop}
def wL(h:Heap)(b:Addr)(key v:Value):Prop:=∃o m,h.get? b=some o/\o.cls=.type "tuple"/\o.data=.seq #[key,v] m
def nD(hp:wL s.heap b key v)(h:Q [key,v] s):wpAny (model prog w) A (Builtin.Dict.pairItems (.ref b)) Q E s:=by
 obtain⟨o,m,h1,h2,h3⟩:=hp;unfold Builtin.Dict.pairItems;refine ai (l7 ⟨o,h1,h2⟩ ?_);rw[if_pos (by decide)]
 refine ai ?_;unfold seqItems?;obtain⟨abw,Zr,Zs,Xb⟩:=o;simp only at h2 h3;subst h2 h3
 wp_walk
 exact h
def CI(W:WalksS prog w A.in1 I fp wr G n P St)(S:Addr)(hSf:S∉fp)(hl:kvs.length=n)(hn:n<=sizeLine){s₀:Shared}
  (N4:∀i v,P i v->∃b k key u,v=.ref b/\kvs[i]?=some (k,u)/\knd.is k key=true/\b∉S::wr/\wL s₀.heap b key u) :
  ∀(c i:Nat) (s:Shared),n-i=c->i<=n->St i s->(∀b o,b∉S::wr->s₀.heap.get? b=some o->s.heap.get? b=some o)->s.heap.DictOf knd S (merged [] (kvs.take i)) ->
   (∀s',Moved (S::wr) G s s'->s'.heap.DictOf knd S (merged [] kvs)->R (.ok (.ret .none)) s') ->
   codeAny (model prog w) A (.builtin "dict.update.loop" ⟨[.ref S,.ref I,rawInt (i:Int),.none],[]⟩) R s:=by
 have Zt:S∉wr:=λh=>hSf (W.sub _ h)
 have Jn:∀b∈wr,b∈S::wr:=by grind
 intro c;induction c with
 | zero =>
  intro i s hk hi qO ho hS hR;have Xc:i=n:=by lia
  subst Xc;refine tM F.ej ?_;rw[tq F.b8 _];refine ai (W.done s _ _ qO λs' hm=>?_)
  refine ai (ak ?_);rw[xY (iR ‹_›)]at hS;refine ak (hR s' (hm.mono Jn) ?_);obtain⟨o,es,ep,h1,r⟩:=hS;exact⟨o,es,ep,hm.heap S _ Zt h1,r⟩
 | succ c ih =>
  intro i s hk hi qO ho hS hR;have uM:i<n:=by lia
  refine tM F.ej ?_;rw[tq F.b8 _];refine ai (W.item i s _ _ uM qO λv s' hP N6 hm=>?_)
  obtain⟨b,k,key,u,rfl,hki,MO,hbn,SJ⟩:=N4 i v hP;have lM:∀b o,b∉S::wr->s₀.heap.get? b=some o->s'.heap.get? b=some o:=λb o hb e=>hm.heap b o (λz=>hb (cH _ z)) (ho b o hb e)
  refine ai (dB ?_);refine ai (wpAny_tryCatch (nD (by
   obtain⟨o,m,h1,r⟩:=SJ;exact⟨o,m,lM b o hbn h1,r⟩) ?_))
  refine dB ?_;have hsz:(merged [] (kvs.take i)).length<=sizeLine:=by
   have:=merged_length_le ([]:List (K×Value)) (kvs.take i);rw[lU]at this;simp at this
   lia
  refine wpAny_dictSet_pairs MO (by
   obtain⟨o,es,ep,h1,r⟩:=hS;exact⟨o,es,ep,hm.heap S _ Zt h1,r⟩) λh' hd Xd=>?_
  rw[<-merged_take_succ _ _ _ _ hki]at hd;have Xe:∀b o,b∉S::wr->s₀.heap.get? b=some o->h'.get? b=some o:=λb o hb e=>(Xd.2 b (λh:b=S=>hb (by grind))).trans (lM b o hb e)
  refine ak ⟨tZ F.b8 _,ih (i+1) _ (by lia) uM (W.frame _ s' _ _ N6 (yw ..) λb hb o e=>?_) Xe hd λQ9 Xf Xg=>?_⟩
  ·exact(Xd.2 b (λh:b=S=>hSf (by grind))).trans e
  ·refine hR Q9 (Moved.trans W.gtrans ((hm.mono Jn).then_heap (yw ..) λb o hb e=>?_) Xf) Xg
   exact(Xd.2 b (λh:b=S=>hb (by grind))).trans e
end
namespace F
theorem uR:typeLookup (.type "list") "keys"=pure none:=by rw[yz,yb];kernel_rfl
end F
section
variable {prog:Program} {w:World} {A:Around} {E:Value->Shared->Prop} {s:Shared} {a:Addr} {o:Obj} {xs:Array Value} {k:Nat} {Q:Option Value->Shared->Prop}
theorem pY(hx:s.heap.get? a=some o)(hc:o.cls=.type "list")(zb:o.data=.seq xs k)(hd:o.dict=none)(hA:A.handled=none)
  (h:∀h' tk,(∀b ob,s.heap.get? b=some ob->h'.get? b=some ob)->Q none {s with heap:=h',toks:=tk}) :
  wpAny (model prog w) A (getAttr? (.ref a) "keys") Q E s:=by
 obtain⟨c,Li,dat,sl⟩:=o;simp only at hc zb hd;subst hc zb hd;obtain⟨hp,g,d,tk,os⟩:=s;have hT:∀Vk,(⟨hp,g,d,Vk,os⟩:Shared).TypeIs (.ref a) "list":=λ_=>⟨_,hx,rfl⟩
 have f1:=sub_AttributeError;have f3:=xR.lookup;have f4:=xR.bind (.ref a);have f5:=am_list_getattr_none;unfold getAttr? getAttrBy? getAttrBy
 repeat (any_goals (first | assumption | exact hT _ | ((with_reducible show wpAny _ _ (call (Value.builtin "list.__getattribute__") _ _) _ _ _);refine fx xR (hT _) am_entry_list_getattribute (F.args_list_getattribute_2 _ _) (meets_getattribute_miss_list a xs k sl "keys" _ F.uR (by decide +kernel) (by decide +kernel)) ⟨hx,hA,λh' Vk e Cv=>?_⟩) | wp_step))
 obtain⟨t',u',he⟩:=Cv.there;show wpAny _ _ (getattributeRaised _ _ _ _ _ _ _) _ _ _;unfold getattributeRaised
 repeat (any_goals (first | assumption | wp_step))
 exact h _ _ Cv.keeps
end
section
variable {prog:Program} {w:World} {A:Around} {E:Value->Shared->Prop} {s:Shared} {K:Type} [DecidableEq K] {knd:KeyKind prog w K}
theorem wM{l:Addr}{ol:Obj}{items:Array Value}{m:Nat}{kvs:List (K×Value)}{Q:Value->Shared->Prop}(hh:A.handled=none)(hx:s.heap.get? l=some ol)(hc:ol.cls=.type "list")(zb:ol.data=.seq items m)(Vl:ol.dict=none)
  (hi:∀(i:Nat) (v:Value),items[i]?=some v->∃b k key u,v=.ref b/\kvs[i]?=some (k,u)/\knd.is k key=true/\wL s.heap b key u) (hlk:kvs.length=items.size) (hb:items.size<=sizeLine)
  (h:∀(h':Heap) (tk:Nat),h'.DictOf knd s.heap.objs.size (merged [] kvs)->(∀b o,b<s.heap.objs.size->s.heap.get? b=some o->h'.get? b=some o)->Q (.ref s.heap.objs.size) {s with heap:=h',toks:=tk}) :
  wpAny (model prog w) A (call (.type "dict") [.ref l]) Q E s:=by
 refine callType_codes (Q₁:=λobj s₁=>obj=.ref s.heap.objs.size/\s₁={s with heap:=s.heap.push {cls:=.type "dict",data:=.dict #[]}}) F.kt_called_dict (F.kt_typeCall_dict_1 _) F.entry_dict_init (kt_code_dict_new _ ⟨rfl,rfl⟩) ?_
 rintro obj s₁ ⟨rfl,rfl⟩
 have zl:(s.heap.push {cls:=.type "dict",data:=.dict #[]}).DictOf knd s.heap.objs.size []:=Heap.DictOf.new s.heap
 have Cv:(s.heap.push {cls:=.type "dict",data:=.dict #[]}).get? l=some ol:=aE _ hx
 have Zu:l<s.heap.objs.size:=aG hx;refine⟨zl.typeIs,F.args_dict_init_2 _ _,?_⟩;unfold Builtin.«dict.__init__»;refine ai ?_;unfold Builtin.Dict.selfAndRest;refine ai (wpAny_notOrdered_dict zl.typeIs ?_);show wpAny _ _ (pure (s.heap.objs.size,[Value.ref l])) _ _ _;refine ak ?_;show wpAny _ _ (Builtin.Dict.updateFrom "dict.__init__" s.heap.objs.size (.ref l) [] .none) _ _ _;unfold Builtin.Dict.updateFrom;refine ai (l7 (T:="list") ⟨ol,Cv,hc⟩ ?_);rw[if_pos (by decide)]
 refine ai (pY Cv hc zb Vl (by simp[hh]) λh2 tk2 kp=>?_)
 rw[if_pos (show(none:Option Value).isNone=true from rfl)]
 have hx2:h2.get? l=some ol:=kp l ol Cv;have Lj:h2.DictOf knd s.heap.objs.size []:=by
  obtain⟨o,es,ep,h1,r⟩:=zl;exact⟨o,es,ep,kp _ _ h1,r⟩
 have Zv:h2.IsList l items:=⟨ol,hx2,hc,m,zb⟩;refine ai (gW ?_);refine ai ?_;refine yn Zv ?_;refine ak ⟨tZ F.b8 _,?_⟩;have Vm:s.heap.objs.size<h2.objs.size:=by
  obtain⟨o,_,_,h1,_⟩:=Lj;exact aG h1
 have Xh:l≠h2.objs.size:=aZ (iQ Zu Vm);have hSf:s.heap.objs.size∉[h2.objs.size,l]:=by
  simp only[aW,cK,cM,not_or];exact⟨aZ Vm,oK Zu⟩
 have N7:A.in1.in1.handled=none:=by simp[hh]
 have N4:∀(i:Nat) (v:Value),items[i]?=some v->∃b k key u,v=.ref b/\kvs[i]?=some (k,u)/\knd.is k key=true/\b∉[s.heap.objs.size,h2.objs.size]/\wL s.heap b key u:=λi v hv=>by
  obtain⟨b,k,key,u,e1,e2,e3,e4⟩:=hi i v hv;refine⟨b,k,key,u,e1,e2,e3,?_,e4⟩;obtain⟨o,_,ho,_⟩:=e4;have:=aG ho;simp only[aW,cK,cM,not_or];exact⟨aZ this,aZ (iQ this Vm)⟩
 refine CI (knd:=knd) (s₀:=s) ((Walks.list N7 h2.objs.size l Xh items).toS) s.heap.objs.size hSf hlk hb N4 (items.size-0) 0 _ (by lia) (gV _) ⟨⟨_,bu _ rfl,rfl,rfl⟩,Zv.push _⟩ (λb o _ e=>aE _ (kp _ _ (aE _ e))) ?_ ?_
 ·obtain⟨o,es,ep,h1,r⟩:=Lj;exact⟨o,es,ep,aE _ h1,r⟩
 ·intro s' hm Lk;obtain⟨h',g',d',Vk,Q7⟩:=s';have eg:g'=s.gens:=hm.gens;have ed:d'=s.drawn:=hm.drawn;have eo:Q7=s.os:=hm.os;subst eg;subst ed;subst eo;refine⟨rfl,h h' Vk Lk λb o hb e=>?_⟩
  refine hm.heap b o ?_ (aE _ (kp _ _ (aE _ e)));simp only[aW,cK,cM,not_or];exact⟨aZ hb,aZ (iQ hb Vm)⟩
end
end PySem
namespace L2.U
open PySem PySem.Spec PyProof.Rows
section
variable {X:Cx} {a b:Expr} {ta tb:TE} {p cp bp:Pos}
def mS(K:W.Frag)(H:Hp):List V->List (bG×V)->Prop:=Paired λv kv=>∃c,v=.ref c/\gY K H c [kV kv.1,kv.2]
def ie(kvs:List (bG×V)):List (bG×V):=kvs.foldl (λacc kv=>putK acc kv.1 kv.2) []
theorem wN:∀{kvs:List (bG×V)} {vs:List (bG×Value)} {acc:List (bG×V)} {SK:List (bG×Value)},L2.KV kvs vs->L2.KV acc SK->L2.KV (kvs.foldl (λacc kv=>putK acc kv.1 kv.2) acc) (vs.foldl (λacc kv=>stored acc kv.1 kv.2) SK)
 | _,_,_,_,.nil,h=>h
 | _,_,_,_,.cons (a:=x) r t,h=>by
  have h2:=h.put x.1 r.2;rw[jV,jV];rw[r.1]at h2 ⊢;exact wN (t) h2
def Fl(f:List (bG×V)):∀acc:List (bG×V),(f.foldl (λacc kv=>putK acc kv.1 kv.2) acc).length<=acc.length+f.length:=by
 induction f with
 | nil=>intro acc;simp
 | cons x f ih =>
  intro acc;have:=ih (putK acc x.1 x.2);have:=AO acc x.1 x.2;rw[jV,cw]
  lia
theorem A8(I:Inv X ah σ H s):∀{vs:List V} {kvs:List (bG×V)},mS X.K H vs kvs->∀{us:List Value},Vals vs us->∃JC:List (bG×Value),L2.KV kvs JC/\JC.length=us.length/\∀(i:Nat) (u:Value),us[i]?=some u->∃b k key w,u=.ref b/\JC[i]?=some (k,w)/\(cP X.prog X.w).is k key=true/\wL s.heap b key w
 | _,_,.nil,us,r=>by
  cases r;exact⟨[],.nil,rfl,λi u h=>by cases h⟩
 | _,_,.cons (b:=kv) q t,us,r=>by
  cases r with
  | cons r1 r2 =>
   obtain⟨JC,g1,g2,g3⟩:=A8 I t r2;obtain⟨c,rfl,hs⟩:=q;obtain⟨aw,rr,⟨o,h1,h2,n,h3⟩,_⟩:=I.tuple hs;obtain⟨key,w,e,hk,hw⟩:=rr.two;subst e;cases r1;refine⟨(kv.1,w)::JC,.cons ⟨rfl,hw⟩ g1,by rw[cw,cw,g2],λi u hu=>?_⟩
   cases i with
   | zero =>
    cases hu;exact⟨c,kv.1,key,w,rfl,rfl,pB hk,o,n,h1,h2,h3⟩
   | succ i=>exact g3 i u hu
end
def Zw(K:W.Frag):List V->Hp->VK->Prop:=λxs H Q=>∃a vs kvs,xs=[.ref a]/\gZ K H a vs/\vs.length<=1000/\mS K H vs kvs/\∀p,H p=none->Q (.ref p) (cy H p (.dK (ie kvs)))
theorem zm{X:Cx}(hh:X.A.handled=none):jI X (.type "dict") (Zw X.K):=by
 intro ah s σ H xs us Q I rs ⟨a,vs,kvs,ex,ha,hl,hp,q⟩;subst ex;obtain⟨u,rfl,ru⟩:=iY rs;cases ru;obtain⟨aw,n,r,hx,_⟩:=I.kW ha;obtain⟨JC,g1,g2,g3⟩:=A8 I hp r;have Zx:1000<=sizeLine:=by decide
 have hil:aw.length<=1000:=by rw[<-r.length];exact hl
 refine wM (knd:=cP X.prog X.w) (items:=aw.toArray) (kvs:=JC) hh hx rfl rfl rfl (λi v hv=>?_) (by rw[g2];simp) (by simp;lia) λh' tk dd kp=>?_
 ·rw[List.getElem?_toArray]at hv;exact g3 i v hv
 ·have P8:L2.KV (ie kvs) (merged [] JC):=wN g1 .nil;refine⟨.ref _,_,I.laid (o:=.dK (ie kvs)) (λb u e=>kp b u (aG e) e) (az _) ?_,rfl,q _ (I.hok.fresh (az _))⟩
  refine⟨?_,eA.mpr (bR (aZ (kU I))),_,P8,dd⟩;have:=Fl kvs [];have e:kvs.length=JC.length:=l4 g1;unfold ie;simp only[jX]at this
  lia
def JD{X:Cx}{a:Expr}{ta:TE}{p cp:Pos}(hh:X.A.handled=none)(hg:Gl X "dict")(hm:X.mg "dict"=none)(ha:PE X a ta)(hs:starEach [a] X.env=[(false,eval a X.env)]):PE X (.Call (.Name "dict" p) [a] [] cp) (λσ H Q=>ta σ H λx H1=>Zw X.K [x] H1 Q):=by
 intro ah s σ H Q I h;refine Call_ (ld_blt I hg hm (show bootBuiltins "dict"=some (.type "dict") by decide +kernel) (gw (A7 hs (thn (ha ah s σ H _ I h) λv s1 ⟨x,H1,I1,r1,q1⟩=>?_)) hs rfl))
 exact zm hh ah s1 σ H1 [x] [v] Q I1 (.cons r1 .nil) q1
def Fm:PV->Option (bG×PV)
 | .nd .aq [k,v]=>(Cs k).map λj=>(j,v)
 | _=>none
def A9:List (bG×PV)->aj->aj
 | [],c=>c
 | (k,v)::r,c=>match c.k with
  | .dt t ks=>A9 r (ib t (k,[]) v ks c.ps)
  | _=>c
def Fo(ps:List PV):Option aj:=if ps.length<=1000 then(dg Fm ps).map λkvs=>A9 kvs ⟨.dt false [],[]⟩else none
section
variable {K:W.Frag} {F:Fz}
theorem wO:∀{ps:List PV} {kvs:List (bG×PV)} {vs:List V},dg Fm ps=some kvs->ax K F ps vs->∃ks:List (bG×V),mS K F.F vs ks/\ks.map (·.1)=kvs.map (·.1)/\ax K F (kvs.map (·.2)) (ks.map (·.2))
 | [],_,_,h,b=>by
  cases h;rw[b.b7];exact⟨[],.nil,rfl,.nil⟩
 | p::ps,kvs,vs,h,b=>by
  obtain⟨kv,r,h1,h2,rfl⟩:=eK h;obtain⟨v,w,rfl,b1,b2⟩:=b.bM;obtain⟨ks,g1,g2,g3⟩:=wO h2 b2;unfold Fm at h1;split at h1
  ·rename_i k q;obtain⟨j,e1,rfl⟩:=aM h1;obtain⟨c,ws,rfl,hs,hb⟩:=bF.mp b1;obtain⟨x,y,rfl,bx,bq⟩:=AJ hb;rw[lj e1 bx]at hs;exact⟨(j,y)::ks,.cons ⟨c,rfl,hs⟩ g1,by rw[aO,aO,g2],.cons bq g3⟩
  ·cases h1
theorem Ba:∀{kvs:List (bG×PV)} {ks:List (bG×V)} {acc:List (bG×V)} {ps:List PV},ks.map (·.1)=kvs.map (·.1)->ax K F (kvs.map (·.2)) (ks.map (·.2))->ax K F ps (acc.map (·.2)) ->
  ∃lN uz,A9 kvs ⟨.dt false (acc.map λy=>(y.1,[])),ps⟩=⟨.dt false lN,uz⟩/\(ks.foldl (λacc kv=>putK acc kv.1 kv.2) acc).map (λy=>(y.1,[]))=lN/\ax K F uz ((ks.foldl (λacc kv=>putK acc kv.1 kv.2) acc).map (·.2))
 | [],ks,acc,ps,h1,h2,h3=>by
  have:=List.map_eq_nil_iff.mp h1;subst this;exact⟨_,_,rfl,rfl,h3⟩
 | (k,q)::kvs,[],acc,ps,h1,h2,h3=>by cases h1
 | (k,q)::kvs,(j,v)::ks,acc,ps,h1,h2,h3=>by
  simp only[aO,yA]at h1;obtain⟨rfl,h1⟩:=h1;obtain⟨v',w,e,b1,b2⟩:=h2.bM;cases e;obtain⟨lN,uz,e1,e2,e3⟩:=EM b1 h3;obtain⟨ks2,ps2,e4,e5,e6⟩:=Ba h1 b2 e3;refine⟨ks2,ps2,?_,e5,e6⟩;show A9 kvs (ib false (j,[]) q (acc.map λy=>(y.1,[])) ps)=_
  rw[e1,<-e2];exact e4
end
def JE{K:W.Frag}(h:Fo ps=some c)(b:ax K F ps vs):∃ks:List (bG×V),mS K F.F vs ks/\ps.length<=1000/\∃lN qs,c=⟨.dt false lN,qs⟩/\(ie ks).map (λy=>(y.1,[]))=lN/\ax K F qs ((ie ks).map (·.2)):=by
 obtain⟨hl,h⟩:=bL h;obtain⟨kvs,h1,rfl⟩:=aM h;obtain⟨ks,g1,g2,g3⟩:=wO h1 b;obtain⟨lN,uz,e1,e2,e3⟩:=Ba (acc:=[]) g2 g3 .nil;exact⟨ks,g1,hl,lN,uz,e1,e2,e3⟩
theorem mS.mono{K:W.Frag}(h:bT F G):∀{vs:List V} {ks:List (bG×V)},mS K F vs ks->mS K G vs ks
 | _,_,.nil=>.nil
 | _,_,.cons ⟨c,e,q⟩ t=>.cons ⟨c,e,cC h q⟩ (mS.mono h t)
section
variable {X:Cx} {af:Hp} {ag:Fz} {a b e:Expr} {fa fb fe:Gx PV} {p cp bp:Pos}
def JF(fa:Gx PV):Gx PV:=bnd fa λp st=>match p with
 | .nd .lst ps=>(Fo ps).bind λc=>hZ c st
 | _=>none
def N8(hh:X.A.handled=none)(hg:Gl X "dict")(hm:X.mg "dict"=none)(ha:PE X a (tE X af ag fa))(hs:starEach [a] X.env=[(false,eval a X.env)]):PE X (.Call (.Name "dict" p) [a] [] cp) (tE X af ag (JF fa)) :=
 (JD hh hg hm ha hs).imp λσ H Q ⟨F,st,R,h⟩=>⟨F,st,R,h.bnd λq v F1 st1 H1 R1 g1 b1 h1=>by
  obtain⟨r,e1,e2⟩:=h1;split at e1
  ·rename_i ps;obtain⟨c,e5,e1⟩:=aK e1;obtain⟨ad,vs,rfl,hs1,Zy⟩:=cZ.mp b1;obtain⟨ks,k1,hl,lN,uz,rfl,e6,e7⟩:=JE e5 Zy;refine⟨ad,vs,ks,rfl,iZ R1.sub hs1,by rw[<-Zy.length];exact hl,k1.mono R1.sub,λp hp=>?_⟩
   exact Tx.hZ (show Tx X af ag (aU X.K) F1 st1 (hZ ⟨.dt false lN,uz⟩) σ Q from⟨r,e1,e2⟩) R1 hp ⟨ie ks,aA,e6,rfl⟩ e7
  ·cases e1⟩
end
def N9:List PV->Option (List Int)
 | [.int n]=>if 0<=n/\n<=1000 then some (rangeInts 0 1 n.toNat)else none
 | [.int a,.int b]=>if 0<=a/\a<=b/\b<=1000 then some (rangeInts a 1 (b-a).toNat)else none
 | _=>none
def ki(m:Nat)(ps:List PV):Gx PV:=λst=>match m with
 | 0=>some (.ok (.lst ps),st)
 | _=>hZ ⟨.lst,ps⟩ st
def Xi(m:Nat)(ts:Gx (List PV)):Gx PV:=bnd ts λps=>bnd (iB (N9 ps)) λl=>ki m (l.map .int)
def boot_range:bootBuiltins "range"=some (.type "range"):=by kernel_rfl
section
variable {X:Cx} {af:Hp} {ag:Fz} {e:Expr} {es:List Expr} {ts:Gx (List PV)} {pos p wK zp:Pos} {m:Nat}
def Tx.ki{st:bP}(h:Tx X af ag (aU X.K) F st (ki m ps) σ Q)(R:Rep X.K af ag F st σ H)(hq:H q=none)(hb:ax X.K F ps vs):Q (.ref q) (cy H q (.lst vs)):=by
 cases m with
 | zero =>
  obtain⟨r,e1,e2⟩:=h;cases e1;obtain⟨R2,s2⟩:=R.laid (.lst vs) hq;exact e2 _ _ _ R2 s2 (cZ.mpr ⟨q,vs,rfl,gZ.of aA,hb.mono s2⟩)
 | succ m=>exact Tx.hZ (h) R hq aA hb
def zo(h:ItemsOf (fun(i:Nat) (v:Value)=>∃t:Tok,v=Value.int (a+i*c) t) acc n):Vals ((rangeInts a c n).map V.int) acc.toList:=by
 have:∀l k,(∀j v,l[j]?=some v->∃t:Tok,v=Value.int (a+(k+j:Nat)*c) t)->Vals (((List.range' k l.length).map fun(i:Nat)=>a+i*c).map V.int) l:=by
  intro l;induction l with
  | nil=>intro k _;exact .nil
  | cons x l ih =>
   intro k hx;obtain⟨t,ht⟩:=hx 0 x rfl;rw[cw,List.range'_succ,aO,aO];refine .cons ⟨t,by rw[ht];rfl⟩ (ih (k+1) λj v hv=>?_)
   have:=hx (j+1) v (by simpa using hv)
   rw[show k+(j+1)=k+1+j by lia]at this
   exact this
 have h2:=this acc.toList 0 λj v hv=>by
  rw[jZ];exact h.2 j v (by rw[<-tj];exact hv)
 rw[lR,h.1,<-List.range_eq_range']at h2;exact h2
def SM(hh:X.A.handled=none)(SN:Gl X "list")(SO:X.mg "list"=none)(hg:Gl X "range")(hm:X.mg "range"=none)(ha:PA X (e::es) (tA X af ag ts))(hs:starEach (e::es) X.env=(false,eval e X.env)::starEach es X.env)(B6:(backTo wK (starEach es X.env)).any (·.1)=false) :
  PE X (.Call (.Name "list" p) [.Call (.Name "range" zp) (e::es) [] wK] [] pos) (tE X af ag (Xi m ts)):=by
 rintro ah s σ H Q I ⟨F,st,Rp,h⟩
 refine gR (ld_blt I SN SO (ia .list) ?_ (by decide) (by decide))
 refine gw (A7 rfl ?_) rfl rfl;have hA:=ha wK ah s σ H (λvs H'=>∃F' st' ps,Rep X.K af ag F' st' σ H'/\ax X.K F' ps vs/\Tx X af ag (aU X.K) F' st' (bnd (iB (N9 ps)) λl=>ki m (l.map .int)) σ Q) I ⟨F,st,Rp,h.bnd λps vs F1 st1 H1 R1 g1 b1 h1=>⟨F1,st1,ps,R1,b1,h1⟩⟩
 refine Call_ (ld_blt I hg hm boot_range (gw (thn hA λus s1 z9=>?_) hs B6))
 obtain⟨vs,H1,I1,r1,F1,st1,ps,R1,b1,h1⟩:=z9;obtain⟨ns,f2,h1⟩:=At.iB (At.bnd h1);have jr:∀r h1 Xj (a b c:Int) (t u v:Tok) (n:Nat),(∀b o,s1.heap.get? b=some o->h1.get? b=some o)->IsRange h1 r a b c t u v->Builtin.Range.small a b c=true->Builtin.Range.rangeSize a b c=n->n<=3000->ns=rangeInts a c n ->
   wpAny (model X.prog X.w) X.A (call (.type "list") [.ref r]) (EP X ah σ Q) X.xe {s1 with heap:=h1,toks:=Xj}:=λr h2 Xj a b c t u v n hk hr hsm hn hle Eu=>by
  refine call_list_range hh hr hsm hn (by lia) λh' tk acc c' Ve hS Xk=>?_
  have I2:=I1.kept (t':=Xj) hk;have hz:=I2.hok.fresh (az _);have hv:=zo Xk;rw[<-Eu]at hv;refine⟨.ref h2.objs.size,cy H1 h2.objs.size (.lst (ns.map V.int)),I2.laid Ve (az _) ⟨?_,acc.toList,c',hv,hS⟩,rfl,Tx.ki h1 R1 hz (sh ns)⟩;rw[aQ,Eu,rangeInts_length];exact aJ hle (by decide)
 clear h1;unfold N9 at f2;split at f2
 ·rename_i n;obtain⟨⟨h0,h1⟩,e1⟩:=aC f2;obtain⟨v,rfl,bv⟩:=dv b1;rw[aD.mp bv]at r1;obtain⟨u,rfl,ru⟩:=iY r1;obtain⟨tk0,rfl⟩:=ru;refine call_range_1 ?_;refine jr _ _ _ 0 n 1 _ _ _ n.toNat (λb o e=>aE _ e) (IsRange.new ..) ?_ ?_ (by lia) e1.symm
  ·exact small_one (by decide) (by decide) (by lia) (by lia)
  ·unfold Builtin.Range.rangeSize;rw[if_pos (by decide)]
   split<;>lia
 ·rename_i a b;obtain⟨⟨h0,h1,h2⟩,e1⟩:=aC f2;obtain⟨v1,v2,rfl,bv1,bv2⟩:=AJ b1;rw[aD.mp bv1,aD.mp bv2]at r1;obtain⟨u1,u2,rfl,NR,SQ⟩:=Av r1;obtain⟨k1,rfl⟩:=NR;obtain⟨k2,rfl⟩:=SQ;refine call_range_2 ?_;refine jr _ _ _ a b 1 _ _ _ (b-a).toNat (λb o e=>aE _ e) (IsRange.new ..) (small_one (by lia) (by lia) (by lia) (by lia)) (rangeSize_nat a b) (by lia) e1.symm
 ·cases f2
end
end L2.U
namespace PySem.W
open PySem PyProof.Rows
abbrev Zz(a b:List Nat×List Int):Prop:=a.1<b.1\/a.1=b.1/\a.2<b.2
end PySem.W
namespace L2.U
open PySem PySem.Spec PyProof.Rows
section
variable {X:Cx} {af:Hp} {ag:Fz} {e:Expr} {fe:Gx PV} {pos p:Pos} {m:Nat}
def Oa(h:List aj)(p q:PV):Option (List PV):=(ny h p).bind λxs=>(ny h q).bind λys=>if xs.length+ys.length<=gF then some (xs++ys)else none
def Ob(m:Nat)(fa fb:Gx PV):Gx PV:=bnd fa λp=>bnd fb λq=>bnd (hp λh=>Oa h p q) λl=>ki m l
def Xl(X:Cx)(af:Hp)(ag:Fz)(m:Nat):R2:=λx y H Q=>∃F st σ pa pb l,Oa st.h pa pb=some l/\Rep X.K af ag F st σ H/\aU X.K F pa x/\aU X.K F pb y/\Tx X af ag (aU X.K) F st (ki m l) σ Q
def JG:OpR X (binaryOp .Add) (Xl X af ag m):=by
 rintro ah s σ H x y v u Q I rx ry ⟨F,st,τ,pa,pb,l,e,R,ba,bb,k⟩
 obtain⟨xs,e1,e⟩:=aK e;obtain⟨ys,e2,e⟩:=aK e;obtain⟨hz,rfl⟩:=aC e;obtain⟨a,vs,rfl,ha,fK⟩:=R.at (dS e1) ba;obtain⟨b,ws,rfl,hb,Hq⟩:=R.at (dS e2) bb;cases rx;cases ry;obtain⟨aw,n,r,e1,z1⟩:=I.kW ha;obtain⟨dR,n2,r2,e2,z2⟩:=I.kW hb;have hl:=r.length;have Va:=r2.length;have hz':vs.length+ws.length<=sizeLine:=by rw[<-fK.length,<-Hq.length];exact dD hz
 refine PySem.P.add_list e1 e2 ?_ (by grind)
 have ea:aw.toArray++dR.toArray=(aw++dR).toArray:=by simp
 rw[ea];exact⟨.ref _,_,I.M6 (r.append r2) (by grind),rfl,Tx.ki k R I.fresh (fK.append Hq)⟩
def Oc{a b:Expr}{fa fb:Gx PV}(ha:PE X a (tE X af ag fa))(hb:PE X b (tE X af ag fb)):PE X (.BinOp a .Add b pos) (tE X af ag (Ob m fa fb)):=(KR JG ha hb).imp λσ H Q ⟨F,st,R,h⟩ =>
 ⟨F,st,R,h.bnd λp v F1 st1 H1 R1 g1 b1 h1=>⟨F1,st1,R1,h1.bnd λq w F2 dh H2 R2 g2 b2 h2=>by
  obtain⟨l,e,z⟩:=At.hp (At.bnd h2);exact⟨F2,dh,σ,p,q,l,e,R2,b1.mono g2,b2,z⟩⟩⟩
end
theorem ng{a b:Nat}(h:b<a):@Ne Addr a b:=oK h
structure Zp (h:Heap) (z TI TO i1 i2 l1 l2:Nat) (f0:Value) (k:Nat) (xs ys:Array Value):Prop where
 hz:IsZip h z TI TO f0
 hTI:IsPair h TI (.ref i1) (.ref i2)
 hTO:∃a b,IsPair h TO a b
 s1:SI h i1 l1 k xs
 s2:SI h i2 l2 k ys
 ord:i1<i2/\i2<TI/\TI<TO/\TO<z
 o1:l1<i1
 o2:l2<i1
section
variable {prog:Program} {w:World} {A:Around} {E:Value->Shared->Prop} {s:Shared} {z TI TO i1 i2 l1 l2:Nat} {k:Nat} {xs ys:Array Value}
theorem Bb{x y:Value}{Q:Value->Shared->Prop}(Z:Zp s.heap z TI TO i1 i2 l1 l2 .none k xs ys)(hx:xs[k]?=some x)(hy:ys[k]?=some y)
  (hQ:∀h',Zp h' z TI TO i1 i2 l1 l2 (rawInt s.heap.objs.size) (k+1) xs ys->IsPair h' s.heap.objs.size x y->h'.objs.size=s.heap.objs.size+1->(∀c o,c≠z->c≠TO->c≠i1->c≠i2->s.heap.get? c=some o->h'.get? c=some o)->Q (.ref s.heap.objs.size) {s with heap:=h'}) :
  wpAny (model prog w) A (Builtin.«zip.__next__» ⟨[.ref z],[]⟩) (λjr s'=>∃v,jr=.done (.ret v)/\Q v s') E s:=by
 obtain⟨hz,hTI,⟨a,b,hTO⟩,s1,s2,⟨o1,o2,o3,o4⟩,q1,q2⟩:=Z;show wpAny _ _ (field (.ref z) 2 >>= _) _ _ _;refine ai (cx hz rfl (x:=.bool false) rfl ?_);show wpAny _ _ (field (.ref z) 3 >>= _) _ _ _;refine ai (cx hz rfl (x:=.ref TI) rfl (ai (eG hTI rfl ?_)));show wpAny _ _ (Builtin.SmallTypes.ownedTupleIsFree (.ref z) >>= _) _ _ _;refine ai ?_;unfold Builtin.SmallTypes.ownedTupleIsFree;refine ai (cx hz rfl (x:=.none) rfl (ak ?_));simp only[d5];refine ai (gW (ai (cx hz rfl (x:=.ref TO) rfl (ai (jP hz (by simp) λfZ hz₁ e₁=>?_)))))
 replace hz₁:IsZip fZ z TI TO .ellipsis:=hz₁;refine ai ?_;simp only[List.zipIdx_cons,List.zipIdx_nil,lX,oH];refine ai (ai (tY ?_));show wpAny _ _ (Builtin.SmallTypes.nextOf (.ref i1) >>= _) _ _ _;have lr:SI fZ i1 l1 k xs:=s1.at (λo e=>e₁.extBut _ _ (by first | exact nl (by lia) | exact ng (by lia)) e) (λo e=>e₁.extBut _ _ (by first | exact nl (by lia) | exact ng (by lia)) e)
 refine ai (SI.next lr hx λpZ wQ e₂=>ak ?_)
 have p6:IsPair pZ TO a b:=e₂.extBut _ _ (by first | exact nl (by lia) | exact ng (by lia)) (e₁.extBut _ _ (by first | exact nl (by lia) | exact ng (by lia)) hTO)
 refine ai (eG p6 rfl (ai (ye p6 λkj hTO₃ iF=>?_)))
 replace hTO₃:IsPair kj TO x b:=hTO₃;refine ai (oP (ak (ai (ai (tY ?_)))));show wpAny _ _ (Builtin.SmallTypes.nextOf (.ref i2) >>= _) _ _ _;have wR:SI kj i2 l2 k ys:=s2.at (λo e=>iF.extBut _ _ (by first | exact nl (by lia) | exact ng (by lia)) (e₂.extBut _ _ (by first | exact nl (by lia) | exact ng (by lia)) (e₁.extBut _ _ (by first | exact nl (by lia) | exact ng (by lia)) e))) (λo e=>iF.extBut _ _ (by first | exact nl (by lia) | exact ng (by lia)) (e₂.extBut _ _ (by first | exact nl (by lia) | exact ng (by lia)) (e₁.extBut _ _ (by first | exact nl (by lia) | exact ng (by lia)) e)))
 refine ai (SI.next wR hy λOd SR e₄=>ak ?_)
 have Fp:IsPair Od TO x b:=e₄.extBut _ _ (by first | exact nl (by lia) | exact ng (by lia)) hTO₃
 refine ai (eG Fp rfl (ai (ye Fp λjc hTO₅ zq=>?_)))
 replace hTO₅:IsPair jc TO x y:=hTO₅;refine ai (oP (ak (ak ?_)));refine ai (eG hTO₅ rfl (ai (wpAny_newTuple ?_)));have hsz:jc.objs.size=s.heap.objs.size:=by rw[zq.1,e₄.1,iF.1,e₂.1,e₁.1]
 have Ll:IsZip jc z TI TO .ellipsis:=zq.extBut _ _ (by first | exact nl (by lia) | exact ng (by lia)) (e₄.extBut _ _ (by first | exact nl (by lia) | exact ng (by lia)) (iF.extBut _ _ (by first | exact nl (by lia) | exact ng (by lia)) (e₂.extBut _ _ (by first | exact nl (by lia) | exact ng (by lia)) hz₁)))
 have kp:∀c o,c≠z->c≠TO->c≠i1->c≠i2->s.heap.get? c=some o->jc.get? c=some o:=λc o c1 c2 c3 c4 e=>zq.extBut _ _ c2 (e₄.extBut _ _ c4 (iF.extBut _ _ c2 (e₂.extBut _ _ c3 (e₁.extBut _ _ c1 e))))
 have SS:SI jc i1 l1 (k+1) xs:=wQ.at (λo e=>zq.extBut _ _ (by first | exact nl (by lia) | exact ng (by lia)) (e₄.extBut _ _ (by first | exact nl (by lia) | exact ng (by lia)) (iF.extBut _ _ (by first | exact nl (by lia) | exact ng (by lia)) e))) (λo e=>zq.extBut _ _ (by first | exact nl (by lia) | exact ng (by lia)) (e₄.extBut _ _ (by first | exact nl (by lia) | exact ng (by lia)) (iF.extBut _ _ (by first | exact nl (by lia) | exact ng (by lia)) e)))
 have SU:SI jc i2 l2 (k+1) ys:=SR.at (λo e=>zq.extBut _ _ (by first | exact nl (by lia) | exact ng (by lia)) e) (λo e=>zq.extBut _ _ (by first | exact nl (by lia) | exact ng (by lia)) e)
 have zlt:z<jc.objs.size:=aG Ll;show wpAny _ _ (Builtin.SmallTypes.ownedTupleHandOut (.ref z) (.ref jc.objs.size) >>= _) _ _ _;refine ai ?_;unfold Builtin.SmallTypes.ownedTupleHandOut;have SV:IsZip (jc.push {cls:=.type "tuple",data:=.seq #[x,y]}) z TI TO .ellipsis:=aE _ Ll
 refine ai (jP SV (by simp) λXm Fq e₇=>?_)
 replace Fq:IsZip Xm z TI TO (rawInt jc.objs.size):=Fq;refine jP Fq (by simp) λFs Bc Oe=>?_
 replace Bc:IsZip Fs z TI TO (rawInt jc.objs.size):=Bc;have up:∀c o,c≠z->jc.get? c=some o->Fs.get? c=some o:=λc o c1 e=>Oe.extBut _ _ c1 (e₇.extBut _ _ c1 (aE _ e))
 have hT₈:IsPair Fs jc.objs.size x y:=Oe.extBut _ _ (by first | exact nl (by lia) | exact ng (by lia)) (e₇.extBut _ _ (by first | exact nl (by lia) | exact ng (by lia)) (bu _ rfl))
 have ZA:Fs.objs.size=jc.objs.size+1:=by rw[Oe.1,e₇.1,dz]
 rw[hsz]at Bc hT₈ ZA;refine ak ⟨_,rfl,?_⟩;show Q (.ref jc.objs.size) _;rw[hsz];refine hQ Fs ⟨Bc,up _ _ (by first | exact nl (by lia) | exact ng (by lia)) (kp _ _ (by first | exact nl (by lia) | exact ng (by lia)) (by first | exact nl (by lia) | exact ng (by lia)) (by first | exact nl (by lia) | exact ng (by lia)) (by first | exact nl (by lia) | exact ng (by lia)) hTI),⟨x,y,up _ _ (by first | exact nl (by lia) | exact ng (by lia)) hTO₅⟩,SS.at (λo e=>up _ o (by first | exact nl (by lia) | exact ng (by lia)) e) (λo e=>up _ o (by first | exact nl (by lia) | exact ng (by lia)) e),SU.at (λo e=>up _ o (by first | exact nl (by lia) | exact ng (by lia)) e) (λo e=>up _ o (by first | exact nl (by lia) | exact ng (by lia)) e),⟨o1,o2,o3,o4⟩,q1,q2⟩ hT₈ ZA λc o c1 c2 c3 c4 e=>up c o c1 (kp c o c1 c2 c3 c4 e)
theorem Ft{Q:Fin->Shared->Prop}(hh:A.handled=none)(Z:Zp s.heap z TI TO i1 i2 l1 l2 .none k xs ys)(wU:xs[k]?=none\/ys[k]?=none)
  (hE:∀h' e,(∀c o,c≠z->c≠TO->c≠i1->c≠i2->s.heap.get? c=some o->h'.get? c=some o)->(∃o,h'.get? e=some o/\o.cls=.type "StopIteration")->E (.ref e) {s with heap:=h'}):wpAny (model prog w) A (Builtin.«zip.__next__» ⟨[.ref z],[]⟩) Q E s:=by
 obtain⟨hz,hTI,⟨a,b,hTO⟩,s1,s2,⟨o1,o2,o3,o4⟩,q1,q2⟩:=Z;show wpAny _ _ (field (.ref z) 2 >>= _) _ _ _;refine ai (cx hz rfl (x:=.bool false) rfl ?_);show wpAny _ _ (field (.ref z) 3 >>= _) _ _ _;refine ai (cx hz rfl (x:=.ref TI) rfl (ai (eG hTI rfl ?_)));show wpAny _ _ (Builtin.SmallTypes.ownedTupleIsFree (.ref z) >>= _) _ _ _;refine ai ?_;unfold Builtin.SmallTypes.ownedTupleIsFree;refine ai (cx hz rfl (x:=.none) rfl (ak ?_));simp only[d5];refine ai (gW (ai (cx hz rfl (x:=.ref TO) rfl (ai (jP hz (by simp) λfZ hz₁ e₁=>?_)))))
 replace hz₁:IsZip fZ z TI TO .ellipsis:=hz₁;refine ai ?_;simp only[List.zipIdx_cons,List.zipIdx_nil,lX,oH];refine ai (ai (tY ?_));show wpAny _ _ (Builtin.SmallTypes.nextOf (.ref i1) >>= _) _ _ _;have lr:SI fZ i1 l1 k xs:=s1.at (λo e=>e₁.extBut _ _ (by first | exact nl (by lia) | exact ng (by lia)) e) (λo e=>e₁.extBut _ _ (by first | exact nl (by lia) | exact ng (by lia)) e)
 cases hx:xs[k]? with
 | none =>
  refine ai (SI.stop hh lr hx λpZ e hs₂ he=>?_)
  obtain⟨oe,Of,SW⟩:=he;have Lm:IsZip pZ z TI TO .ellipsis:=hs₂ _ _ (by first | exact nl (by lia) | exact ng (by lia)) hz₁
  have Xn:e≠z:=λx=>by subst x;rw[Lm]at Of;cases Of;simp at SW
  exact jP Lm (by simp) λkj _ hs₃=>hE kj e (λc o c1 _ c3 _ x=>hs₃.extBut _ _ c1 (hs₂ _ _ c3 (e₁.extBut _ _ c1 x))) ⟨oe,hs₃.extBut _ _ Xn Of,SW⟩
 | some x =>
  have hy:ys[k]?=none:=by
   rcases wU with h | h
   ·rw[hx]at h;cases h
   ·exact h
  refine ai (SI.next lr hx λpZ wQ e₂=>ak ?_)
  have p6:IsPair pZ TO a b:=e₂.extBut _ _ (by first | exact nl (by lia) | exact ng (by lia)) (e₁.extBut _ _ (by first | exact nl (by lia) | exact ng (by lia)) hTO)
  refine ai (eG p6 rfl (ai (ye p6 λkj hTO₃ iF=>?_)))
  refine ai (oP (ak (ai (ai (tY ?_)))));show wpAny _ _ (Builtin.SmallTypes.nextOf (.ref i2) >>= _) _ _ _;have wR:SI kj i2 l2 k ys:=s2.at (λo e=>iF.extBut _ _ (by first | exact nl (by lia) | exact ng (by lia)) (e₂.extBut _ _ (by first | exact nl (by lia) | exact ng (by lia)) (e₁.extBut _ _ (by first | exact nl (by lia) | exact ng (by lia)) e))) (λo e=>iF.extBut _ _ (by first | exact nl (by lia) | exact ng (by lia)) (e₂.extBut _ _ (by first | exact nl (by lia) | exact ng (by lia)) (e₁.extBut _ _ (by first | exact nl (by lia) | exact ng (by lia)) e)))
  refine ai (SI.stop hh wR hy λOd e Ln he=>?_)
  obtain⟨oe,Of,SW⟩:=he;have Lo:IsZip Od z TI TO .ellipsis:=Ln _ _ (by first | exact nl (by lia) | exact ng (by lia)) (iF.extBut _ _ (by first | exact nl (by lia) | exact ng (by lia)) (e₂.extBut _ _ (by first | exact nl (by lia) | exact ng (by lia)) hz₁))
  have Xn:e≠z:=λx=>by subst x;rw[Lo]at Of;cases Of;simp at SW
  exact jP Lo (by simp) λjc _ hs₅=>hE jc e (λc o c1 c2 c3 c4 x=>hs₅.extBut _ _ c1 (Ln _ _ c4 (iF.extBut _ _ c2 (e₂.extBut _ _ c3 (e₁.extBut _ _ c1 x))))) ⟨oe,hs₅.extBut _ _ Xn Of,SW⟩
theorem wV(l1 l2:Addr)(xs ys:Array Value)(c1 c2:String) :
  Meets (Builtin.«zip.__new__» ⟨[.type "zip",.ref l1,.ref l2],[]⟩) (λ_ R s=>gK s.heap l1 xs c1/\gK s.heap l2 ys c2 /\
   ∀h1 h2 h3 h4:Heap,h1=s.heap.push {cls:=.type c1,data:=.fields #[.ref l1,.int 0 0]}->h2=h1.push {cls:=.type c2,data:=.fields #[.ref l2,.int 0 0]}->h3=h2.push {cls:=.type "tuple",data:=.seq #[.ref s.heap.objs.size,.ref h1.objs.size]}->h4=h3.push {cls:=.type "tuple",data:=.seq #[.none,.none]} ->
    R (.ok (.ret (.ref h4.objs.size))) {s with heap:=h4.push {cls:=.type "zip",data:=.fields #[.none,.bool false,.bool false,.ref h2.objs.size,.ref h3.objs.size]}}) :=
 .of_wp λprog w A R s h=>by
  obtain⟨hp,g,d,tk,os⟩:=s;obtain⟨hl1,Va,h⟩:=h;have Jn:=sub_zip;have hL1:gK (Shared.heap ⟨hp,g,d,tk,os⟩) l1 xs c1:=hl1;have hL2:gK (Shared.heap ⟨hp.push {cls:=.type c1,data:=.fields #[.ref l1,.int 0 0]},g,d,tk,os⟩) l2 ys c2:=by
   rcases Va with⟨e,q⟩ | ⟨e,q⟩
   ·exact .inl ⟨e,Heap.IsList.push q _⟩
   ·exact .inr ⟨e,Heap.IsTuple.push q _⟩
  wp_walk using jv hL1,jv hL2
  exact⟨_,rfl,h _ _ _ _ rfl rfl rfl rfl⟩
end
def Xo(h:Heap)(z TI TO t:Nat)(f:Bool):Prop:=h.get? z=some {cls:=.type "zip",data:=.fields #[rawInt t,.bool f,.bool false,.ref TI,.ref TO]}
structure Zq (h:Heap) (z TI TO i1 i2 l1 l2 t:Nat) (f:Bool) (k:Nat) (xs ys:Array Value):Prop where
 hz:Xo h z TI TO t f
 hTI:IsPair h TI (.ref i1) (.ref i2)
 s1:SI h i1 l1 k xs
 s2:SI h i2 l2 k ys
 al:∃o,h.get? t=some o
 ord:i1<i2/\i2<TI/\TI<TO/\TO<z/\z<t
 o1:l1<i1
 o2:l2<i1
section
variable {prog:Program} {w:World} {A:Around} {E:Value->Shared->Prop} {s:Shared} {z TI TO i1 i2 l1 l2 t:Nat} {f:Bool} {k:Nat} {xs ys:Array Value}
theorem Zq.at{h h':Heap}(Z:Zq h z TI TO i1 i2 l1 l2 t f k xs ys)(kp:∀b o,b<=z->h.get? b=some o->h'.get? b=some o)(ka:∀o,h.get? t=some o->∃o',h'.get? t=some o'):Zq h' z TI TO i1 i2 l1 l2 t f k xs ys:=by
 obtain⟨hz,hTI,s1,s2,⟨oa,ha⟩,⟨o1,o2,o3,o4,o5⟩,q1,q2⟩:=Z;exact⟨kp _ _ (az _) hz,kp _ _ (by lia) hTI,s1.at (λo e=>kp _ o (by lia) e) (λo e=>kp _ o (by lia) e),s2.at (λo e=>kp _ o (by lia) e) (λo e=>kp _ o (by lia) e),ka _ ha,⟨o1,o2,o3,o4,o5⟩,q1,q2⟩
theorem Be{oa:Obj}{Q:Bool->Shared->Prop}(hz:Xo s.heap z TI TO t f)(ha:s.heap.get? t=some oa)(hQ:∀fZ,Xo fZ z TI TO t true->Heap.SameBut z s.heap fZ->Q false {s with heap:=fZ}):wpAny (model prog w) A (Builtin.SmallTypes.ownedTupleIsFree (.ref z)) Q E s:=by
 unfold Builtin.SmallTypes.ownedTupleIsFree;refine ai (cx hz rfl (x:=rawInt t) rfl ?_);show wpAny _ _ (loadIfAlive ((t:Int).toNat) >>= _) _ _ _;rw[jR];refine ai (W.kdx_alive ha ?_);simp only[Option.isNone_some,dO,cD];refine ai (cx hz rfl (x:=.bool f) rfl ?_);cases f with
 | true =>
  rw[if_neg (show ¬((Value.bool true != Value.bool true)=true)from bB)]
  exact ak (hQ _ hz (Heap.SameBut.refl _ _))
 | false =>
  rw[if_pos (show(Value.bool false != Value.bool true)=true from rfl)]
  exact ai (jP hz (by simp) λfZ hz₁ e₁=>ak (hQ fZ hz₁ e₁))
theorem JH{x y:Value}{Q:Value->Shared->Prop}(Z:Zq s.heap z TI TO i1 i2 l1 l2 t f k xs ys)(hx:xs[k]?=some x)(hy:ys[k]?=some y)
  (hQ:∀h',Zq h' z TI TO i1 i2 l1 l2 t true (k+1) xs ys->IsPair h' s.heap.objs.size x y->h'.objs.size=s.heap.objs.size+1->(∀c o,c≠z->c≠i1->c≠i2->s.heap.get? c=some o->h'.get? c=some o)->Q (.ref s.heap.objs.size) {s with heap:=h'}) :
  wpAny (model prog w) A (Builtin.«zip.__next__» ⟨[.ref z],[]⟩) (λjr s'=>∃v,jr=.done (.ret v)/\Q v s') E s:=by
 obtain⟨hz,hTI,s1,s2,⟨oa,ha⟩,⟨o1,o2,o3,o4,o5⟩,q1,q2⟩:=Z;show wpAny _ _ (field (.ref z) 2 >>= _) _ _ _;refine ai (cx hz rfl (x:=.bool false) rfl ?_);show wpAny _ _ (field (.ref z) 3 >>= _) _ _ _;refine ai (cx hz rfl (x:=.ref TI) rfl (ai (eG hTI rfl ?_)));show wpAny _ _ (Builtin.SmallTypes.ownedTupleIsFree (.ref z) >>= _) _ _ _;refine ai (Be hz ha λfZ hz₁ e₁=>?_)
 simp only[dO,cD];refine ai ?_;simp only[List.forIn_toArray,lX,oH];refine ai (ai (dB ?_));show wpAny _ _ (Builtin.SmallTypes.nextOf (.ref i1) >>= _) _ _ _;have lr:SI fZ i1 l1 k xs:=s1.at (λo e=>e₁.extBut _ _ (by first | exact nl (by lia) | exact ng (by lia)) e) (λo e=>e₁.extBut _ _ (by first | exact nl (by lia) | exact ng (by lia)) e)
 refine ai (SI.next lr hx λpZ wQ e₂=>ak ?_)
 refine ak (ai (ai (dB ?_)));show wpAny _ _ (Builtin.SmallTypes.nextOf (.ref i2) >>= _) _ _ _;have Fu:SI pZ i2 l2 k ys:=s2.at (λo e=>e₂.extBut _ _ (by first | exact nl (by lia) | exact ng (by lia)) (e₁.extBut _ _ (by first | exact nl (by lia) | exact ng (by lia)) e)) (λo e=>e₂.extBut _ _ (by first | exact nl (by lia) | exact ng (by lia)) (e₁.extBut _ _ (by first | exact nl (by lia) | exact ng (by lia)) e))
 refine ai (SI.next Fu hy λkj wR iF=>ak ?_)
 refine ak (ak ?_);have hsz:kj.objs.size=s.heap.objs.size:=by rw[iF.1,e₂.1,e₁.1]
 have kp:∀c o,c≠z->c≠i1->c≠i2->s.heap.get? c=some o->kj.get? c=some o:=λc o c1 c2 c3 e=>iF.extBut _ _ c3 (e₂.extBut _ _ c2 (e₁.extBut _ _ c1 e))
 have up:∀c o,c≠i1->c≠i2->fZ.get? c=some o->kj.get? c=some o:=λc o c2 c3 e=>iF.extBut _ _ c3 (e₂.extBut _ _ c2 e)
 refine ai (wpAny_newTuple (hsz:=by show 2<=sizeLine;decide) ?_)
 show wpAny _ _ (ret (Value.ref kj.objs.size)) _ _ {s with heap:=kj.push {cls:=.type "tuple",data:=.seq #[x,y]}}
 rw[hsz];refine ak ⟨_,rfl,?_⟩;have Z3:Zq kj z TI TO i1 i2 l1 l2 t true (k+1) xs ys:=⟨up _ _ (by first | exact nl (by lia) | exact ng (by lia)) (by first | exact nl (by lia) | exact ng (by lia)) hz₁,kp _ _ (by first | exact nl (by lia) | exact ng (by lia)) (by first | exact nl (by lia) | exact ng (by lia)) (by first | exact nl (by lia) | exact ng (by lia)) hTI,wQ.at (λo e=>iF.extBut _ _ (by first | exact nl (by lia) | exact ng (by lia)) e) (λo e=>iF.extBut _ _ (by first | exact nl (by lia) | exact ng (by lia)) e),wR,⟨oa,kp _ _ (by first | exact nl (by lia) | exact ng (by lia)) (by first | exact nl (by lia) | exact ng (by lia)) (by first | exact nl (by lia) | exact ng (by lia)) ha⟩,⟨o1,o2,o3,o4,o5⟩,q1,q2⟩
 refine hQ _ (Z3.at (λb o _ e=>aE _ e) λo e=>⟨o,aE _ e⟩) ?_ (by rw[dz,hsz]) λc o c1 c2 c3 e=>aE _ (kp c o c1 c2 c3 e)
 rw[<-hsz];exact bu _ rfl
theorem Og{Q:Fin->Shared->Prop}(hh:A.handled=none)(Z:Zq s.heap z TI TO i1 i2 l1 l2 t f k xs ys)(wU:xs[k]?=none\/ys[k]?=none)
  (hE:∀h' e,(∀c o,c≠z->c≠i1->c≠i2->s.heap.get? c=some o->h'.get? c=some o)->(∃o,h'.get? e=some o/\o.cls=.type "StopIteration")->E (.ref e) {s with heap:=h'}):wpAny (model prog w) A (Builtin.«zip.__next__» ⟨[.ref z],[]⟩) Q E s:=by
 obtain⟨hz,hTI,s1,s2,⟨oa,ha⟩,⟨o1,o2,o3,o4,o5⟩,q1,q2⟩:=Z;show wpAny _ _ (field (.ref z) 2 >>= _) _ _ _;refine ai (cx hz rfl (x:=.bool false) rfl ?_);show wpAny _ _ (field (.ref z) 3 >>= _) _ _ _;refine ai (cx hz rfl (x:=.ref TI) rfl (ai (eG hTI rfl ?_)));show wpAny _ _ (Builtin.SmallTypes.ownedTupleIsFree (.ref z) >>= _) _ _ _;refine ai (Be hz ha λfZ hz₁ e₁=>?_)
 simp only[dO,cD];refine ai ?_;simp only[List.forIn_toArray,lX,oH];refine ai (ai (dB ?_));show wpAny _ _ (Builtin.SmallTypes.nextOf (.ref i1) >>= _) _ _ _;have lr:SI fZ i1 l1 k xs:=s1.at (λo e=>e₁.extBut _ _ (by first | exact nl (by lia) | exact ng (by lia)) e) (λo e=>e₁.extBut _ _ (by first | exact nl (by lia) | exact ng (by lia)) e)
 cases hx:xs[k]? with
 | none =>
  refine ai (SI.stop hh lr hx λpZ e hs₂ he=>?_)
  exact hE pZ e (λc o c1 c3 _ x=>hs₂ _ _ c3 (e₁.extBut _ _ c1 x)) he
 | some x =>
  have hy:ys[k]?=none:=by
   rcases wU with h | h
   ·rw[hx]at h;cases h
   ·exact h
  refine ai (SI.next lr hx λpZ wQ e₂=>ak ?_)
  refine ak (ai (ai (dB ?_)));show wpAny _ _ (Builtin.SmallTypes.nextOf (.ref i2) >>= _) _ _ _;have Fu:SI pZ i2 l2 k ys:=s2.at (λo e=>e₂.extBut _ _ (by first | exact nl (by lia) | exact ng (by lia)) (e₁.extBut _ _ (by first | exact nl (by lia) | exact ng (by lia)) e)) (λo e=>e₂.extBut _ _ (by first | exact nl (by lia) | exact ng (by lia)) (e₁.extBut _ _ (by first | exact nl (by lia) | exact ng (by lia)) e))
  refine ai (SI.stop hh Fu hy λkj e hs₃ he=>?_)
  exact hE kj e (λc o c1 c2 c3 x=>hs₃ _ _ c3 (e₂.extBut _ _ c2 (e₁.extBut _ _ c1 x))) he
end
def ZS(h:Heap)(z TI TO i1 i2 l1 l2 B i:Nat)(xs ys:Array Value):Prop:=(i=0/\Zp h z TI TO i1 i2 l1 l2 .none 0 xs ys)\/(0<i/\∃f,Zq h z TI TO i1 i2 l1 l2 B f i xs ys)
noncomputable def kl(B i:Nat):Array Value:=((List.range i).map λj=>Value.ref (B+j)).toArray
theorem CJ(B i:Nat):(kl B i).push (.ref (B+i))=kl B (i+1):=by
 unfold kl;rw[yB,dZ];simp
theorem sj(B i:Nat):(kl B i).size=i:=by unfold kl;simp
section
variable {prog:Program} {w:World} {A:Around} {E:Value->Shared->Prop} {s:Shared} {z TI TO i1 i2 l1 l2 B:Nat} {i:Nat} {xs ys:Array Value}
theorem ZS.zip{h:Heap}(Z:ZS h z TI TO i1 i2 l1 l2 B i xs ys):∃o,h.get? z=some o/\o.cls=.type "zip":=by
 rcases Z with⟨_,Z⟩ | ⟨_,f,Z⟩
 ·exact⟨_,Z.hz,rfl⟩
 ·exact⟨_,Z.hz,rfl⟩
theorem ZS.at{h h':Heap}(Z:ZS h z TI TO i1 i2 l1 l2 B i xs ys)(kp:∀b o,b<=z->h.get? b=some o->h'.get? b=some o)(ka:∀o,h.get? B=some o->∃o',h'.get? B=some o'):ZS h' z TI TO i1 i2 l1 l2 B i xs ys:=by
 rcases Z with⟨e,⟨hz,hTI,⟨a,b,hTO⟩,s1,s2,⟨o1,o2,o3,o4⟩,q1,q2⟩⟩ | ⟨e,f,Z⟩
 ·exact .inl ⟨e,⟨kp _ _ (az _) hz,kp _ _ (by lia) hTI,⟨a,b,kp _ _ (by lia) hTO⟩,s1.at (λo e=>kp _ o (by lia) e) (λo e=>kp _ o (by lia) e),s2.at (λo e=>kp _ o (by lia) e) (λo e=>kp _ o (by lia) e),⟨o1,o2,o3,o4⟩,q1,q2⟩⟩
 ·exact .inr ⟨e,f,Z.at kp ka⟩
theorem JI{x y:Value}{Q:Option Value->Shared->Prop}(Z:ZS s.heap z TI TO i1 i2 l1 l2 B i xs ys)(hsz:s.heap.objs.size=B+i)(hx:xs[i]?=some x)(hy:ys[i]?=some y)
  (hQ:∀h',ZS h' z TI TO i1 i2 l1 l2 B (i+1) xs ys->IsPair h' (B+i) x y->h'.objs.size=B+(i+1)->(∀c o,c≠z->c≠TO->c≠i1->c≠i2->s.heap.get? c=some o->h'.get? c=some o)->Q (some (.ref (B+i))) {s with heap:=h'}) :
  wpAny (model prog w) A (pyNext (.ref z)) Q E s:=by
 obtain⟨oz,Vn,Xp⟩:=Z.zip;have hT:s.TypeIs (.ref z) "zip":=⟨_,Vn,Xp⟩;have Xq:z<s.heap.objs.size:=aG Vn;unfold pyNext;rcases Z with⟨rfl,Z⟩ | ⟨hi,f,Z⟩
 ·refine ai (jY (fq (name:=Str.ofString "__next__") hT fw (eE fw hT lW
   (Bb Z hx hy λh' Z' Lp Sb kp=>ak ?_) (lS _))))
  obtain⟨hz,hTI,_,s1,s2,⟨o1,o2,o3,o4⟩,q1,q2⟩:=Z';rw[hsz]at Lp hz Xq ⊢;refine(hQ h' (.inr ⟨Nat.succ_pos _,false,⟨hz,hTI,s1,s2,⟨_,Lp⟩,⟨o1,o2,o3,o4,by lia⟩,q1,q2⟩⟩) Lp (by lia) kp)
 ·refine ai (jY (fq (name:=Str.ofString "__next__") hT fw (eE fw hT lW
   (JH Z hx hy λh' Z' Lp Sb kp=>ak ?_) (lS _))))
  rw[hsz]at Lp ⊢;exact(hQ h' (.inr ⟨Nat.succ_pos _,true,Z'⟩) Lp (by lia) λc o c1 _ c3 c4 e=>kp c o c1 c3 c4 e)
theorem JJ{Q:Option Value->Shared->Prop}(hh:A.handled=none)(Z:ZS s.heap z TI TO i1 i2 l1 l2 B i xs ys)(wU:xs[i]?=none\/ys[i]?=none)
  (hQ:∀h',(∀c o,c≠z->c≠TO->c≠i1->c≠i2->s.heap.get? c=some o->h'.get? c=some o)->Q none {s with heap:=h'}) :
  wpAny (model prog w) A (pyNext (.ref z)) Q E s:=by
 obtain⟨oz,Vn,Xp⟩:=Z.zip;have hT:s.TypeIs (.ref z) "zip":=⟨_,Vn,Xp⟩;unfold pyNext;rcases Z with⟨rfl,Z⟩ | ⟨hi,f,Z⟩
 ·refine ai (jY (fq (name:=Str.ofString "__next__") hT fw (eE fw hT lW (Ft hh Z wU λh' e kp ⟨o,ho,hcl⟩=>?_) (lS _))))
  exact ai (jT (T:="StopIteration") (b:=true) ⟨o,ho,hcl⟩ tU (ak (hQ h' kp)))
 ·refine ai (jY (fq (name:=Str.ofString "__next__") hT fw (eE fw hT lW (Og hh Z wU λh' e kp ⟨o,ho,hcl⟩=>?_) (lS _))))
  exact ai (jT (T:="StopIteration") (b:=true) ⟨o,ho,hcl⟩ tU (ak (hQ h' λc o c1 _ c3 c4 e=>kp c o c1 c3 c4 e)))
end
section
variable {prog:Program} {w:World} {A:Around} {R:Result->Shared->Prop} {z TI TO i1 i2 l1 l2 S B n:Nat} {xs ys:Array Value}
def lu(h:Heap)(B i:Nat)(xs ys:Array Value):Prop:=∀j,j<i->∃x y,xs[j]?=some x/\ys[j]?=some y/\IsPair h (B+j) x y
theorem JK(hh:A.handled=none)(hn:n=min xs.size ys.size)(ZC:z<S)(ZD:S<B)(ord:i1<z/\i2<z/\TO<z)(res:Value)(Qe:n<=sizeLine) :
  ∀(k i:Nat) (s:Shared) (c:Nat),n-i=k->i<=n->ZS s.heap z TI TO i1 i2 l1 l2 B i xs ys->s.heap.objs.size=B+i->lu s.heap B i xs ys->s.heap.get? S=some {cls:=.type "list",dict:=none,data:=.seq (kl B i) c,slots:=#[]} ->
  (∀h' c',(∀b o,b≠z->b≠TO->b≠i1->b≠i2->b≠S->s.heap.get? b=some o->h'.get? b=some o)->h'.get? S=some {cls:=.type "list",dict:=none,data:=.seq (kl B n) c',slots:=#[]}->lu h' B n xs ys->R (.ok (.ret res)) {s with heap:=h'}) ->
  codeAny (model prog w) A (.builtin "list.extend.loop" ⟨[.ref S,.ref z,res],[]⟩) R s:=by
 intro k;induction k with
 | zero =>
  intro i s c hk hi qO hsz hp hS hR;have Xc:i=n:=by lia
  subst Xc;refine tM F.entry_extend_loop ?_;rw[tq tw _];show wpAny _ A.in1 (pyNext (.ref z) >>= _) _ _ s;refine ai (JJ (by simp[hh]) qO ?_ λh' kp=>?_)
  ·rcases Nat.le_total xs.size ys.size with q | q
   ·exact .inl (jN (by lia))
   ·exact .inr (jN (by lia))
  ·refine ak (hR h' c (λb o c1 c2 c3 c4 _ e=>kp b o c1 c2 c3 c4 e) (kp S _ (by lia) (by lia) (by lia) (by lia) hS) λj hj=>?_)
   obtain⟨x,y,e1,e2,e3⟩:=hp j hj;exact⟨x,y,e1,e2,kp _ _ (by lia) (by lia) (by lia) (by lia) e3⟩
 | succ k ih =>
  intro i s c hk hi qO hsz hp hS hR;have uM:i<n:=by lia
  have hx:xs[i]?=some (xs[i]'(by lia)):=ot _
  have hy:ys[i]?=some (ys[i]'(by lia)):=ot _
  refine tM F.entry_extend_loop ?_;rw[tq tw _];show wpAny _ A.in1 (pyNext (.ref z) >>= _) _ _ s;refine ai (JI qO hsz hx hy λh' N6 hpr Xr kp=>?_)
  have Lk:=kp S _ (by lia) (by lia) (by lia) (by lia) hS
  show wpAny _ A.in1 (updateSeq S (·.push (.ref (B+i))) >>= _) _ _ _;refine ai ?_;have Xs:=lP (Obj.mapSeq (·.push (Value.ref (B+i)))) Lk rfl;obtain⟨c1,Xs⟩:∃c1,(h'.update S (Obj.mapSeq (·.push (Value.ref (B+i))))).get? S=some {cls:=.type "list",dict:=none,data:=.seq (kl B (i+1)) c1,slots:=#[]}:=⟨_,by rw[<-CJ];exact Xs⟩
  have oth:∀b o,b≠S->h'.get? b=some o->(h'.update S (Obj.mapSeq (·.push (Value.ref (B+i))))).get? b=some o:=λb o hb e=>(iL _ _ (bR hb)).trans e
  refine oG (s:={s with heap:=h'}) Lk rfl (ak ⟨tZ tw _,ih (i+1) _ c1 (by lia) uM (N6.at (λb o hb e=>oth b o (by lia) e) λo e=>⟨o,oth _ o (by lia) e⟩) ?_ (λj hj=>?_) ?_ λh2 c2 Sj hS2 Oh=>?_⟩)
   (by rw[sj];lia) (by show((kl B i).push _).size<=sizeLine+1;rw[Array.size_push,sj];lia)
  ·show(h'.update S _).objs.size=_;rw[tJ];exact Xr
  ·by_cases hji:j=i
   ·subst hji;exact⟨_,_,hx,hy,oth _ _ (by lia) hpr⟩
   ·obtain⟨x,y,e1,e2,e3⟩:=hp j (by lia)
    exact⟨x,y,e1,e2,oth _ _ (by lia) (kp _ _ (by lia) (by lia) (by lia) (by lia) e3)⟩
  ·exact Xs
  ·exact hR h2 c2 (λb o c1 c2 c3 c4 c5 e=>Sj b o c1 c2 c3 c4 c5 (oth b o c5 (kp b o c1 c2 c3 c4 e))) hS2 Oh
end
theorem zt:typeLookup (.type "zip") "__len__"=pure none:=by rw[yz,yb];kernel_rfl
theorem wW:typeLookup (.type "zip") "__length_hint__"=pure none:=by rw[yz,yb];kernel_rfl
section
variable {prog:Program} {w:World} {A:Around} {E:Value->Shared->Prop} {s:Shared} {R:Result->Shared->Prop} {z TI TO i1 i2 l1 l2 S B n:Nat} {xs ys:Array Value}
theorem CK{c:Nat}(hh:A.handled=none)(hn:n=min xs.size ys.size)(ZC:z<S)(hB:s.heap.objs.size=B)(ZD:S<B)(ord:i1<z/\i2<z/\TO<z)(res:Value)(Qe:n<=sizeLine)
  (Z:Zp s.heap z TI TO i1 i2 l1 l2 .none 0 xs ys) (hS:s.heap.get? S=some {cls:=.type "list",data:=.seq #[] c})
  (hR:∀h' c',(∀b o,b≠z->b≠TO->b≠i1->b≠i2->b≠S->s.heap.get? b=some o->h'.get? b=some o)->h'.get? S=some {cls:=.type "list",dict:=none,data:=.seq (kl B n) c',slots:=#[]}->lu h' B n xs ys->R (.ok (.ret res)) {s with heap:=h'}) :
  wpAny (model prog w) A.in1 (Builtin.List.listExtendWith (.ref S) (.ref z) res)
   (λjr s'=>match jr with | .done f=>R (.ok f) s' | .again c'=>c'.quiet=true/\codeAny (model prog w) A c' R s') (λe s'=>R (.error e) s') s:=by
 have hT:s.TypeIs (.ref z) "zip":=⟨_,Z.hz,rfl⟩;unfold Builtin.List.listExtendWith;refine ai (l7 hT ?_);have h1:Builtin.List.listSameRef (.ref S) (.ref z)=false:=by
  have:(S==z)=false:=by simp;lia
  exact this
 have h2:(Value.type "zip"==Value.type "list")=false:=by decide
 have h3:(Value.type "zip"==Value.type "tuple")=false:=by decide
 simp only[h1,h2,h3,Bool.or_false,dO,cD];refine ai (yv Z.hz ?_);refine ai (dB ?_);unfold Builtin.List.listLengthHint;refine ai (lZ hT zt ?_);show wpAny _ A.in1 (specialOf (Value.ref z) (Str.ofString "__length_hint__") >>= _) _ _ _;refine ai (lZ hT wW ?_);refine ak ?_;show wpAny _ A.in1 (rule "list.extend.makes-room" >>= λ_=>Builtin.List.listTouch (.ref S) >>= λ_ =>
  again (.builtin "list.extend.loop" ⟨[.ref S,.ref z,res],[]⟩)) _ _ _
 refine ai (gW ?_);refine ai ?_;show wpAny _ A.in1 (updateSeq S (·.push .none) >>= λ_=>updateSeq S (·.pop)) _ _ _
 refine ai (oG hS rfl ?_);have Bf:=lP (Obj.mapSeq (·.push Value.none)) hS rfl;refine oG (hz:=by seq_fits) Bf rfl ?_
 have SX:=lP (Obj.mapSeq (·.pop)) Bf rfl;have oth:∀b o,b≠S->s.heap.get? b=some o->((s.heap.update S (Obj.mapSeq (·.push Value.none))).update S (Obj.mapSeq (·.pop))).get? b=some o :=
  λb o hb e=>(iL _ _ (bR hb)).trans ((iL _ _ (bR hb)).trans e)
 have Z0:ZS s.heap z TI TO i1 i2 l1 l2 B 0 xs ys:=.inl ⟨rfl,Z⟩;refine ak ⟨tZ tw _,JK hh hn ZC ZD ord res Qe n 0 _ _ rfl (gV _) (Z0.at (λb o hb e=>oth b o (by lia) e) λo e=>?_) ?_ (λj hj=>absurd hj (Nat.not_lt_zero _)) SX λh' c' kp Lk hp=>?_⟩
 ·have q:=aG e;rw[hB]at q;exact absurd q (eI _)
 ·show((s.heap.update S _).update S _).objs.size=_;rw[tJ,tJ];exact hB
 ·exact hR h' c' (λb o c1 c2 c3 c4 c5 e=>kp b o c1 c2 c3 c4 c5 (oth b o c5 e)) Lk hp
theorem qY{Q:Value->Shared->Prop}(hh:A.handled=none)(hn:n=min xs.size ys.size)(Qe:n<=sizeLine)(ord:i1<z/\i2<z/\TO<z)(Z:Zp s.heap z TI TO i1 i2 l1 l2 .none 0 xs ys)
  (hQ:∀h' c',(∀b o,b≠z->b≠TO->b≠i1->b≠i2->s.heap.get? b=some o->h'.get? b=some o)->h'.get? s.heap.objs.size=some {cls:=.type "list",dict:=none,data:=.seq (kl (s.heap.objs.size+1) n) c',slots:=#[]}->lu h' (s.heap.objs.size+1) n xs ys->Q (.ref s.heap.objs.size) {s with heap:=h'}) :
  wpAny (model prog w) A (call (.type "list") [.ref z]) Q E s:=by
 refine callType_codes (Q₁:=λobj s₁=>obj=.ref s.heap.objs.size/\s₁={s with heap:=s.heap.push {cls:=.type "list",data:=.seq #[]}}) F.called_list (F.typeCall_list_1 _) F.entry_list_init
  (code_list_new _ ⟨rfl,rfl⟩) λobj s₁ fZ=>?_
 obtain⟨rfl,rfl⟩:=fZ;have Xq:z<s.heap.objs.size:=aG Z.hz;have hS:(s.heap.push {cls:=.type "list",data:=.seq #[]}).get? s.heap.objs.size=some {cls:=.type "list",data:=.seq #[]}:=bu _ rfl
 refine⟨⟨_,hS,rfl⟩,F.args_list_init_2 _ _,?_⟩;show wpAny _ _ (do let old <-Builtin.List.listItems (.ref s.heap.objs.size);Builtin.List.listUpdate (.ref s.heap.objs.size) (λ_=>#[]);letGo old.toList.reverse;Builtin.List.listExtendWith (.ref s.heap.objs.size) (.ref z) .none) _ _ _
 refine ai ?_;unfold Builtin.List.listItems;refine ai (eG hS rfl (ak ?_));show wpAny _ _ (updateSeq s.heap.objs.size (λ_=>#[]) >>= λ_=>letGo (#[]:Array Value).toList.reverse >>= λ_=>Builtin.List.listExtendWith (.ref s.heap.objs.size) (.ref z) .none) _ _ _
 refine ai (oG hS rfl ?_);have Bf:=lP (Obj.mapSeq (λ_=>(#[]:Array Value))) hS rfl
 have oth:∀b o,b≠s.heap.objs.size->s.heap.get? b=some o->((s.heap.push {cls:=.type "list",data:=.seq #[]}).update s.heap.objs.size (Obj.mapSeq (λ_=>(#[]:Array Value)))).get? b=some o :=
  λb o hb e=>(iL _ _ (bR hb)).trans (aE _ e)
 refine ai (oP ?_);have Z1:ZS ((s.heap.push {cls:=.type "list",data:=.seq #[]}).update s.heap.objs.size (Obj.mapSeq (λ_=>(#[]:Array Value)))) z TI TO i1 i2 l1 l2 0 0 xs ys :=
  ZS.at (h:=s.heap) (.inl ⟨rfl,Z⟩) (λb o hb e=>oth b o (by lia) e) λo e=>⟨o,oth _ o (by lia) e⟩
 rcases Z1 with⟨_,Z1⟩ | ⟨h0,_⟩
 ·refine CK (A:=A.in1) (by simp[hh]) hn Xq (B:=s.heap.objs.size+1) ?_ (lV _) ord .none Qe Z1 Bf λh' c' kp Lk hp=>⟨rfl,?_⟩
  ·show((s.heap.push _).update _ _).objs.size=_;rw[tJ,dz]
  ·exact hQ h' c' (λb o c1 c2 c3 c4 e=>kp b o c1 c2 c3 c4 (aZ (aG e)) (oth b o (aZ (aG e)) e)) Lk hp
 ·exact absurd h0 (eI _)
end
theorem su{vs:List V}{us:List Value}(r:Vals vs us):∀{i:Nat} {u:Value},us[i]?=some u->∃v,vs[i]?=some v/\RelV v u:=by
 induction r with
 | nil=>intro i u e;simp at e
 | @cons v w vs ws h t ih =>
  intro i u e;cases i with
  | zero=>simp at e;subst e;exact⟨v,rfl,h⟩
  | succ i=>obtain⟨x,h1,h2⟩:=ih (i:=i) (u:=u) (by simpa using e);exact⟨x,by simpa using h1,h2⟩
theorem CL(B n:Nat):Vals ((List.range n).map λj=>V.ref (B+j)) (kl B n).toList:=by
 unfold kl;induction n with
 | zero=>exact .nil
 | succ n ih =>
  rw[yB,dZ,dZ];exact ih.append (.cons rfl .nil)
theorem wX{X:Cx}{ah:List (Addr×Obj)}{σ:St}{H1 af:Hp}{ag F1:Fz}{st:bP}{s:Shared}{B m:Nat}{xs ys:List Value}{vs ws:List V}{ps qs:List PV}(b0:Nat)(Y7:b0<=B)(fo:∀b,b0<=b->H1 b=none/\o8 X ah H1 b)(hsz:X.s₀.heap.objs.size<=b0)(I:Inv X ah σ H1 s)(R:Rep X.K af ag F1 st σ H1)(r1:Vals vs xs)(r2:Vals ws ys)(b1:ax X.K F1 ps vs)(b2:ax X.K F1 qs ws)
  (hp:lu s.heap B m xs.toArray ys.toArray):∀i,i<=m->∃Hi Fi,Inv X ah σ Hi s/\Rep X.K af ag Fi st σ Hi/\Gr F1 Fi/\ax X.K Fi ((List.zipWith eV ps qs).take i) ((List.range i).map λj=>V.ref (B+j))/\∀b,b0<=b->(b<B\/B+i<=b)->Hi b=none:=by
 intro i;induction i with
 | zero=>intro _;exact⟨H1,F1,I,R,Gr.refl _,by simp only[List.take_zero,List.range_zero,dP];exact .nil,λb hb _=>(fo b hb).1⟩
 | succ i ih =>
  intro hi;obtain⟨Hi,Fi,Ii,Ri,si,bi,ni⟩:=ih (by lia)
  obtain⟨x,y,e1,e2,e3⟩:=hp i hi;obtain⟨v,ev,rv⟩:∃v,vs[i]?=some v/\RelV v x:=by
   exact su r1 (by simpa using e1)
  obtain⟨w,ew,IC⟩:∃w,ws[i]?=some w/\RelV w y:=by
   exact su r2 (by simpa using e2)
  obtain⟨p,ep⟩:∃p,ps[i]?=some p:=⟨_,dy (by have:=(di.mp ev).1;rw[b1.length];exact this)⟩
  obtain⟨v',ev',bp⟩:=b1.get ep;cases bC (ev.symm.trans ev');obtain⟨q,ZE⟩:∃q,qs[i]?=some q:=⟨_,dy (by have:=(di.mp ew).1;rw[b2.length];exact this)⟩
  obtain⟨w',ew',bq⟩:=b2.get ZE;cases bC (ew.symm.trans ew');have hn:Hi (B+i)=none:=ni (B+i) (by lia) (.inr (az _))
  obtain⟨_,f2,f3,f4,f5,f6⟩:=(fo (B+i) (by lia)).2
  have I2:=Inv.adopt (D:=B+i) (o:=.aq [v,w]) Ii hn (aJ hsz (by lia)) f2 f5 f6 ⟨(by show 2<=sizeLine;decide),[x,y],.cons rv (.cons IC .nil),⟨_,e3,rfl,⟨0,rfl⟩,rfl⟩⟩
  obtain⟨R2,s2⟩:=Ri.laid (.aq [v,w]) hn;refine⟨_,_,I2,R2,si.trans s2,?_,λb hb hc=>?_⟩
  ·have hz:(List.zipWith eV ps qs)[i]?=some (eV p q):=by rw[List.getElem?_zipWith,ep,ZE]
   rw[List.take_succ,hz,yB,dZ];exact(bi.mono s2).append (.cons (bF.mpr ⟨B+i,[v,w],rfl,gY.of aA,.cons (bp.mono (si.trans s2)) (.cons (bq.mono (si.trans s2)) .nil)⟩) .nil)
  ·rw[aH (show b≠B+i from λz=>by lia)]
   exact ni b hb (by lia)
def ZF(p q:PV):Option (List PV):=(nC p).bind λps=>(nC q).bind λqs=>if(List.zipWith eV ps qs).length<=gF then some (List.zipWith eV ps qs)else none
def Oi(m:Nat)(fa fb:Gx PV):Gx PV:=bnd fa λp=>bnd fb λq=>bnd (iB (ZF p q)) λl=>ki m l
section
variable {X:Cx} {af:Hp} {ag:Fz} {a b:Expr} {fa fb:Gx PV} {pos p wK zp:Pos} {m:Nat}
def Oj(hh:X.A.handled=none)(SN:Gl X "list")(SO:X.mg "list"=none)(hg:Gl X "zip")(hm:X.mg "zip"=none)(ha:PE X a (tE X af ag fa))(hb:PE X b (tE X af ag fb))(hs:starEach [a,b] X.env=(false,eval a X.env)::starEach [b] X.env)(B6:starEach [b] X.env=[(false,eval b X.env)]) :
  PE X (.Call (.Name "list" p) [.Call (.Name "zip" zp) [a,b] [] wK] [] pos) (tE X af ag (Oi m fa fb)):=by
 rintro ah s σ H Q I ⟨F,st,Rp,h⟩
 refine gR (ld_blt I SN SO (ia .list) ?_ (by decide) (by decide))
 refine gw (A7 rfl ?_) rfl rfl;have hA:=gq ha (gq hb pq B6) hs wK ah s σ H (λvs H'=>∃F' st' x y pa pb,vs=[x,y]/\Rep X.K af ag F' st' σ H'/\aU X.K F' pa x/\aU X.K F' pb y/\Tx X af ag (aU X.K) F' st' (bnd (iB (ZF pa pb)) λl=>ki m l) σ Q) I
  ⟨F,st,Rp,h.bnd λpa v F1 st1 H1 R1 g1 b1 h1=>⟨F1,st1,R1,h1.bnd λpb w F2 dh H2 R2 g2 b2 h2=>⟨F2,dh,v,w,pa,pb,rfl,R2,b1.mono g2,b2,h2⟩⟩⟩
 refine Call_ (ld_blt I hg hm boot_zip (gw (thn hA λus s1 z9=>?_) hs (by rw[B6];rfl)))
 obtain⟨vs,H1,I1,r1,F1,st1,x,y,pa,pb,ev,R1,b1,b2,hT⟩:=z9;subst ev;obtain⟨l,e,hT⟩:=At.iB (At.bnd hT);obtain⟨ps,f3,e⟩:=aK e;obtain⟨qs,f4,e⟩:=aK e;obtain⟨y9,rfl⟩:=aC e;obtain⟨u1,u2,rfl,NR,SQ⟩:=Av r1;obtain⟨c1,l1,Zl,rfl,q1,Qc,k1⟩:=i9 f3 b1;obtain⟨c2,l2,vs2,rfl,q2,Vo,k2⟩:=i9 f4 b2;cases NR;cases SQ;obtain⟨aw,v1,Js⟩:=(k1 H1 R1.sub).get I1;obtain⟨dR,v2,Qf⟩:=(k2 H1 R1.sub).get I1;have lt:∀{l:Addr} {xs:Array Value} {c:String},gK s1.heap l xs c->l<s1.heap.objs.size:=λh=>by
  rcases h with⟨_,⟨o,e,_⟩⟩ | ⟨_,⟨o,e,_⟩⟩
  ·exact aG e
  ·exact aG e
 have Jt:=lt Js;have K8:=lt Qf;refine callType_new PySem.F.called_zip (by decide) (PySem.F.typeCall_zip_2 _ _) (PySem.F.newCall_zip_2 _ _) (λobj=>Dz obj _ _) PySem.F.entry_zip_new (wV l1 l2 aw.toArray dR.toArray (jE c1) (jE c2)) ⟨Js,Qf,λh1 h2 h3 h4 e1 e2 e3 e4=>?_⟩
 have z1:h1.objs.size=s1.heap.objs.size+1:=by rw[e1];exact dz ..
 have z2:h2.objs.size=s1.heap.objs.size+2:=by rw[e2,dz,z1]
 have z3:h3.objs.size=s1.heap.objs.size+3:=by rw[e3,dz,z2]
 have z4:h4.objs.size=s1.heap.objs.size+4:=by rw[e4,dz,z3]
 generalize e5:h4.push {cls:=.type "zip",data:=.fields #[.none,.bool false,.bool false,.ref h2.objs.size,.ref h3.objs.size]}=h5
 have z5:h5.objs.size=s1.heap.objs.size+5:=by rw[<-e5,dz,z4]
 have p1:∀b o,s1.heap.get? b=some o->h1.get? b=some o:=λb o e=>by rw[e1];exact aE _ e
 have p2:∀b o,h1.get? b=some o->h2.get? b=some o:=λb o e=>by rw[e2];exact aE _ e
 have p3:∀b o,h2.get? b=some o->h3.get? b=some o:=λb o e=>by rw[e3];exact aE _ e
 have p4:∀b o,h3.get? b=some o->h4.get? b=some o:=λb o e=>by rw[e4];exact aE _ e
 have p5:∀b o,h4.get? b=some o->h5.get? b=some o:=λb o e=>by rw[<-e5];exact aE _ e
 have pp:∀b o,s1.heap.get? b=some o->h5.get? b=some o:=λb o e=>p5 _ _ (p4 _ _ (p3 _ _ (p2 _ _ (p1 _ _ e))))
 have g5:IsZip h5 h4.objs.size h2.objs.size h3.objs.size .none:=by rw[<-e5];exact bu _ rfl
 have g4:IsPair h5 h3.objs.size .none .none:=p5 _ _ (by rw[e4];exact bu _ rfl)
 have g3:IsPair h5 h2.objs.size (.ref s1.heap.objs.size) (.ref h1.objs.size):=p5 _ _ (p4 _ _ (by rw[e3];exact bu _ rfl))
 have g2:h5.get? h1.objs.size=some {cls:=.type (jE c2),data:=.fields #[.ref l2,.int 0 0]}:=p5 _ _ (p4 _ _ (p3 _ _ (by rw[e2];exact bu _ rfl)))
 have g1:h5.get? s1.heap.objs.size=some {cls:=.type (jE c1),data:=.fields #[.ref l1,.int 0 0]}:=p5 _ _ (p4 _ _ (p3 _ _ (p2 _ _ (by rw[e1];exact bu _ rfl))))
 have ZG:∀{c:Bool} {it l:Addr} {xs:Array Value},h5.get? it=some {cls:=.type (jE c),data:=.fields #[.ref l,.int 0 0]}->gK s1.heap l xs (jE c)->SI h5 it l 0 xs:=λ{c it l xs} e k=>by
  cases c with
  | true =>
   rcases k with⟨_,⟨o,eo,r⟩⟩ | ⟨k,_⟩
   ·exact .inl ⟨⟨_,e,rfl,rfl⟩,⟨o,pp _ _ eo,r⟩⟩
   ·exact absurd k (by decide)
  | false =>
   rcases k with⟨k,_⟩ | ⟨_,⟨o,eo,r⟩⟩
   ·exact absurd k (by decide)
   ·exact .inr ⟨⟨_,e,rfl,rfl⟩,⟨o,pp _ _ eo,r⟩⟩
 have Z:Zp h5 h4.objs.size h2.objs.size h3.objs.size s1.heap.objs.size h1.objs.size l1 l2 .none 0 aw.toArray dR.toArray:=⟨g5,g3,⟨_,_,g4⟩,ZG g1 Js,ZG g2 Qf,⟨by lia,by lia,by lia,by lia⟩,Jt,K8⟩
 refine⟨⟨_,g5,rfl⟩,?_⟩;have abR:=Qc.length;have abS:=Vo.length;have vl1:=v1.length;have vl2:=v2.length;have Xu:min aw.toArray.size dR.toArray.size=(List.zipWith eV ps qs).length:=by rw[List.length_zipWith,bW,bW];lia
 refine qY (s:={s1 with heap:=h5,toks:=s1.toks}) hh Xu.symm (dD y9) ⟨by lia,by lia,by lia⟩ Z λh' c' kp hS hp=>?_
 have hS:h'.get? h5.objs.size=some {cls:=.type "list",dict:=none,data:=.seq (kl (h5.objs.size+1) (List.zipWith eV ps qs).length) c',slots:=#[]}:=hS
 have I2:Inv X ah σ H1 {s1 with heap:=h',toks:=s1.toks}:=I1.kept λb o e=>by
  have hb:@LT.lt Nat _ b s1.heap.objs.size:=aG e;exact kp b o (show @Ne Nat _ _ by lia) (show @Ne Nat _ _ by lia) (show @Ne Nat _ _ by lia) (show @Ne Nat _ _ by lia) (pp _ _ e)
 have fo:∀b,s1.heap.objs.size<=b->H1 b=none/\o8 X ah H1 b:=λb hb=>⟨I1.hok.fresh hb,I1.um hb (I1.hok.fresh hb)⟩
 obtain⟨Hn,Fn,In,Rn,sn,bn,nn⟩:=wX s1.heap.objs.size (B:=h5.objs.size+1) (by lia) fo I1.sz I2 R1 v1 v2 Qc Vo hp _ (az _)
 rw[List.take_length]at bn;have ZH:Hn h5.objs.size=none:=nn _ (by lia) (.inl (by lia))
 obtain⟨_,f2,f3,f4',f5,f6⟩:=(fo h5.objs.size (by lia)).2
 have I3:=Inv.adopt (D:=h5.objs.size) (o:=.lst ((List.range (List.zipWith eV ps qs).length).map λj=>V.ref (h5.objs.size+1+j))) In ZH (aJ I1.sz (by lia)) f2 f5 f6
  ⟨by simp only[aQ,oC];exact dD y9,(kl (h5.objs.size+1) (List.zipWith eV ps qs).length).toList,c',CL _ _,by simpa using hS⟩
 exact⟨.ref h5.objs.size,_,I3,rfl,Tx.ki (Tx.mono hT sn λ_ _ z=>z) Rn ZH bn⟩
end
section
variable {X:Cx}
theorem uS{α:Type}(xs:List α):∀n:Nat,(List.replicate n xs).flatten.length=n*xs.length
 | 0=>by simp
 | n+1=>by rw[fN,jQ,bA,uS xs n,Nat.succ_mul,Nat.add_comm]
theorem uT(aw:List Value):∀(m:Nat) (acc:List Value),List.foldl (λx1 x2=>x1++x2) acc.toArray (List.replicate m aw.toArray)=(acc++(List.replicate m aw).flatten).toArray
 | 0,acc=>by simp
 | m+1,acc=>by
  rw[fN,jV,show acc.toArray++aw.toArray=(acc++aw).toArray by simp,uT aw m,fN,jQ,gA]
theorem p7{xs:List V}{aw:List Value}(r:Vals xs aw):∀n:Nat,Vals (List.replicate n xs).flatten (List.replicate n aw).flatten
 | 0=>.nil
 | n+1=>by rw[fN,fN,jQ,jQ];exact r.append (p7 r n)
theorem uU{K:W.Frag}{F:Fz}{ps:List PV}{vs:List V}(r:ax K F ps vs):∀n:Nat,ax K F (List.replicate n ps).flatten (List.replicate n vs).flatten
 | 0=>.nil
 | n+1=>by rw[fN,fN,jQ,jQ];exact r.append (uU r n)
def SY(K:W.Frag):R2:=λx y H Q=>∃l k xs,x=.ref l/\y=.int k/\gZ K H l xs /\ -(2^63)<=k/\k<2^63/\xs.length*k.toNat<=sizeLine /\
 ∀p,H p=none->Q (.ref p) (cy H p (.lst (List.replicate k.toNat xs).flatten))
theorem JL:OpR X (binaryOp .Mult) (SY X.K):=by
 intro ah s σ H x y v u Q I rx ry h;obtain⟨l,k,xs,rfl,rfl,hH,h1,h2,hz,q⟩:=h;cases rx;obtain⟨t,rfl⟩:=ry;obtain⟨aw,n,r,e,z⟩:=I.kW hH;have hl:=r.length;have d8:aw.toArray.size*k.toNat<=sizeLine:=by rw[bW,<-hl];exact hz
 have Xv:¬aw.toArray.size*k.toNat>(2^63-1)/8:=by
  have:(sizeLine:Nat)<=(2^63-1)/8:=by decide
  lia
 have RX:¬(!Builtin.List.listFitsIndex k)=true:=by
  rw[fitsIndex_both h1 h2];exact bB
 have S0:¬Builtin.List.listTooLong (aw.toArray.size*k.toNat)=true:=by
  rw[vY d8];exact bB
 have zl:List.foldl (λx1 x2=>x1++x2) #[] (List.replicate (if aw.toArray.isEmpty=true then 0 else k.toNat) aw.toArray)=(List.replicate k.toNat aw).flatten.toArray:=by
  have f0:∀m:Nat,List.foldl (λx1 x2=>x1++x2) #[] (List.replicate m aw.toArray)=(List.replicate m aw).flatten.toArray:=λm=>by
   have:=uT aw m [];rw[fO]at this;exact this
  rw[f0];cases aw with
  | nil=>simp
  | cons a r'=>rw[if_neg (by simp)]
 refine wpAny_binaryOp_repeat_ref (T:="list") (U:="int") (by decide) ⟨_,e,rfl⟩ (λs'=>oQ s' k t) noFill_list_mul F.fills_int_mul F.slot_int_rmul repeat_list F.slot_int_index.lookup
  (fx F.slot_int_rmul (oQ s k t) F.entry_int_rmul (F.args_int_rmul_2 _ _) (int___rmul___int_list k t l aw.toArray n)
   ⟨e,rfl,⟨_,e,rfl⟩,fx F.slot_list_mul ⟨_,e,rfl⟩ F.entry_list_mul (F.args_list_mul_2 _ _) (AutoListH.list___mul___list_int_3 l aw.toArray n k t RX Xv S0) ⟨e,?_⟩⟩)
 rw[zl];exact⟨.ref _,_,I.M6 (t':=s.toks) (p7 r k.toNat) (by rw[uS,Nat.mul_comm];exact hz),rfl,q _ I.fresh⟩
theorem CM:fillsNumberSlot (.type "tuple") "mul"=pure false:=PySem.fillsNumberSlot_seq (id:="tuple.__mul__") (r:=some (.builtin "tuple.__rmul__")) F.slot_tuple_mul.lookup (by decide +kernel) F.slot_tuple_rmul.lookup (by decide +kernel)
theorem Ol:seqRepeat? (.type "tuple")=pure (some (.builtin "tuple.__mul__")):=by
  unfold seqRepeat?;rw[PySem.seqSlot_of (T:="tuple") (name:="__mul__") (id:="tuple.__mul__") F.slot_tuple_mul.lookup (by decide +kernel),PySem.seqSlot_of (T:="tuple") (name:="__rmul__") (id:="tuple.__rmul__") F.slot_tuple_rmul.lookup (by decide +kernel)]
  rfl
theorem JM(a:Int)(t:Tok)(l:Addr)(items:Array Value)(n:Nat)(Li:Option Addr)(sl:Array (Option Value)) :
    Meets (Builtin.«int.__rmul__» ⟨[.int a t,.ref l],[]⟩) (λ_ R s=>s.heap.get? l=some {cls:=.type "tuple",dict:=Li,data:=.seq items n,slots:=sl}/\R (.ok (.ret Value.notImplemented)) s) :=
  .of_wp λprog w A R s h=>by
    obtain⟨hp,g,d,tk,os⟩:=s;obtain⟨hl,h⟩:=h
    wp_walk
    exact⟨_,rfl,h⟩
theorem Om(l:Addr)(items:Array Value)(n:Nat)(u:Tok)(Li:Option Addr)(sl:Array (Option Value)) :
    Meets (Builtin.«tuple.__mul__» ⟨[.ref l,.int 1 u],[]⟩) (λ_ R s=>s.heap.get? l=some {cls:=.type "tuple",dict:=Li,data:=.seq items n,slots:=sl}/\R (.ok (.ret (.ref l))) s) :=
  .of_wp λprog w A R s h=>by
    obtain⟨hp,g,d,tk,os⟩:=s;obtain⟨hl,h⟩:=h
    wp_walk
    exact⟨_,rfl,h⟩
theorem JN(l:Addr)(items:Array Value)(n:Nat)(x:Int)(u:Tok)(Li:Option Addr)(sl:Array (Option Value))(h2:2<=x)(h3:x<=1000)(ne:items.isEmpty=false)(hz:items.size<=1000) :
    Meets (Builtin.«tuple.__mul__» ⟨[.ref l,.int x u],[]⟩) (λ_ R s=>s.heap.get? l=some {cls:=.type "tuple",dict:=Li,data:=.seq items n,slots:=sl}/\R (.ok (.ret (.ref s.heap.objs.size))) {s with heap:=s.heap.push {cls:=.type "tuple",data:=.seq (List.foldl (λx1 x2=>x1++x2) #[] (List.replicate x.toNat items))}}) :=
  .of_wp λprog w A R s h=>by
    obtain⟨hp,g,d,tk,os⟩:=s;obtain⟨hl,h⟩:=h;have hx:(items.size:Int)*x<=1000*1000:=by
      have h0:(0:Int)<=items.size:=Int.natCast_nonneg _;have h1:(items.size:Int)<=1000:=by lia
      exact Int.mul_le_mul h1 h3 (by lia) (by lia)
    have hsz:(List.foldl (λx1 x2=>x1++x2) #[] (List.replicate x.toNat items)).size<=sizeLine:=by
      rw[AutoListH.size_joined,j2];have h4:x.toNat*items.size<=1000*1000:=tQ (by lia) hz
      simp
      lia
    wp_walk
    refine oE (cL ?_) ?_
    · simp
      lia
    wp_walk
    refine oE (cL ?_) ?_
    · rw[ne]
      simp
      lia
    wp_walk
    refine oE (cL ?_) ?_
    · rw[ne]
      simp
      lia
    wp_walk
    refine oE (cL ?_) ?_
    · lia
    wp_walk
    refine oE (cL ?_) ?_
    · unfold Builtin.Tuple.tupleTooMany
      rw[j2];simp
      lia
    wp_walk
    exact⟨_,rfl,h⟩
theorem JO(l:Addr)(items:Array Value)(n:Nat)(u:Tok)(Li:Option Addr)(sl:Array (Option Value))(ne:items.isEmpty=false) :
  Meets (Builtin.«tuple.__mul__» ⟨[.ref l,.int 0 u],[]⟩) (λ_ R s=>s.heap.get? l=some {cls:=.type "tuple",dict:=Li,data:=.seq items n,slots:=sl}/\R (.ok (.ret (.ref s.heap.objs.size))) {s with heap:=s.heap.push {cls:=.type "tuple",data:=.seq #[]}}) :=
 .of_wp λprog w A R s h=>by
  obtain⟨hp,g,d,tk,os⟩:=s;obtain⟨hl,h⟩:=h
  wp_walk
  exact⟨_,rfl,h⟩
theorem Oo{xs:List PV}{j:Int}(h1:0<=j)(h2:j<=1000)(h3:1<=xs.length)(h4:xs.length<=100){ah:List (Addr×Obj)}{s:Shared}{σ τ:St}{H af:Hp}{ag F:Fz}{st:bP}{x y:V}{v u:Value}{Q:V->Hp->Prop}(I:Inv X ah σ H s)(rx:RelV x v)(ry:RelV y u)(R:Rep X.K af ag F st τ H)(ba:aU X.K F (.aq xs) x)(bb:aU X.K F (.int j) y)
    (k:∀v' H' F',Rep X.K af ag F' st τ H'->Gr F F'->aU X.K F' (.aq (List.replicate j.toNat xs).flatten) v'->Q v' H'):wpAny (model X.prog X.w) X.A (binaryOp .Mult v u) (EP X ah σ Q) X.xe s:=by
  obtain⟨a,vs,rfl,ha,fK⟩:=bF.mp ba;rw[aD.mp bb]at ry;cases rx;obtain⟨t,rfl⟩:=ry;obtain⟨aw,r,pl,_⟩:=I.tuple (cC R.sub ha);obtain⟨⟨cls,dd,data,sl⟩,e,hc,n,hd⟩:=id pl;simp only at hc hd;subst hc hd;have hl:=r.length;have hxl:=fK.length;refine wpAny_binaryOp_repeat_ref (T:="tuple") (U:="int") (by decide) ⟨_,e,rfl⟩ (λs'=>oQ s' j t) CM PySem.F.fills_int_mul PySem.F.slot_int_rmul Ol PySem.F.slot_int_index.lookup
    (fx PySem.F.slot_int_rmul (oQ s j t) PySem.F.entry_int_rmul (PySem.F.args_int_rmul_2 _ _) (JM j t a aw.toArray n dd sl) ⟨e,rfl,⟨_,e,rfl⟩,?_⟩)
  have nt:aw.toArray.isEmpty=false:=by
    cases aw with
    | nil=>rw[jX]at hl;lia
    | cons _ _=>simp
  by_cases hj0:j=0
  · subst hj0
    refine fx xX ⟨_,e,rfl⟩ xV (xS _ _) (JO a aw.toArray n t dd sl nt) ⟨e,?_⟩;obtain⟨R2,s2⟩:=R.laid (.aq []) I.fresh;exact⟨.ref s.heap.objs.size,_,I.laid (t':=s.toks) (o:=.aq []) (λb ob q=>aE _ q) (az _) ⟨gV _,[],.nil,mY.new _ _⟩,rfl,k _ _ _ R2 s2 (bF.mpr ⟨_,_,rfl,gY.of aA,.nil⟩)⟩
  by_cases hj:j=1
  · subst hj
    refine fx xX ⟨_,e,rfl⟩ xV (xS _ _) (Om a aw.toArray n t dd sl) ⟨e,?_⟩;refine⟨.ref a,H,I,rfl,k _ H F R (Gr.refl F) ?_⟩;simpa using ba
  · refine fx xX ⟨_,e,rfl⟩ xV (xS _ _) (JN a aw.toArray n j t dd sl (by lia) h2 nt (by rw[bW];lia)) ⟨e,?_⟩
    have zl:List.foldl (λx1 x2=>x1++x2) #[] (List.replicate j.toNat aw.toArray)=(List.replicate j.toNat aw).flatten.toArray:=by
      have:=uT aw j.toNat [];rw[fO]at this;exact this
    rw[zl];obtain⟨R2,s2⟩:=R.laid (.aq (List.replicate j.toNat vs).flatten) I.fresh;have d8:(List.replicate j.toNat vs).flatten.length<=sizeLine:=by
      rw[uS,j2];have:j.toNat*vs.length<=1000*100:=tQ (by lia) (by lia)
      lia
    exact⟨.ref s.heap.objs.size,_,I.laid (t':=s.toks) (o:=.aq (List.replicate j.toNat vs).flatten) (λb ob q=>aE _ q) (az _) ⟨d8,_,p7 r j.toNat,mY.new _ _⟩,rfl,k _ _ _ R2 s2 (bF.mpr ⟨_,_,rfl,gY.of aA,(uU fK j.toNat).mono s2⟩)⟩
def Oq{x':Str}{j:Int}(h1:2<=j)(h2:j<=100)(h3:1<=x'.length)(h4:x'.length<=100){ah:List (Addr×Obj)}{s:Shared}{σ τ:St}{H af:Hp}{ag F:Fz}{st:bP}{x y:V}{v u:Value}{Q:V->Hp->Prop}(I:Inv X ah σ H s)(rx:RelV x v)(ry:RelV y u)(R:Rep X.K af ag F st τ H)(ba:aU X.K F (.str x') x)(bb:aU X.K F (.int j) y)
 (k:∀v' H' F',Rep X.K af ag F' st τ H'->Gr F F'->aU X.K F' (.str (Txt.mul x' j)) v'->Q v' H'):wpAny (model X.prog X.w) X.A (binaryOp .Mult v u) (EP X ah σ Q) X.xe s:=by
 rw[aD.mp bb]at ry;rw[bE.mp ba]at rx;obtain⟨t,rfl⟩:=rx;obtain⟨t',rfl⟩:=ry;refine SB.mul ⟨by simp;lia,λ_ _=>?_,λ_ _=>?_⟩ λt' m=>⟨.str _,H,I.kept (t':=m) (λ_ _ e=>e),⟨t',rfl⟩,k _ H F R (Gr.refl F) (bE.mpr rfl)⟩
 ·have:100<=(2^63-1:Int)/j:=by
   rw[Int.le_ediv_iff_mul_le (by lia)]
   lia
  lia
 ·unfold Builtin.Str.tooLong;have:x'.length*j.toNat<=100*100:=tQ h4 (by lia)
  exact cL (Nat.not_lt.mpr (aJ this (by decide)))
def Xw(h:List aj)(p:PV)(j:Int):Option (List PV):=(ny h p).bind λxs=>if(-1000<=j/\j<=1000/\xs.length<=100)then some (List.replicate j.toNat xs).flatten else none
noncomputable def Hw:Nat:=1606938044258990275541962092341162602522202993782792835301376
theorem zu{i j:Int}(h:i.natAbs<Hw/\j.natAbs<Hw):IntMulOk i j:=by
 have h1:Builtin.Int.intBits i<=200:=PyProof.Rows.intBits_le (bQ h.1 (by decide))
 have h2:Builtin.Int.intBits j<=200:=PyProof.Rows.intBits_le (bQ h.2 (by decide))
 have hc:Builtin.Int.intTooBig (Builtin.Int.intBits i+Builtin.Int.intBits j)=false:=by
  unfold Builtin.Int.intTooBig bitsLine;exact cL (by lia)
 unfold IntMulOk;rw[hc];simp
def Xx:G2:=mn (λi j=>decide (((-nz<i/\i<nz)\/(-nz<j/\j<nz))\/(i.natAbs<Hw/\j.natAbs<Hw))) λi j=>.int (i*j)
theorem Fv:nP X (binaryOp .Mult) Xx:=ef (C:=IntMulOk) (QX λ_ _ _ _ _ _ _ hc q=>mul_int q hc) (λi j e=>by
 rcases gS e with h | h
 ·exact Ie.ok h
 ·exact zu h) λ_ _ _=>aD.mpr rfl
def jG:G2:=λh p q=>match p,q with
 | .int i,.int j=>if(((-nz<i/\i<nz)\/(-nz<j/\j<nz))\/(i.natAbs<Hw/\j.natAbs<Hw))then some (.int (i*j))else none
 | .nd .aq xs,.int j=>if(0<=j/\j<=1000/\1<=xs.length/\xs.length<=100)then some (.aq (List.replicate j.toNat xs).flatten)else none
 | .str x,.int j=>if(2<=j/\j<=100/\1<=x.length/\x.length<=100)then some (.str (Txt.mul x j))else none
 | p,.int j=>(Xw h p j).map .lst
 | _,_=>none
theorem Ot{xs:List PV}{vs:List V}{F:Fz}{j:Int}(h:-1000<=j/\j<=1000/\xs.length<=100)(b:ax X.K F xs vs):-(2^63)<=j/\j<2^63/\vs.length*j.toNat<=sizeLine:=by
 refine⟨by lia,by lia,?_⟩
 have:=b.length;rw[j2];have:vs.length*j.toNat<=100*1000:=tQ (by lia) (by lia)
 lia
theorem Fw:nP X (binaryOp .Mult) jG:=by
 intro ah s σ H x y v u Q I rx ry ⟨af,ag,F,st,τ,pa,pb,p,e,R,ba,bb,k⟩;unfold jG at e;split at e
 ·rename_i i j;obtain⟨hc,rfl⟩:=aC e;exact Fv ah s σ H x y v u Q I rx ry ⟨af,ag,F,st,τ,.int i,.int j,.int (i*j),(show(if decide (((-nz<i/\i<nz)\/(-nz<j/\j<nz))\/(i.natAbs<Hw/\j.natAbs<Hw))=true then some (PV.int (i*j))else none)=_ from if_pos (dA hc)),R,ba,bb,k⟩
 ·obtain⟨⟨h1,h2,h3,h4⟩,rfl⟩:=aC e;exact Oo h1 h2 h3 h4 I rx ry R ba bb k
 ·obtain⟨⟨h1,h2,h3,h4⟩,rfl⟩:=aC e;exact Oq h1 h2 h3 h4 I rx ry R ba bb k
 ·obtain⟨qs,e1,rfl⟩:=aM e;obtain⟨xs,e2,e1⟩:=aK e1;obtain⟨hc,rfl⟩:=aC e1;obtain⟨a,vs,rfl,ha,fK⟩:=R.at (dS e2) ba;obtain⟨c1,c2,c3⟩:=Ot hc fK;refine JL ah s σ H _ y v u Q I rx ry ⟨a,_,vs,rfl,aD.mp bb,ha,c1,c2,c3,λp hp=>?_⟩
  obtain⟨R2,s2⟩:=R.laid (.lst (List.replicate _ vs).flatten) hp;exact k _ _ _ R2 s2 (cZ.mpr ⟨p,_,rfl,gZ.of aA,(uU fK _).mono s2⟩)
 ·cases e
def JP(op:Operator):Option G2:=match op with
 | .Mult=>some jG
 | op=>Nt op
theorem Fx{op:Operator}{g:G2}(h:JP op=some g):nP X (binaryOp op) g:=by
 cases op<;>first | (cases h;exact Fw) | exact IV h
end
def ZI(K:W.Frag)(c1 c2:Bool)(l1 l2:Addr):It where
 go:=λi H=>∃vs ws v w,qQ K H c1 l1 vs/\qQ K H c2 l2 ws/\vs[i]?=some v/\ws[i]?=some w
 yld:=λi H x H'=>∃T v w,H T=none/\x=.ref T/\H'=cy H T (.aq [v,w])/\∀vs ws,qQ K H c1 l1 vs->qQ K H c2 l2 ws->vs[i]?=some v/\ws[i]?=some w
 stop:=λi H=>∃vs ws,qQ K H c1 l1 vs/\qQ K H c2 l2 ws/\(vs.length<=i\/ws.length<=i)
def zTn(z TI TO i1 i2 l1 l2:Nat)(c1 c2:Bool)(i:Nat)(h:Heap):Prop:=IsZip h z TI TO .none/\IsPair h TI (.ref i1) (.ref i2)/\(∃a b,IsPair h TO a b)/\Dq h c1 i1 l1 i/\Dq h c2 i2 l2 i
theorem Fy{P:Program}{w:World}{K:W.Frag}{elts:List Expr}{x1:Nat}{pj:Pos}{z TI TO i1 i2 l1 l2:Nat}{c1 c2:Bool}(ord:i1<i2/\i2<TI/\TI<TO/\TO<z)(o1:l1<i1)(o2:l2<i1) :
  Turn P w K (.Tuple elts x1 pj) (ZI K c1 c2 l1 l2) [z,TI,TO,i1,i2] z (zTn z TI TO i1 i2 l1 l2 c1 c2) where
 mem:=dj
 obj:=by
  rintro i h ⟨a1,a2,⟨_,_,a3⟩,a4,a5⟩ b hb
  simp only[aW,cK,cM]at hb;rcases hb with rfl | rfl | rfl | rfl | rfl
  ·exact⟨_,a1,λv=>by simp⟩
  ·exact⟨_,a2,λv=>by simp⟩
  ·exact⟨_,a3,λv=>by simp⟩
  ·exact a4.obj
  ·exact a5.obj
 keep:=λi h h' ⟨a1,a2,⟨p,q,a3⟩,a4,a5⟩ k=>⟨k z (by simp) _ a1,k TI (by simp) _ a2,⟨p,q,k TO (by simp) _ a3⟩,a4.at λo e=>k i1 (by simp) o e,a5.at λo e=>k i2 (by simp) o e⟩
 item:=by
  rintro X hP hw hK hc i ah s σ H E I hf ⟨a1,a2,a3,a4,a5⟩ ⟨vs,ws,v,w',hv,Vp,ev,ew⟩
  subst hP hw hK;obtain⟨aw,r1,k1⟩:=hv.get I;obtain⟨dR,r2,k2⟩:=Vp.get I;obtain⟨x,ex,rx⟩:=r1.get ev;obtain⟨y,ey,ry⟩:=r2.get ew;have Z:Zp s.heap z TI TO i1 i2 l1 l2 .none i aw.toArray dR.toArray:=⟨a1,a2,a3,rZ a4 k1,rZ a5 k2,ord,o1,o2⟩;have hT:s.TypeIs (.ref z) "zip":=⟨_,a1,rfl⟩;unfold pyNext;refine ai (jY (fq (name:=Str.ofString "__next__") hT fw (eE fw hT lW
   (Bb Z (by simpa using ex) (by simpa using ey) λh' Z' Lp Sb kp=>ak ⟨_,rfl,?_⟩) (lS _))))
  refine wpAny_letOwnedTupleGo_zip Z'.hz λHu Xy sb=>?_
  have Si:∀b∈[z,TI,TO,i1,i2],b<s.heap.objs.size:=λb hb=>by
   simp only[aW,cK,cM]at hb;have h1:=aG a1;have h2:z<s.heap.objs.size:=h1;obtain⟨q1,q2,q3,q4⟩:=ord;rcases hb with rfl | rfl | rfl | rfl | rfl<;>lia
  have zT:z≠s.heap.objs.size:=aZ (Si z (by simp))
  have Sj:∀b o,b∉[z,TI,TO,i1,i2]->s.heap.get? b=some o->Hu.get? b=some o:=λb o hb e=>by
   simp only[aW,cK,cM,not_or]at hb;exact sb.extBut _ _ hb.1 (kp b o hb.1 hb.2.2.1 hb.2.2.2.1 hb.2.2.2.2 e)
  have I1:Inv X ah σ H {s with heap:=Hu,toks:=s.toks}:=Inv.turns I hf Sj
  have hn:H s.heap.objs.size=none:=I.fresh;have Jq:=I.um (H':=H) (az _) hn;have pr:IsPair Hu s.heap.objs.size x y:=sb.extBut _ _ (bR zT) Lp;have I2:=Inv.adopt (D:=s.heap.objs.size) (o:=.aq [v,w']) I1 hn (by
    rcases Jq.2.2.2.1 with q | q
    ·exact I.sz
    ·exact q) Jq.2.1 Jq.2.2.2.2.1 Jq.2.2.2.2.2 ⟨(by show 2<=sizeLine;decide),[x,y],.cons rx (.cons ry .nil),⟨_,pr,rfl,⟨0,rfl⟩,rfl⟩⟩
  refine⟨.ref s.heap.objs.size,_,I2,rfl,⟨s.heap.objs.size,v,w',hn,rfl,rfl,λvD ws' h1 h2=>?_⟩,⟨Xy,sb.extBut _ _ (by first | exact nl (by lia) | exact ng (by lia)) Z'.hTI,?_,?_,?_⟩,λb hb=>?_⟩
  ·rw[<-qQ.inj I hv h1,<-qQ.inj I Vp h2];exact⟨ev,ew⟩
  ·obtain⟨p,q,e⟩:=Z'.hTO;exact⟨p,q,sb.extBut _ _ (by first | exact nl (by lia) | exact ng (by lia)) e⟩
  ·have q:=uN (k':=i) Z'.s1 k1 λo e=>kp l1 o (by first | exact nl (by lia) | exact ng (by lia)) (by first | exact nl (by lia) | exact ng (by lia)) (by first | exact nl (by lia) | exact ng (by lia)) (by first | exact nl (by lia) | exact ng (by lia)) e
   exact q.at λo e=>sb.extBut _ _ (by first | exact nl (by lia) | exact ng (by lia)) e
  ·have q:=uN (k':=i) Z'.s2 k2 λo e=>kp l2 o (by first | exact nl (by lia) | exact ng (by lia)) (by first | exact nl (by lia) | exact ng (by lia)) (by first | exact nl (by lia) | exact ng (by lia)) (by first | exact nl (by lia) | exact ng (by lia)) e
   exact q.at λo e=>sb.extBut _ _ (by first | exact nl (by lia) | exact ng (by lia)) e
  ·rw[aH (aZ (Si b hb))];exact(hf b hb).1
 done:=by
  rintro X hP hw hK hc i ah s σ H E I hf ⟨a1,a2,a3,a4,a5⟩ ⟨vs,ws,hv,Vp,he⟩
  subst hP hw hK;obtain⟨aw,r1,k1⟩:=hv.get I;obtain⟨dR,r2,k2⟩:=Vp.get I;have Z:Zp s.heap z TI TO i1 i2 l1 l2 .none i aw.toArray dR.toArray:=⟨a1,a2,a3,rZ a4 k1,rZ a5 k2,ord,o1,o2⟩;have hT:s.TypeIs (.ref z) "zip":=⟨_,a1,rfl⟩;have wU:aw.toArray[i]?=none\/dR.toArray[i]?=none:=by
   rcases he with q | q
   ·exact .inl (jN (by rw[bW,<-r1.length];exact q))
   ·exact .inr (jN (by rw[bW,<-r2.length];exact q))
  unfold pyNext;refine ai (jY (fq (name:=Str.ofString "__next__") hT fw (eE fw hT lW (Ft (I.ok.hd hc) Z wU λh' e kp ⟨o,ho,hcl⟩=>?_) (lS _))))
  refine ai (jT (T:="StopIteration") (b:=true) ⟨o,ho,hcl⟩ tU (ak ⟨rfl,?_⟩));exact Inv.turns (t':=s.toks) I hf λb o hb e=>by
   simp only[aW,cK,cM,not_or]at hb;exact kp b o hb.1 hb.2.2.1 hb.2.2.2.1 hb.2.2.2.2 e
 self:=λA i s Q E ⟨a1,_⟩ q=>yv a1 q
theorem FA{K:W.Frag}{F:Fz}{c1 c2:Bool}{l1 l2:Addr}{ps qs:List PV}{vs ws:List V}(k1:∀F',bT F.F F'->qQ K F' c1 l1 vs)(k2:∀F',bT F.F F'->qQ K F' c2 l2 ws)(b1:ax K F ps vs)(b2:ax K F qs ws):Walk K F (List.zipWith eV ps qs) (ZI K c1 c2 l1 l2):=by
 intro af ag F' ρ σ H R s i;have h1:=k1 H (s.s.trans R.sub);have h2:=k2 H (s.s.trans R.sub);refine⟨λp e=>?_,λe=>?_⟩
 ·rw[List.getElem?_zipWith]at e;cases z1:ps[i]? with
  | none=>rw[z1]at e;cases e
  | some p1 =>
   cases z2:qs[i]? with
   | none=>rw[z1,z2]at e;cases e
   | some p2 =>
    rw[z1,z2]at e;cases e;obtain⟨v,e1,WX⟩:=b1.get z1;obtain⟨w,e2,c2'⟩:=b2.get z2;refine⟨⟨vs,ws,v,w,h1,h2,e1,e2⟩,λx H' ⟨T,v',w',hn,hx,hH,hall⟩=>?_⟩
    obtain⟨g1,g2⟩:=hall vs ws h1 h2;rw[e1]at g1;rw[e2]at g2;cases g1;cases g2;subst hx hH;obtain⟨R2,s2⟩:=R.laid (.aq [v,w]) hn;exact⟨_,R2,s2,bF.mpr ⟨T,[v,w],rfl,gY.of aA,.cons (WX.mono (s.trans s2)) (.cons (c2'.mono (s.trans s2)) .nil)⟩⟩
 ·refine⟨vs,ws,h1,h2,?_⟩;have:=gy.mp e;rw[List.length_zipWith,b1.length,b2.length]at this
  lia
section
variable {X:Cx} {af:Hp} {ag:Fz} {a b tg:Expr} {fa fb:Gx PV} {pos p:Pos}
def Ou(p q:PV):Option (List PV):=(nC p).bind λps=>(nC q).map λqs=>List.zipWith eV ps qs
def Ov(fa fb:Gx PV):Gx (List PV):=bnd fa λp=>bnd fb λq=>iB (Ou p q)
theorem S2(ht:AU tg=true)(hg:Gl X "zip")(hm:X.mg "zip"=none)(ha:PE X a (tE X af ag fa))(hb:PE X b (tE X af ag fb))(hs:starEach [a,b] X.env=(false,eval a X.env)::starEach [b] X.env)(B6:starEach [b] X.env=[(false,eval b X.env)]) :
  PI X tg (.Call (.Name "zip" p) [a,b] [] pos) (tI X af ag (Ov fa fb)):=by
 rintro ah s σ H R I ⟨F,st,Rp,h⟩
 have hA:=gq ha (gq hb pq B6) hs pos ah s σ H (λvs H'=>∃F' st' x y pa pb ps qs,vs=[x,y]/\Rep X.K af ag F' st' σ H'/\aU X.K F' pa x/\aU X.K F' pb y/\nC pa=some ps/\nC pb=some qs/\∀b Sk ED,Rep X.K af ag ED st' σ Sk->Gr F' ED->Walk X.K ED (List.zipWith eV ps qs) b->R b Sk) I
  ⟨F,st,Rp,h.bnd λp v F1 st1 H1 R1 g1 b1 h1=>⟨F1,st1,R1,h1.bnd λq w F2 dh H2 R2 g2 b2 h2=>by
   obtain⟨o,e,z⟩:=h2.iB;obtain⟨ps,e1,e⟩:=aK e;obtain⟨qs,e2,rfl⟩:=aM e;exact⟨F2,dh,v,w,p,q,ps,qs,rfl,R2,b1.mono g2,b2,e1,e2,z⟩⟩⟩
 refine Call_ (ld_blt I hg hm boot_zip (gw (thn hA λus s1 z9=>?_) hs (by rw[B6];rfl)))
 obtain⟨vs,H1,I1,r1,F1,st1,x,y,pa,pb,ps,qs,ev,R1,b1,b2,f3,f4,q⟩:=z9;subst ev;obtain⟨u1,u2,rfl,NR,SQ⟩:=Av r1;obtain⟨c1,l1,Zl,rfl,q1,Qc,k1⟩:=i9 f3 b1;obtain⟨c2,l2,vs2,rfl,q2,Vo,k2⟩:=i9 f4 b2;cases NR;cases SQ;obtain⟨aw,v1,Js⟩:=(k1 H1 R1.sub).get I1;obtain⟨dR,v2,Qf⟩:=(k2 H1 R1.sub).get I1;have lt:∀{l:Addr} {xs:Array Value} {c:String},gK s1.heap l xs c->l<s1.heap.objs.size:=λh=>by
  rcases h with⟨_,⟨o,e,_⟩⟩ | ⟨_,⟨o,e,_⟩⟩
  ·exact aG e
  ·exact aG e
 have Jt:=lt Js;have K8:=lt Qf;refine callType_new PySem.F.called_zip (by decide) (PySem.F.typeCall_zip_2 _ _) (PySem.F.newCall_zip_2 _ _) (λobj=>Dz obj _ _) PySem.F.entry_zip_new (wV l1 l2 aw.toArray dR.toArray (jE c1) (jE c2)) ⟨Js,Qf,λh1 h2 h3 h4 e1 e2 e3 e4=>?_⟩
 have z1:h1.objs.size=s1.heap.objs.size+1:=by rw[e1];exact dz ..
 have z2:h2.objs.size=s1.heap.objs.size+2:=by rw[e2,dz,z1]
 have z3:h3.objs.size=s1.heap.objs.size+3:=by rw[e3,dz,z2]
 have z4:h4.objs.size=s1.heap.objs.size+4:=by rw[e4,dz,z3]
 generalize e5:h4.push {cls:=.type "zip",data:=.fields #[.none,.bool false,.bool false,.ref h2.objs.size,.ref h3.objs.size]}=h5
 have p1:∀b o,s1.heap.get? b=some o->h1.get? b=some o:=λb o e=>by rw[e1];exact aE _ e
 have p2:∀b o,h1.get? b=some o->h2.get? b=some o:=λb o e=>by rw[e2];exact aE _ e
 have p3:∀b o,h2.get? b=some o->h3.get? b=some o:=λb o e=>by rw[e3];exact aE _ e
 have p4:∀b o,h3.get? b=some o->h4.get? b=some o:=λb o e=>by rw[e4];exact aE _ e
 have p5:∀b o,h4.get? b=some o->h5.get? b=some o:=λb o e=>by rw[<-e5];exact aE _ e
 have g5:IsZip h5 h4.objs.size h2.objs.size h3.objs.size .none:=by rw[<-e5];exact bu _ rfl
 have g4:IsPair h5 h3.objs.size .none .none:=p5 _ _ (by rw[e4];exact bu _ rfl)
 have g3:IsPair h5 h2.objs.size (.ref s1.heap.objs.size) (.ref h1.objs.size):=p5 _ _ (p4 _ _ (by rw[e3];exact bu _ rfl))
 have g2:h5.get? h1.objs.size=some {cls:=.type (jE c2),data:=.fields #[.ref l2,.int 0 0]}:=p5 _ _ (p4 _ _ (p3 _ _ (by rw[e2];exact bu _ rfl)))
 have g1:h5.get? s1.heap.objs.size=some {cls:=.type (jE c1),data:=.fields #[.ref l1,.int 0 0]}:=p5 _ _ (p4 _ _ (p3 _ _ (p2 _ _ (by rw[e1];exact bu _ rfl))))
 have ZJ:∀{c:Bool} {it l:Addr},h5.get? it=some {cls:=.type (jE c),data:=.fields #[.ref l,.int 0 0]}->Dq h5 c it l 0:=λ{c it l} e=>by
  cases c with
  | true=>exact(show h5.IsListIter it l 0 from⟨_,e,rfl,rfl⟩)
  | false=>exact(show h5.IsTupleIter it l 0 from⟨_,e,rfl,rfl⟩)
 have I2:Inv X ah σ H1 {s1 with heap:=h5,toks:=s1.toks}:=I1.kept λb o e=>p5 _ _ (p4 _ _ (p3 _ _ (p2 _ _ (p1 _ _ e))))
 have kH:∀b,s1.heap.objs.size<=b->H1 b=none:=λb hb=>I1.hok.fresh hb
 refine⟨⟨_,g5,rfl⟩,?_⟩;show wpAny _ _ (pyIter (.ref h4.objs.size)) _ _ {s1 with heap:=h5,toks:=s1.toks}
 refine yv g5 ?_;cases tg with
 | Tuple elts x1 pj =>
  refine⟨h4.objs.size,[h4.objs.size,h2.objs.size,h3.objs.size,s1.heap.objs.size,h1.objs.size],_,_,H1,rfl,I2,Fy (TI:=h2.objs.size) (TO:=h3.objs.size) (i1:=s1.heap.objs.size) (i2:=h1.objs.size) (l1:=l1) (l2:=l2) (c1:=c1) (c2:=c2) ⟨by lia,by lia,by lia,by lia⟩ Jt K8,⟨g5,g3,⟨_,_,g4⟩,ZJ g1,ZJ g2⟩,λb hb=>?_,q _ H1 F1 R1 (Gr.refl _) (FA k1 k2 Qc Vo)⟩
  simp only[aW,cK,cM]at hb;have Sl:s1.heap.objs.size<=b:=by rcases hb with rfl | rfl | rfl | rfl | rfl<;>lia
  have fo:=I1.um (H':=H1) Sl (kH b Sl);exact fo
 | _=>cases ht
end
end L2.U
namespace L2
open PySem PySem.Spec PyProof.Rows
section
variable {prog:Program} {w:World} {A:Around} {E:Value->Shared->Prop} {s:Shared} {K:W.Frag} {x dx C f:Addr} {mA:Str->Option Value} {name:Str} {v:Value}
theorem FC{pl:Sem Bool}{Q:Value×List Value->Shared->Prop}(X:K.In s.heap)(I:yU s.heap x dx C mA)(hg:W.plainGet K C name=true)
    (hf:W.findIn K (.ref C) name=some (some (.ref f))) (ht:W.isFn K (.ref f)=true) (hv:mA name=none) (h:Q (.ref f,[.ref x]) s) :
    wpAny (model prog w) A (getMethod (.ref x) name pl) Q E s:=by
  obtain⟨od,J,hl⟩:=I.j7;exact W.method_fn X J (W.plainGet_of hg).1 (W.plainGet_of hg).2 hf (gX.mp ht) (by show(W.lookIn name od).map (·.isSome)=some false;rw[hl,hv];rfl) h
end
section
variable {X:Cx} {ah:List (Addr×Obj)} {σ:St} {H:Hp} {s:Shared} {a C dx:Addr} {fs:List (Str×V)} {f:Str} {v:V} {A:Around} {E:Value->Shared->Prop}
theorem zw{m:Str}{g:Addr}{pl:Sem Bool}{Q:Value×List Value->Shared->Prop}(I:Inv X ah σ H s)(e:H a=some (.ins C dx fs))(c:qN X.K C)(k:DC X.K C m g)(l:fs.lookup m=none)
    (h:Q (.ref g,[.ref a]) s):wpAny (model X.prog X.w) A (getMethod (.ref a) m pl) Q E s:=by
  obtain⟨mA,O,r,_,_,_⟩:=uq I.hok e;have hn:mA m=none:=mX.none_of (by rw[<-l];exact r m)
  exact FC I.mh O (c.get m) k.at_ k.fn hn h
end
section
variable {X:Cx} {o e value:Expr} {f:Str} {pos mZ pj:Pos} {ta tv:TE}
theorem mT{pl:Sem Bool}{m:Str}{dW:Pos}{args:List Expr}{ah:List (Addr×Obj)}{s:Shared}{σ:St}{H:Hp}{Q:Value->Shared->Prop}{te:TE}(he:PE X e te)(I:Inv X ah σ H s)
    (h:te σ H λx H1=>∃a C dx fs g,x=.ref a/\H1 a=some (.ins C dx fs)/\qN X.K C/\DC X.K C m g/\fs.lookup m=none /\
      ∀s1,Inv X ah σ H1 s1->wpAny (model X.prog X.w) X.A (callWith pos (.ref g) [.ref a] (backTo pos (starEach args X.env)) (backToKw pos (keywordEach [] X.env))) Q X.xe s1)
    (ht:eval (.Call (.Attribute e m dW) args [] pos) X.env=(do
      let ov <-eval e X.env
      standAt dW.atName
      let (f,first) <-holding [ov] (getMethod ov m pl)
      callWith pos f first (backTo pos (starEach args X.env)) (backToKw pos (keywordEach [] X.env)))) :
    wpAny (model X.prog X.w) X.A (eval (.Call (.Attribute e m dW) args [] pos) X.env) Q X.xe s:=by
  refine W.methodCall_KW (pl:=pl) (thn (he ah s σ H _ I h) λu s1 ⟨x,H1,I1,rx,a,C,dx,fs,g,ex,ea,c,k,l,q⟩=>?_) ht
  subst ex;obtain rfl:u=Value.ref a:=rx;exact zw I1 ea c k l (q s1 I1)
end
section
def Xz(X:Cx)(op:Operator)(rd:V->V->Hp->VK->Prop):Prop :=
  ∀(ah:List (Addr×Obj)) (s:Shared) (σ:St) (H:Hp) (x y:V) (u v:Value) (Q:VK),Inv X ah σ H s->RelV x u->RelV y v->rd x y H Q->wpAny (model X.prog X.w) X.A (inplaceOp op u v) (EP X ah σ Q) X.xe s
end
section
def JQ(K:W.Frag)(ta tv:TE)(rd:V->V->Hp->VK->Prop)(f:Str):TS:=λD σ H=>ta σ H λx H1=>∃a C dx fs v,x=.ref a/\H1 a=some (.ins C dx fs)/\qN K C/\fQ K C f/\fs.lookup f=some v /\
  tv σ H1 λy H2=>rd v y H2 λz H3=>∃S4 KJ,H3 a=some (.ins C S4 KJ)/\KJ.length<1000/\D.nx σ (cy H3 a (.ins C S4 (gi f z KJ)))
end
section
variable {X:Cx} {o e value:Expr} {f:Str} {pos mZ pj:Pos} {ta tv:TE}
theorem CN{op:Operator}{rd:V->V->Hp->VK->Prop}(ha:PE X o ta)(hv:PE X value tv)(hop:Xz X op rd):PS X (.AugAssign (.Attribute o f pj) op value pos) (JQ X.K ta tv rd f):=by
  intro ah s σ H D I h;refine wpAny_AugAssign_AttributeAny (thn (ha ah s σ H _ I h) λov s1 ⟨x,H1,I1,rx,a,C,dx,fs,v,ex,ea,c,n,l,q⟩=>?_)
  subst ex;obtain rfl:ov=Value.ref a:=rx;refine pf I1 ea c n l λu s2 I2 ru=>thn (hv ah s2 σ H1 _ I2 q) λw3 s3 ⟨y,H2,I3,ry,q3⟩=>thn (hop ah s3 σ H2 v y u w3 _ I3 ru ry q3) λw4 s4 ⟨z,H3,I4,rz,S4,KJ,ea',l',q4⟩=>?_
  exact ph I4 ea' c n l' rz λs5 I5=>⟨σ,_,I5,q4⟩
end
section
variable {X:Cx} {CX:BP} {k:Nat} {f C:Addr} {fd:FuncData} {ps:List Str} {sp:Sp} {iS:List V} {ds:List Value} {E:XK} {x m:Str} {p pos dW:Pos} {e o:Expr} {es:List Expr} {ta:TE} {t:TA}
theorem FD(M:Mk X.K C f)(F:FnOk X.prog X.w X.K X.mg X.base CX k f fd ps sp)(hr:cN (k+1) X.A)(hg:Gl X x)(hm:X.mg x=some (.ref C))(hb:cz X.K fd ps ds)(hd:Vals iS ds)(hx:uu CX X E)
    (vK:(x==("__debug__":Str))=false:=by decide):PE X (.Call (.Name x p) [] [] pos) (Aw C sp iS E MR):=by
  intro ah s σ H Q I h;refine gR (ld_glob I hg hm ?_ vK);exact W.callWith_K0 I.mh M.kp (vT (us:=[]) M F hr hb hd hx I .nil h)
end
section
theorem Vals.dropLast{xs:List V}{us:List Value}(h:Vals xs us):Vals xs.dropLast us.dropLast:=by
  induction h with
  | nil=>exact .nil
  | cons r t ih =>
    cases t with
    | nil=>exact .nil
    | cons q t'=>exact .cons r ih
end
section
theorem zx{α:Type}(l:List α):l.eraseIdx (l.length-1)=l.dropLast:=by
  induction l with
  | nil=>rfl
  | cons a r ih =>
    cases r with
    | nil=>rfl
    | cons b r =>
      have e:(a::b::r).length-1=((b::r).length-1)+1:=by
        have h1:(a::b::r).length=r.length+2:=rfl;have h2:(b::r).length=r.length+1:=rfl
        lia
      rw[e,List.eraseIdx_cons_succ,ih]
      all_goals rfl
end
section
variable {X:Cx}
def Lq:V->List V->Hp->VK->Prop:=λx vs H Q=>∃l xs y,x=.ref l/\vs=[]/\H l=some (.lst xs)/\xs[xs.length-1]?=some y/\Q y (cy H l (.lst xs.dropLast))
end
section
variable {X:Cx}
theorem JR:Wu X "list.pop" Lq:=by
  intro ah s σ H x vs v us Q I rx rv h;obtain⟨l,xs,y,rfl,rfl,hH,hy,q⟩:=h;cases rx;have hus:=rv.zero;subst hus;obtain⟨z,aw,n,r,hl,e⟩:=I.fU hH;obtain⟨u,hu,ru⟩:=r.get hy;have hy':aw.toArray[aw.toArray.size-1]?=some u:=by
    show aw.toArray[aw.length-1]?=some u;rw[<-tj,<-hl];exact hu
  refine fx F.slot_list_pop ⟨_,e,rfl⟩ F.entry_list_pop (F.args_list_pop_1 _) (MeetsSeq.list_pop_last l aw.toArray n u hy' (by rw[bW];lia)) ⟨e,?_⟩
  refine⟨y,_,I.M5 (its':=aw.dropLast) hH e ?_ r.dropLast ?_,ru,q⟩
  · show aw.toArray.eraseIdxIfInBounds (aw.toArray.size-1)=aw.dropLast.toArray
    rw[bW,List.eraseIdxIfInBounds_toArray,zx]
  · rw[List.length_dropLast]
    lia
end
end L2
namespace L2.U
open PySem PySem.Spec PyProof.Rows
section
variable {X:Cx} {af:Hp} {ag:Fz} {e o:Expr} {es:List Expr} {ts:Gx (List PV)} {fo:Gx PV} {pos p dW:Pos} {k n:Nat} {f:Addr} {fd:FuncData} {ps:List Str} {x m:Str} {g:jw} {ds:List PV} {iS:List V} {oS:List Value}
def nU{CX:BP}{sp:Sp}{E:XK}{ah:List (Addr×Obj)}{σ:St}{H:Hp}{s:Shared}{Q:VK}{us:List Value}{vs:List V}(F:FnOk X.prog X.w X.K X.mg X.base CX k f fd ps sp)(hr:cN k X.A)(hb:cz X.K fd ps oS)(hd:Vals iS oS)(hx:∀e s',CX X.stack H s E e s'->X.xe e s')
  (I:Inv X ah σ H s) (r:Vals vs us) (h:sp (vs++iS) H Q E):wpAny (model X.prog X.w) X.A (call (.ref f) us) (EP X ah σ Q) X.xe s:=by
 have r2:Vals (vs++iS) (us++oS):=r.append hd;have P9:=hb s us I.mh (by rw[<-r2.length];exact F.len _ _ _ _ h)
 refine wpAny_call (oM (F.run X.A X.stack s H ⟨us,[]⟩ (us++oS) (vs++iS) Q E hr I.MT P9 r2 h) λr s' hq=>?_)
 cases r with
 | error e=>exact hx e s' hq
 | ok fl =>
  cases fl with
  | ret u=>exact I.after hq
  | next=>exact False.elim hq
  | brk=>exact False.elim hq
  | cont=>exact False.elim hq
def S5(G:FnOk X.prog X.w X.K X.mg X.base (gE X.prog X.w) k f fd ps (r9 X.K n g))(hr:cN k X.A)(hb:cz X.K fd ps oS)(hd:Vals iS oS)(bd:∀F,ax X.K F ds iS):zk X f (λas=>gD n g (as++ds)):=by
 rintro af H ag F st σ ah s Q as us vs I R b r ⟨q,e1,e2⟩
 obtain⟨hl,e1⟩:=bL e1;obtain⟨⟨rs,h'⟩,e3,e4⟩:=aM e1;subst e4;obtain⟨C,full⟩:=R.c.enter;have b2:=b.append (bd F);cases rs with
 | ok p'=>exact nU G hr hb hd (λe s' hx=>rQ ah σ H s e s' I hx) I r ⟨_,F,st.h,as++ds,_,h',C,full,b2,hl,e3,λv F' H' D b'=>e2 v H' F' ⟨R.c.leave D,R.l.mono D.base⟩ D.base b'⟩
 | ex m c=>exact thn (nU (Q:=λ_ _=>False) G hr hb hd (λe s' hx=>e2 σ ah H s e s' I hx) I r ⟨_,F,st.h,as++ds,_,h',C,full,b2,hl,e3,λcls F' H' D hc=>⟨hc,F',⟨R.c.leave D,R.l.mono D.base⟩,D.base⟩⟩) (by rintro v s3 ⟨_,_,_,_,z⟩;exact z.elim)
def S7(G:FnOk X.prog X.w X.K X.mg X.base (gE X.prog X.w) k f fd ps (r9 X.K n g))(hr:cN k X.A)(hb:cz X.K fd ps oS)(hd:Vals iS oS)(bd:∀F,ax X.K F ds iS):zk X f (λas=>jb n g (as++ds)):=by
 rintro af H ag F st σ ah s Q as us vs I R b r ⟨q,e1,e2⟩
 obtain⟨⟨hl,hn⟩,e1⟩:=bL e1;obtain⟨⟨rs,h'⟩,e3,e4⟩:=aK e1;have full:∀b o,H b=some o->H b=some o\/∃n:Nat,(Fz.mk F.F []).μ[n]?=some b:=by grind
 have b3:=se R hn (b.append (bd F)) [];cases rs with
 | ok p' =>
  obtain⟨p2,e5,e6⟩:=aM e4;subst e6;refine nU G hr hb hd (λe s' hx=>rQ ah σ H s e s' I hx) I r ⟨H,⟨F.F,[]⟩,[],as++ds,_,h',R.c.pure,full,b3,hl,e3,λv F' H' D b'=>?_⟩
  obtain⟨R3,g3⟩:=R.back (bT.refl _) D;exact e2 v H' _ R3 g3 (wG F.μ D e5 b')
 | ex m c =>
  cases e4;refine thn (nU (Q:=λ_ _=>False) G hr hb hd (λe s' hx=>e2 σ ah H s e s' I hx) I r ⟨H,⟨F.F,[]⟩,[],as++ds,_,h',R.c.pure,full,b3,hl,e3,λcls F' H' D hc=>?_⟩) (by rintro v s3 ⟨_,_,_,_,z⟩;exact z.elim)
  obtain⟨R3,g3⟩:=R.back (bT.refl _) D;exact⟨hc,_,R3,g3⟩
noncomputable def JS(C:Str)(n:Nat)(g:jw)(as:List PV):Gx PV:=λst=>if as.length+1=n then(g (.ref st.h.length::as) (st.h++[⟨.ins C [],[]⟩])).bind λr=>match r with
 | (.ok .aL,h')=>some (.ok (.ref st.h.length),⟨st.ρ,h'⟩)
 | _=>none else none
def Qg(C:Str)(n:Nat)(g:jw)(ts:Gx (List PV)):Gx PV:=bnd ts (JS C n g)
variable {C:Str} {Ca:Addr}
def Bg(hC:ClsAt X.K C (.ref Ca))(c:qN X.K Ca)(h:tE X af ag (Qg C n g ts) σ H Q):Aw Ca (r9 X.K n g) [] E0 (tA X af ag ts) σ H Q:=by
 obtain⟨F,st,R,h⟩:=h;refine⟨F,st,R,h.bnd λas vs F1 st1 H1 R1 g1 b1 h1 y dx hy hdx hne=>?_⟩
 obtain⟨q,e1,e2⟩:=h1;obtain⟨hl,e1⟩:=bL e1;obtain⟨r,e3,e4⟩:=aK e1;have XA:cy H1 dx (.own y) y=none:=by rw[aH hne.symm];exact hy
 have up:bT H1 (cy H1 dx (.own y)):=ee hdx;have R2:Rep X.K af ag F1 st1 σ (cy H1 dx (.own y)):=R1.after (F':=F1) up (bT.refl _) rfl (R1.sub.trans up) λ_ _ z=>.inl z
 obtain⟨C2,g2,hm⟩:=R2.c.alloc (c:=⟨.ins C [],[]⟩) (o:=.ins Ca dx []) (vs:=[]) XA ⟨Ca,dx,[],hC,c,(λ_ z=>nomatch z),aA,rfl,rfl⟩ .nil
 obtain⟨C3,full⟩:=C2.enter;have b2:ax X.K ⟨F1.F,F1.μ++[y]⟩ (.ref st1.h.length::as) (.ref y::vs):=.cons (cR.mpr ⟨y,hm,rfl⟩) (b1.mono g2)
 match r,e4 with
 | (.ok .aL,h'),e4 =>
  cases e4;exact⟨_,_,_,.ref st1.h.length::as,_,h',C3,full,by rw[cX];exact b2,by grind,e3,λv F' H' D b'=>⟨cG.mp b',e2 _ H' F' ⟨C2.leave D,(R2.l.mono g2).mono D.base⟩ (g2.trans D.base) (cR.mpr ⟨y,D.base.m _ _ hm,rfl⟩)⟩⟩
 | (.ok (.bl _),_),e4=>cases e4
 | (.ok (.int _),_),e4=>cases e4
 | (.ok (.str _),_),e4=>cases e4
 | (.ok (.ref _),_),e4=>cases e4
 | (.ok (.fn _),_),e4=>cases e4
 | (.ok (.nd _ _),_),e4=>cases e4
 | (.ex _ _,_),e4=>cases e4
end
def FE{X:Cx}{af:Hp}{ag:Fz}{C:Str}{Ca:Addr}{n:Nat}{g:jw}(hC:ClsAt X.K C (.ref Ca))(c:qN X.K Ca)(h:tE X af ag (Qg C n g (cf [])) σ H Q):Aw Ca (r9 X.K n g) [] E0 MR σ H Q:=by
 have:=Bg hC c h;obtain⟨F,st,R,h1⟩:=this;exact Tx.cf h1 [] H F R (Gr.refl _) .nil
theorem S8{prog:Program}{w:World}{C:Addr}{hh:Heap}:W.Looks (model prog w) ((hh.push W.emptyDict).push (W.instObj C hh.objs.size)) (typeOf (.ref (hh.objs.size+1))) (.ref C):=by
 have e2:((hh.push W.emptyDict).push (W.instObj C hh.objs.size)).get? (hh.objs.size+1)=some (W.instObj C hh.objs.size):=by
  have:=bu (hh.push W.emptyDict) (o:=W.instObj C hh.objs.size) rfl
  rwa [dz]at this
 exact W.Looks.andThen (W.Looks.ld e2) W.Looks.now
theorem S9{prog:Program}{w:World}{C:Addr}{hh:Heap}(Y:W.Makes (model prog w) hh C):W.Looks (model prog w) ((hh.push W.emptyDict).push (W.instObj C hh.objs.size)) (isInstance (.ref (hh.objs.size+1)) (.type "object")) true:=by
 exact W.Looks.andThen S8 (W.Looks.keeps Y.top λb o e=>aE _ (aE _ e))
set_option maxHeartbeats 4000000 in
theorem Ta{prog:Program}{w:World}{A:Around}{s:Shared}{x:Addr}{R:Result->Shared->Prop}(t2:W.Looks (model prog w) s.heap (isInstance (.ref x) (.type "object")) true)
  (h:R (.ok (.ret (.ref x))) s):codeAny (model prog w) A (.call (.builtin "object.__init__") ⟨[.ref x],[]⟩) (W.InitBack x R) s:=by
 refine codeAny_call_builtin W.oi_plain W.entry_oi ?_;refine W.check_slot W.oi_kind W.oi_split t2 (W.oi_args _) ?_;rw[W.oi_run];exact ak ⟨rfl,h⟩
theorem FF{prog:Program}{w:World}{A:Around}{K:W.Frag}{C:Addr}{s:Shared}{R:Result->Shared->Prop}(X:K.In s.heap)(hm:W.makesIn K C=true)(hi:W.findIn K (.ref C) "__init__"=some (some (.builtin "object.__init__")))
  (h:R (.ok (.ret (.ref (s.heap.objs.size+1)))) {s with heap:=(s.heap.push W.emptyDict).push (W.instObj C s.heap.objs.size)}):codeAny (model prog w) A (.call (.ref C) ⟨[],[]⟩) R s:=by
 obtain⟨hh,g,d,t,os⟩:=s;have Y:=W.makes_of (M:=model prog w) X hm;exact W.make_core Y (W.looks_findIn X hi) (λself=>W.Looks.of_pure (W.oi_bind self)) (.inr ⟨rfl,rfl⟩) (Ta (S9 Y) h)
def XB(C:Str):Gx PV:=hZ ⟨.ins C [],[]⟩
section
variable {X:Cx} {af:Hp} {ag:Fz} {pos p:Pos} {C x:Str} {Ca:Addr}
def Tb(M:UW X.K Ca)(hC:ClsAt X.K C (.ref Ca))(c:qN X.K Ca)(hg:Gl X x)(hm:X.mg x=some (.ref Ca))(vK:(x==("__debug__":Str))=false):PE X (.Call (.Name x p) [] [] pos) (tE X af ag (XB C)):=by
 rintro ah s σ H Q I ⟨F,st,R,h⟩
 refine gR (ld_glob I hg hm ?_ vK);refine W.callWith_K0 I.mh M.kp (wpAny_call (FF I.mh M.makes M.init ?_));have I2:=Inv.made (C:=Ca) I;have hd:H s.heap.objs.size=none:=I.hok.fresh (az _);have hx:H (s.heap.objs.size+1)=none:=I.hok.fresh (Nat.le_succ _);have hne:s.heap.objs.size≠s.heap.objs.size+1:=aZ (lV _);have XA:cy H s.heap.objs.size (.own (s.heap.objs.size+1)) (s.heap.objs.size+1)=none:=by rw[aH (bR hne)];exact hx
 have up:bT H (cy H s.heap.objs.size (.own (s.heap.objs.size+1))):=ee hd;have R2:Rep X.K af ag F st σ (cy H s.heap.objs.size (.own (s.heap.objs.size+1))):=R.after (F':=F) up (bT.refl _) rfl (R.sub.trans up) λ_ _ z=>.inl z
 exact⟨.ref (s.heap.objs.size+1),_,I2,rfl,Tx.hZ (o:=.ins Ca s.heap.objs.size []) (vs:=[]) h R2 XA ⟨Ca,s.heap.objs.size,[],hC,c,(λ_ z=>nomatch z),aA,rfl,rfl⟩ .nil⟩
end
noncomputable def Tc(o:Expr)(env:Env):Sem Bool:=do
 let b <-importBound o env
 pure (b.getD true)
theorem sv{o:Expr}{m:Str}{dW cp:Pos}{args:List Expr}{env:Env}(hb:attributeBase o m env (eval o env)=eval o env)
  (hf:((backTo cp (starEach args env)).all (λx=>!x.1)&&(backToKw cp (keywordEach [] env)).all (λx=>x.1.isSome)&&decide (args.length+([]:List Keyword).length+(if([]:List Keyword).isEmpty then 0 else 1)<30))=true)
  (hl:(dW.endLine==cp.line)=true):eval (.Call (.Attribute o m dW) args [] cp) env=(do
   let ov <-eval o env
   standAt dW.atName
   let (f,first) <-holding [ov] (getMethod ov m (Tc o env))
   callWith cp f first (backTo cp (starEach args env)) (backToKw cp (keywordEach [] env))):=by
 rw[arm_eval_Call,hb];have e1:methodCallForm (args.length+([]:List Keyword).length) (backTo cp (starEach args env)) (backToKw cp (keywordEach [] env))=true:=by
  unfold methodCallForm;rw[aF]at hf ⊢;exact⟨hf.1,hf.2⟩
 have e2:methodCallPos true o env dW cp=pure cp:=by
  unfold methodCallPos;rw[hl];rfl
 unfold methodCall;simp only[e1,e2];unfold calleeOf;simp only[if_pos];rfl
theorem eX{α β:Type} [BEq α] [LawfulBEq α] {k:α} {v:β}:∀{l:List (α×β)},l.lookup k=some v->(k,v)∈l
 | [],h=>by cases h
 | (a,b)::l,h=>by
  rw[cW]at h;cases z:k==a with
  | true =>
   rw[z]at h;cases h;rw[aR z];exact dj
  | false =>
   rw[z]at h;exact cH _ (eX h)
def JT(h:List aj)(p:PV)(m:Str):Option Str:=match cE h p with
 | some (.ins C ns,_)=>if ns.contains m=true then none else some C
 | _=>none
abbrev Td:=List ((Str×Str)×(Str×Nat))
noncomputable def sx(mt:Td)(m:Str):List (Str×(Str×Nat)):=(mt.filter λd=>d.1.2==m).map λd=>(d.1.1,d.2)
def JU(L:List (Str×(Str×Nat)))(m:Str)(p:PV)(h:List aj):Option (Str×Nat):=(JT h p m).bind λC=>L.lookup C
theorem sy{mt:Td}{m C:Str}{y:Str×Nat}(h:(sx mt m).lookup C=some y):((C,m),y)∈mt:=by
 obtain⟨d,hd,e⟩:=dC.mp (eX h);obtain⟨h1,h2⟩:=yD.mp hd;cases e;rw[<-aR h2];exact h1
def CO(L:List (Str×(Str×Nat)))(call:Str->jw)(m:Str)(fo:Gx PV)(ts:Gx (List PV)):Gx PV :=
 bnd fo λp=>bnd (hp (JU L m p)) λq=>bnd ts λas=>gD q.2 (call q.1) (p::as)
def uV(X:Cx)(mt:Td)(call:Str->jw):Prop:=∀C m y,((C,m),y)∈mt->∃j f fd ps Ca,ClsAt X.K C (.ref Ca)/\DC X.K Ca m f/\FnOk X.prog X.w X.K X.mg X.base (gE X.prog X.w) j f fd ps (r9 X.K y.2 (call y.1))/\cN j X.A/\cz X.K fd ps []
section
variable {X:Cx} {af:Hp} {ag:Fz} {e o:Expr} {es:List Expr} {ts:Gx (List PV)} {fo:Gx PV} {pos p dW cp:Pos} {m:Str} {mt:Td} {call:Str->jw}
def Ow(hM:uV X mt call)(ho:PE X o (tE X af ag fo))(ha:PA X (e::es) (tA X af ag ts))(hb:attributeBase o m X.env (eval o X.env)=eval o X.env)
  (hf:((backTo cp (starEach (e::es) X.env)).all (λx=>!x.1)&&(backToKw cp (keywordEach [] X.env)).all (λx=>x.1.isSome)&&decide ((e::es).length+([]:List Keyword).length+(if([]:List Keyword).isEmpty then 0 else 1)<30))=true)
  (hl:(dW.endLine==cp.line)=true) (qO:starEach (e::es) X.env=(false,eval e X.env)::starEach es X.env) (oW:(backTo cp (starEach es X.env)).any (·.1)=false) :
  PE X (.Call (.Attribute o m dW) (e::es) [] cp) (tE X af ag (CO (sx mt m) call m fo ts)):=by
 rintro ah s σ H Q I ⟨F,st,R,h⟩
 refine mT ho I ⟨F,st,R,h.bnd λq v F1 st1 H1 R1 g1 b1 h1=>?_⟩ (sv hb hf hl)
 obtain⟨⟨key,n⟩,e1,z⟩:=At.hp (At.bnd h1);obtain⟨C,e2,e4⟩:=aK e1;unfold JT at e2;split at e2
 ·rename_i D ns ps hd;split at e2
  ·cases e2
  ·rename_i Eu;cases e2;obtain⟨a,vs,rfl,⟨Ca,dx,fs,k1,k2,k3,k4,k5,k6⟩,k7⟩:=R1.at hd b1;obtain⟨j,f,fd,uz,Cb,m1,m2,m3,m4,m5⟩:=hM _ _ _ (sy e4);have eC:Ca=Cb:=by
    have:=k1.symm.trans m1;cases this;rfl
   subst eC;refine⟨a,Ca,dx,fs,f,rfl,k4,k2,m2,?_,λs1 I1=>?_⟩
   ·cases hl:fs.lookup m with
    | none=>rfl
    | some w =>
     exact absurd (by rw[<-k5];simpa using yh (f:=λy:Str×V=>y.1) (eX hl)) Eu
   ·have z:Tx X af ag (aU X.K) F1 st1 (bnd ts λas=>gD n (call key) (q::as)) σ Q:=z
    refine W.callWith_K (first:=[.ref a]) (h₀:=X.base) I1.ok.mod.kin m2.kp (thn (ha cp ah s1 σ H1 (λvs H2=>∃F2 dh as,Rep X.K af ag F2 dh σ H2/\ax X.K F2 as vs/\Gr F1 F2/\Tx X af ag (aU X.K) F2 dh (gD n (call key) (q::as)) σ Q) I1
     ⟨F1,st1,R1,z.bnd λas vs F2 dh H2 R2 g2 b2 h2=>⟨F2,dh,as,R2,b2,g2,h2⟩⟩) (by
      rintro us s2 ⟨ws,H2,I2,r,F2,dh,as,R2,b2,g2,z⟩
      exact⟨I2.mh,N0 m3 m4 m5 _ _ _ _ _ _ _ _ _ (q::as) (.ref a::us) (.ref a::ws) I2 R2 (.cons (b1.mono g2) b2) (.cons rfl r) z⟩)) qO oW
 ·cases e2
def JV(hM:uV X mt call)(ho:PE X o (tE X af ag fo))(hb:attributeBase o m X.env (eval o X.env)=eval o X.env)(hl:(dW.endLine==cp.line)=true) :
  PE X (.Call (.Attribute o m dW) [] [] cp) (tE X af ag (CO (sx mt m) call m fo (cf []))):=by
 rintro ah s σ H Q I ⟨F,st,R,h⟩
 refine mT ho I ⟨F,st,R,h.bnd λq v F1 st1 H1 R1 g1 b1 h1=>?_⟩ (sv hb rfl hl)
 obtain⟨⟨key,n⟩,e1,z⟩:=At.hp (At.bnd h1);obtain⟨C,e2,e4⟩:=aK e1;unfold JT at e2;split at e2
 ·rename_i D ns ps hd;split at e2
  ·cases e2
  ·rename_i Eu;cases e2;obtain⟨a,vs,rfl,⟨Ca,dx,fs,k1,k2,k3,k4,k5,k6⟩,k7⟩:=R1.at hd b1;obtain⟨j,f,fd,uz,Cb,m1,m2,m3,m4,m5⟩:=hM _ _ _ (sy e4);have eC:Ca=Cb:=by
    have:=k1.symm.trans m1;cases this;rfl
   subst eC;refine⟨a,Ca,dx,fs,f,rfl,k4,k2,m2,?_,λs1 I1=>?_⟩
   ·cases hl:fs.lookup m with
    | none=>rfl
    | some w =>
     exact absurd (by rw[<-k5];simpa using yh (f:=λy:Str×V=>y.1) (eX hl)) Eu
   ·have z:Tx X af ag (aU X.K) F1 st1 (gD n (call key) [q]) σ Q:=At.cf (At.bnd z);exact W.callWith_K0 (first:=[.ref a]) I1.mh m2.kp (N0 m3 m4 m5 _ _ _ _ _ _ _ _ _ [q] [.ref a] [.ref a] I1 R1 (.cons b1 .nil) (.cons rfl .nil) z)
 ·cases e2
end
def FG(f:Str)(p:PV)(h:List aj):Option (Str×PV):=match cE h p with
 | some (.ins C ns,ps)=>(wI f ns ps).map λq=>(C,q)
 | _=>none
def p8(h:List aj)(p:PV)(C:Str):Bool:=match i8 h p with
 | some (_,⟨.ins D _,_⟩)=>C==D
 | _=>false
def FH(cls flds:List Str)(f:Str)(g:G2)(fo fv:Gx PV):Gx dE:=bnd fo λp=>bnd (hp (FG f p)) λx=>bnd fv λy=>bnd (hp λh=>g h x.2 y) λz=>stp λst=>if p8 st.h p x.1=true then eW cls flds f p z st else none
section
variable {X:Cx} {af:Hp} {ag:Fz} {e o:Expr} {fo fv:Gx PV} {pos pj:Pos} {f:Str} {g:G2} {op:Operator}
def Ox{cls flds:List Str}(hc:wJ X.K cls flds)(ho:PE X o (tE X af ag fo))(he:PE X e (tE X af ag fv))(hop:nP X (inplaceOp op) g):PS X (.AugAssign (.Attribute o f pj) op e pos) (tS X af ag (FH cls flds f g fo fv)) :=
 (CN (rd:=rT X.K g) ho he (λah s σ H x y u v Q I r1 r2 t=>hop ah s σ H x y u v Q I r1 r2 t)).imp λD σ H ⟨F,st,R,h⟩=>⟨F,st,R,h.bnd λpo v F1 st1 H1 R1 g1 b1 h1=>by
  obtain⟨r,e1,e2⟩:=At.bnd h1;obtain⟨q,e3,e4⟩:=aM e1;subst e4;have h2:Sa X af ag F1 D st1 (bnd fv λy=>bnd (hp λh=>g h q.2 y) λz=>stp λst=>if p8 st.h po q.1=true then eW cls flds f po z st else none):=e2
  unfold FG at e3;split at e3
  ·rename_i C ns ps hd;obtain⟨q',Te,rfl⟩:=aM e3;obtain⟨a,vs,rfl,⟨Ca,dx,fs,k2,k3,k4,k5,k6,k7⟩,k8⟩:=R1.at hd b1;subst k6 k7;obtain⟨hm,w,hl,bw⟩:=pX Te k8;refine⟨a,Ca,dx,fs,w,rfl,k5,k3,k4 f hm,hl,F1,st1,R1,h2.bnd λpy y F2 dh H2 R2 g2 b2 h3=>?_⟩
   obtain⟨r,e5,e6⟩:=At.bnd h3;obtain⟨pz,e7,e8⟩:=aM e5;subst e8;have h4:Sa X af ag F2 D dh (stp λst=>if p8 st.h po C=true then eW cls flds f po pz st else none):=e6
   refine⟨af,ag,F2,dh,σ,q',py,pz,e7,R2,bw.mono g2,b2,λz H3 F3 R3 g3 b3=>?_⟩
   obtain⟨st',e9,z9⟩:=h4.stp;obtain⟨hC,e9⟩:=bL e9;obtain⟨a',Cb,S4,KJ,k1,m1,m2,m3,m4,m5,m6⟩:=ei hc R3 b1 (g2.trans g3) b3 e9;cases k1;have eCC:Ca=Cb:=by
    unfold p8 at hC;split at hC
    ·rename_i h;cases aR hC;cases k2.symm.trans (m6 _ _ _ _ h rfl);rfl
    ·cases hC
   subst eCC;exact⟨S4,KJ,m1,Nat.le_add_left_of_le m4,z9 F3 σ _ m5 g3⟩
  ·cases e3⟩
end
noncomputable def p9:MG:=λc as=>match c.k,as with
 | .lst,[]=>(c.ps[c.ps.length-1]?).map λp=>(⟨.lst,c.ps.dropLast⟩,p)
 | _,_=>none
section
variable {X:Cx} {af:Hp} {ag:Fz} {e o:Expr} {fo fv:Gx PV} {dW hJ:Pos}
theorem ax.dropLast{K:W.Frag}{F:Fz}{ps:List PV}{vs:List V}(h:ax K F ps vs):ax K F ps.dropLast vs.dropLast:=by
 rw[List.dropLast_eq_take,List.dropLast_eq_take,h.length];exact h.take _
def FI:ER X.K Lq p9:=by
 intro af H ag F st σ n c c' a as ws q Q R hc hl ha hg hb k;unfold p9 at hg;split at hg
 ·rename_i hk;obtain⟨p,e1,e2⟩:=aM hg;cases e2;obtain⟨_,vs,h2,h3⟩:=R.c.cell n c a hc ha hl;rw[hk]at h2;obtain⟨v,e3,b3⟩:=h3.get e1;exact⟨a,vs,v,rfl,hb.b7,h2,by rw[<-h3.length];exact e3,k v F _ (R.put hc hl ha aA h3.dropLast) (Gr.refl _) b3⟩
 ·cases hg
def Oy(ho:PE X o (tE X af ag fo))(kP:attributeBase o "pop" X.env (eval o X.env)=eval o X.env)(kQ:(dW.endLine==hJ.line)=true) :
  PE X (.Call (.Attribute o "pop" dW) [] [] hJ) (tE X af ag (Hv "list" (iD p9) fo (cf []))) :=
 (M4 xW PySem.F.slot_list_pop PySem.F.type_list_pop JR ho kP kQ).imp λ_ _ _ h=>Jx (Fe FI) h
end
section
variable {X:Cx} {af:Hp} {ag:Fz} {body:List Stmt} {hd:ExceptHandler} {hs:List ExceptHandler} {pos:Pos} {f:Gx dE}
def qa(m n:Nat)(g:jw)(ds as:List PV):Gx PV:=λst=>if((m==0)&&(st.h.isEmpty || ao as))=true then jb n g (as++ds) st else gD n g (as++ds) st
variable {k n:Nat} {fa:Addr} {fd:FuncData} {ps:List Str} {g:jw} {ds:List PV} {iS:List V} {oS:List Value}
def Tf{m:Nat}(G:FnOk X.prog X.w X.K X.mg X.base (gE X.prog X.w) k fa fd ps (r9 X.K n g))(hr:cN k X.A)(hb:cz X.K fd ps oS)(hd:Vals iS oS)(bd:∀F,ax X.K F ds iS):zk X fa (qa m n g ds):=by
 rintro af H ag F st σ ah s Q as us vs I R b r ⟨q,e1,e2⟩
 unfold qa at e1;split at e1
 ·exact S7 G hr hb hd bd af H ag F st σ ah s Q as us vs I R b r ⟨q,e1,e2⟩
 ·exact S5 G hr hb hd bd af H ag F st σ ah s Q as us vs I R b r ⟨q,e1,e2⟩
end
section
variable {X:Cx} {af:Hp} {ag:Fz} {ke ve:Expr} {fk fv:Gx PV} {pos:Pos}
def FJ(po pi pv:PV):bP->Option bP:=λst=>(i8 st.h po).bind λc=>match c.2.k with
 | .dt true ks=>(eU true pi).bind λk=>if ks.length<gF then some ⟨st.ρ,st.h.set c.1 (ib true k pv ks c.2.ps)⟩else none
 | _=>none
def Th(fk fv:Gx PV):Gx PV:=bnd (Jy true) λp=>bnd fk λk=>bnd fv λv=>λst=>(FJ p k v st).map λs=>(.ok p,s)
def JW{ah:List (Addr×Obj)}{s:Shared}{σ:St}{H:Hp}{a b:Addr}{xs:List ((bG×List bG)×Addr×Value)}{k:bG×List bG}{r:Value}{A:Around}{E:Value->Shared->Prop}{Q:Unit->Shared->Prop}(hu:A.units+1<cLine)(I:Inv X ah σ H s)(e:H a=some (.dT xs))(hk:eJ X.K H xs)(eb:Dk X.K H b k)(hl:xs.length<sizeLine)
  (h:∀s',Inv X ah σ (cy H a (.dT (storedH xs k b r))) s'->Q () s'):wpAny (model X.prog X.w) A (dictSet a (.ref b) r) Q E s:=by
 obtain⟨_,hd,dd⟩:=rP I (.inl e) hk;refine wpAny_dictSet_heap (hsz:=oO hl) (show(iX (cP X.prog X.w)).room A from hu) (key_is I eb) dd λh' Qa hs=>h _ ?_
 obtain⟨q,es,ep,hq,h2,h3,h4,_,h5⟩:=Qa;exact I.write (x:=a) (e:=a) (by rw[e];exact True.intro) (.inl rfl) (λc q' hc z=>(hs.2 c hc).trans z) ⟨q,hq⟩ ⟨(by have:=pC xs k b r;lia),hd,q,es,ep,hq,h2,h3,h4,h5⟩
def Oz(hu:X.A.units+1150<cLine)(hk:PE X ke (tE X af ag fk))(hv:PE X ve (tE X af ag fv)):PE X (.Dict [some ke] [ve] pos) (tE X af ag (Th fk fv)):=by
 rintro ah s σ H Q I ⟨F,st,R,h⟩
 refine wpAny_Dict_any rfl rfl (by simp) (by show 1<=15;decide) ?_
 have hp:H s.heap.objs.size=none:=I.hok.fresh (az _);have h0:=Tx.hZ (p:=s.heap.objs.size) (o:=.dT []) (vs:=[]) (Q:=λv H1=>∃F1 st1 pp,Rep X.K af ag F1 st1 σ H1/\aU X.K F1 pp v/\Tx X af ag (aU X.K) F1 st1 (bnd fk λk=>bnd fv λv=>λst=>(FJ pp k v st).map λs=>(.ok pp,s)) σ Q)
  (h.bnd λpp v F1 st1 H1 R1 g1 b1 h1=>⟨F1,st1,pp,R1,b1,h1⟩) R hp ⟨[],aA,(λ_ z=>nomatch z),rfl,.nil⟩ .nil
 have I1:=I.laid (a:=s.heap.objs.size) (o:=.dT []) (t':=s.toks) (λ_ _ q=>aE _ q) (az _)
  ⟨gV _,eA.mpr (bR (aZ (kU I))),_,#[],0,bu s.heap (o:={cls:=.type "dict",data:=.dict #[]}) rfl,⟨rfl,rfl,rfl⟩,rfl,rfl,oI⟩
 obtain⟨F1,st1,pp,R1,b1,h1⟩:=h0;refine pairTrees_cons_walk (j3 (hk ah _ σ _ (λx H2=>∃F2 dh pk,Rep X.K af ag F2 dh σ H2/\Gr F1 F2/\aU X.K F2 pk x/\Tx X af ag (aU X.K) F2 dh (bnd fv λv=>λst=>(FJ pp pk v st).map λs=>(.ok pp,s)) σ Q) I1 ⟨F1,st1,R1,h1.bnd λpk x F2 dh H2 R2 g2 b2 h2=>⟨F2,dh,pk,R2,g2,b2,h2⟩⟩) ?_ λ_ _ e=>e)
 rintro kv s2 ⟨x,H2,I2,rx,F2,dh,pk,R2,g2,b2,h2⟩
 refine j3 (hv ah _ σ _ (λy H3=>∃F3 vB pv,Rep X.K af ag F3 vB σ H3/\Gr F2 F3/\aU X.K F3 pv y/\Tx X af ag (aU X.K) F3 vB (λst=>(FJ pp pk pv st).map λs=>(.ok pp,s)) σ Q) I2 ⟨F2,dh,R2,h2.bnd λpv y F3 vB H3 R3 g3 b3 h3=>⟨F3,vB,pv,R3,g3,b3,h3⟩⟩) ?_ λ_ _ e=>e
 rintro vv s3 ⟨y,H3,I3,ry,F3,vB,pv,R3,g3,b3,h3⟩
 refine pairTrees_nil_walk ?_;have b1:=b1.mono (g2.trans g3);have b2:=b2.mono g3;obtain⟨r,e7,z⟩:=h3;obtain⟨Dp,e8,rfl⟩:=aM e7;clear e7;obtain⟨⟨n,c⟩,e1,e6⟩:=aK (show((i8 vB.h pp).bind λc=>match c.2.k with
  | .dt true ks=>(eU true pk).bind λk=>if ks.length<gF then some (⟨vB.ρ,vB.h.set c.1 (ib true k pv ks c.2.ps)⟩:bP)else none
  | _=>none)=some Dp from e8)
 clear e8;obtain⟨rfl,hc,hl⟩:=fL e1;obtain⟨a,ha,e9⟩:=cR.mp b1;cases e9;obtain⟨_,vs,g4,g5⟩:=R3.c.cell n c _ hc ha hl;split at e6
 ·rename_i ks hk;have hk:=hk;obtain⟨kk,e2,e5⟩:=aK e6;obtain⟨hz,rfl⟩:=aC e5;rw[hk]at g4;obtain⟨xs,q1,q2,q3,q4⟩:=g4;obtain⟨cc,rfl,Mj⟩:=i7 e2 b2;cases rx;unfold storeAll;rw[lX];refine ai (ai (JW (by lia) I3 q1 (λz hz=>dJ R3.sub (q2 z hz)) (dJ R3.sub Mj) (by
    have:ks.length=xs.length:=by grind
    exact bQ (by grind) (dD (az _))) λs4 I4=>ak ?_))
  dsimp only
  rw[oH];obtain⟨lN,uz,vD,p1,p2,p3,p4,p5⟩:=EN b3 ry Mj q2 g5 q4;rw[q3]at p1;refine ak ⟨.ref s.heap.objs.size,_,I4,rfl,z _ _ _ ?_ (Gr.refl _) (cR.mpr ⟨_,ha,rfl⟩)⟩;simp only[p1];exact R3.put hc hl ha ⟨_,aA,p3,p2,p5⟩ p4
 ·cases e6
end
section
variable {X:Cx} {af:Hp} {ag:Fz} {e:Expr} {fe:Gx PV} {pos p:Pos}
def Ti(h:List aj)(p:PV):Option (List PV):=match p with
 | .nd .aq ps=>some ps
 | p=>ny h p
def JX(m:Nat)(fe:Gx PV):Gx PV:=bnd fe λp=>bnd (hp λh=>Ti h p) λps=>ki m ps
def OA(SN:Gl X "list")(SO:X.mg "list"=none)(he:PE X e (tE X af ag fe))(hs:∀es,starEach (e::es) X.env=(false,eval e X.env)::starEach es X.env):PE X (.Call (.Name "list" p) [e] [] pos) (tE X af ag (JX m fe)):=by
 rintro ah s σ H Q I ⟨F,st,Rp,h⟩
 refine gR (ld_blt I SN SO (ia .list) ?_ (by decide) (by decide))
 refine gw (A7 (hs []) ?_) (hs []) rfl;have hA:=he ah s σ H (λv H'=>∃F' st' q,Rep X.K af ag F' st' σ H'/\aU X.K F' q v/\Tx X af ag (aU X.K) F' st' (bnd (hp λh=>Ti h q) λps=>ki m ps) σ Q) I ⟨F,st,Rp,h.bnd λq v F1 st1 H1 R1 g1 b1 h1=>⟨F1,st1,q,R1,b1,h1⟩⟩
 refine thn hA λu s1 z9=>?_
 obtain⟨x,H1,I1,r1,F1,st1,q,R1,b1,h1⟩:=z9;obtain⟨ps,f2,h1⟩:=At.hp (At.bnd h1);unfold Ti at f2;split at f2
 ·cases f2;obtain⟨a,vs,rfl,ha,fK⟩:=bF.mp b1;cases r1;obtain⟨aw,rv,⟨o,ho,hc,n,hd⟩,hz⟩:=I1.tuple (cC R1.sub ha);refine call_list_seq (hsz:=by rw[bW,<-rv.length];exact hz) a (.inr rfl) ho hc hd λh' c' hk hS=>?_
  exact⟨.ref s1.heap.objs.size,cy H1 s1.heap.objs.size (.lst vs),I1.laid hk (az _) ⟨hz,aw,c',rv,hS⟩,rfl,Tx.ki h1 R1 (I1.hok.fresh (az _)) fK⟩
 ·obtain⟨a,vs,rfl,ha,fK⟩:=R1.at (dS f2) b1;cases r1;obtain⟨aw,rv,⟨o,n,ho,hc,Vl,hd⟩,hz⟩:=I1.list (gZ.sq ha);refine call_list_seq (hsz:=by rw[bW,<-rv.length];exact hz) a (.inl rfl) ho hc hd λh' c' hk hS=>?_
  exact⟨.ref s1.heap.objs.size,cy H1 s1.heap.objs.size (.lst vs),I1.laid hk (az _) ⟨hz,aw,c',rv,hS⟩,rfl,Tx.ki h1 R1 (I1.hok.fresh (az _)) fK⟩
end
structure Gm where
 sc:List (Str×NameKind)
 N:List Str
 own:Bool
 fns:List (Str×Nat)
 call:Str->jw
 cons:List (Str×PV)
 cY:List Str
 tabs:List (Str×List (Str×Str))
 d7:List (Str×List (Str×PV))
 cls:List (Str×Nat)
 make:Str->jw
 clss:List Str
 flds:List Str
 /-- what OB in a cell: 1 a list,2 a list of cells,10 a dict KA keys VC tuples -/
 Qu:List (Str×Nat)
 FK:Option ((PV->Gx PV)->Nat->jw)
 FL:Option (Nat×(PV->Gx PV))
 /-- Vq: class,name -> key,params -/
 Hx:Td
 /-- what OB XC HE given args -/
 jo:List (Str×List PV)
 /-- classes without __init__ -/
 vA:List Str
noncomputable def slot(Γ:Gm)(x:Str):Option Nat:=Γ.N.findIdx? (· == x)
noncomputable def P6(Γ:Gm)(x:Str):Bool:=match Γ.sc.lookup x with | some .local=>true | some .cell=>true | some .free=>true | _=>false
noncomputable def Qh(Γ:Gm)(x:Str):Bool:=match Γ.sc.lookup x with | some .local=>true | some .cell=>Γ.own | _=>false
noncomputable def uW(Γ:Gm)(x:Str):Bool:=match Γ.sc.lookup x with | some .globalImplicit=>true | _=>false
noncomputable def ig(x:Str):Bool:=!(x==("__debug__":Str))&&!(x==("__classdict__":Str))&&!(x==("__name__":Str))
noncomputable def md(Γ:Gm)(x:Str):Nat:=(Γ.Qu.lookup x).getD 0
noncomputable def CP(m:Nat):Nat:=if m<10 then m-1 else m-20
noncomputable def ZK(m:Nat):Bool:=m != 0&&Nat.blt m 20
def Lr(X:Cx)(fns:List (Str×Nat))(call:Str->jw)(jo:List (Str×List PV)):Prop:=∀x ds n,jo.lookup x=some ds->fns.lookup x=some n->∃j f fd ps iS oS,FnOk X.prog X.w X.K X.mg X.base (gE X.prog X.w) j f fd ps (r9 X.K n (call x))/\cN j X.A/\X.mg x=some (.ref f)/\W.keepIn X.K (.ref f)=true/\Vals iS oS/\(∀F,ax X.K F ds iS)/\cz X.K fd ps oS
def Tj(X:Cx)(k:Nat)(fns:List (Str×Nat))(call:Str->jw):Prop:=∀x n,fns.lookup x=some n->∃j f fd ps,j<=k/\FnOk X.prog X.w X.K X.mg X.base (gE X.prog X.w) j f fd ps (r9 X.K n (call x))/\X.mg x=some (.ref f)/\W.keepIn X.K (.ref f)=true/\cz X.K fd ps []
structure Ls (Γ:Gm) (X:Cx) (rs:(PV->Gx PV)->Nat->jw):Prop where
 ex:∃(st:Stmt) (fs:Addr) (ZL:FuncData) (pr Ns:List Str) (k:Nat) (rb:(PV->Gx PV)->Nat->Gx dE),rs=(λω n=>gj (rb ω n) Ns.length)/\KC X.K "spread" "spread" st fs ZL/\X.mg "spread"=some (.ref fs)/\cz X.K ZL pr []/\cA Ns pr (ar st)/\pr.length=2/\cN (k+2) X.A /\
  (∀(cF:Value) (A:Around) (aB:List Env) (s:Shared) (H:Hp) (E:XK) (af:Hp) (ag:Fz) (n:Nat) (ω:PV->Gx PV),cN (k+1) (A.deeper (envOfC "spread" (ar st) s.heap.objs.size fs cF))->Fj (ek (gE X.prog X.w) X.prog X.w X.K X.mg X.base Ns "spread" (ar st) fs cF A aB s H E) af ag n ω ->
   PSs (ek (gE X.prog X.w) X.prog X.w X.K X.mg X.base Ns "spread" (ar st) fs cF A aB s H E) (bO st) (tS (ek (gE X.prog X.w) X.prog X.w X.K X.mg X.base Ns "spread" (ar st) fs cF A aB s H E) af ag (rb ω n))) /\
  Tj X k Γ.fns Γ.call
 lam:SH X
structure GOk (Γ:Gm) (X:Cx) (af:Hp) (ag:Fz):Prop where
 names:X.env.scope.names=Γ.sc
 N:X.N=Γ.N
 nd:X.N.Nodup
 kind:X.env.scope.kind=.function
 calm:X.calm=true
 hd:X.A.handled=none
 un:X.A.units+1150<cLine
 own:Γ.own=true->∀x,X.fn x=true
 fns:Lh X Γ.fns Γ.call
 cons:∀x p,Γ.cons.lookup x=some p->∃u v,X.mg x=some u/\RelV v u/\∀F,aU X.K F p v
 cY:∀x,Γ.cY.contains x=true->X.mg x=none
 tabs:∀T rows,Γ.tabs.lookup T=some rows->A4 X.K X.mg X.w.params T rows
 d7:∀T rows,Γ.d7.lookup T=some rows->uP X.K X.mg X.w.params T rows
 ns:∀x a,W.nsIn X.K mainGlobals x=some (some (.ref a))->X.mg x=some (.ref a)
 OC:wJ X.K Γ.clss Γ.flds
 cls:∀C n,Γ.cls.lookup C=some n->∃k Ca f fd ps,ClsAt X.K C (.ref Ca)/\qN X.K Ca/\Mk X.K Ca f/\FnOk X.prog X.w X.K X.mg X.base (gE X.prog X.w) k f fd ps (r9 X.K n (Γ.make C))/\cN (k+1) X.A/\X.mg C=some (.ref Ca)/\cz X.K fd ps []
 FK:∀rs,Γ.FK=some rs->Ls Γ X rs
 FL:∀n ω,Γ.FL=some (n,ω)->Fj X af ag n ω
 Hx:uV X Γ.Hx Γ.call
 jo:Lr X Γ.fns Γ.call Γ.jo
 vA:∀C,Γ.vA.contains C=true->∃Ca,ClsAt X.K C (.ref Ca)/\qN X.K Ca/\UW X.K Ca/\X.mg C=some (.ref Ca)
noncomputable def aV:Expr->Bool
 | .Starred _ _=>false
 | .Set _ _ _=>false
 | _=>true
noncomputable def nV:Expr->Bool
 | .Slice _ _ _ _=>false
 | _=>true
noncomputable def Bh:Expr->Bool
 | .Tuple _ _ _=>false
 | .ListComp _ _ _ _=>false
 | .SetComp _ _ _ _=>false
 | .DictComp _ _ _ _ _=>false
 | _=>true
noncomputable def jd:Expr->Bool
 | .ListComp _ _ _ _=>false
 | .SetComp _ _ _ _=>false
 | .DictComp _ _ _ _ _=>false
 | _=>true
noncomputable def uX:Expr->Bool
 | .Name _ _=>true
 | .Subscript _ _ _=>true
 | .Attribute _ _ _=>true
 | .Call _ (_::_) _ _=>true
 | _=>false
def jx(h:uX e=true):attributeBase e f env (eval e env)=eval e env:=by
 cases e with
 | Call f as ks=>cases as with
  | nil=>cases h
  | cons=>cases f<;>rfl
 | _=>first | rfl | cases h
def uY(h:Bh e=true):jd e=true:=by
 cases e<;>first | rfl | cases h
noncomputable def zy:Expr->Bool
 | .UnaryOp .Not _ _=>false
 | .BoolOp _ _ _=>false
 | .IfExp _ _ _ _=>false
 | .Compare _ _ _ _=>false
 | _=>true
def bh(h:aV e=true)(es:List Expr)(env:Env):starEach (e::es) env=(false,eval e env)::starEach es env:=by
 cases e<;>first | rfl | cases h
def gu(h:aV e=true)(op:CmpOp):behindInMarks op e=false:=by
 cases e<;>first | rfl | cases h
def f7(h:aV e=true)(env:Env)(x:Value):foldedSetIterable e env x=pure x:=by
 cases e<;>first | rfl | cases h
def qb(h:nV e=true):kN e:=by
 intro o i;cases e<;>first | rfl | cases h
def FN(h:zy e=true)(env:Env)(iw:Sem Value):isTrue e env iw=(do let v <-iw;standAt e.pos;holding [v] (truthy v)):=by
 cases e with
 | UnaryOp op a p=>cases op<;>first | rfl | cases h
 | BoolOp _ _ _=>cases h
 | IfExp _ _ _ _=>cases h
 | Compare _ _ _ _=>cases h
 | _=>rfl
def je(h:jd e=true)(t:Option Expr)(l:Nat)(env:Env):swapsWith e t l env=pure false:=by
 cases e<;>first | rfl | cases h
def eY(h:es.all aV=true)(env:Env)(pos:Pos):(backTo pos (starEach es env)).any (·.1)=false:=by
 induction es with
 | nil=>rfl
 | cons e es ih =>
  rw[gU,aF]at h;rw[bh h.1];exact ih h.2
def zz(h:es.all aV=true)(env:Env)(pos:Pos):(backTo pos (starEach es env)).all (λx=>!x.1)=true:=by
 induction es with
 | nil=>rfl
 | cons e es ih =>
  rw[gU,aF]at h;rw[bh h.1];exact ih h.2
def Bi(h:es.all aV=true)(hl:es.length<30):((backTo cp (starEach es env)).all (λx=>!x.1)&&(backToKw cp (keywordEach [] env)).all (λx=>x.1.isSome)
   && decide (es.length+([]:List Keyword).length+(if([]:List Keyword).isEmpty then 0 else 1)<30))=true:=by
 rw[zz h];simp only[ub,aF,tx];exact⟨rfl,hl⟩
def f9(h:ig x=true):(x==("__debug__":Str))=false/\(x==("__classdict__":Str))=false/\x≠"__name__":=by
 unfold ig at h;simp only[aF,ym]at h;exact⟨h.1.1,h.1.2,by simpa using h.2⟩
noncomputable def uZ:Nat->Gm->Expr->Option (Tg×List Nat)
 | 0,_,_=>none
 | n+1,Γ,e=>match e with
  | .Name x _=>if Qh Γ x=true then(slot Γ x).map λi=>(du i,[i])else none
  | .Tuple es _ _=>(es.foldr (λe r=>(uZ n Γ e).bind λg=>r.map λgs=>(pN g.1 gs.1,g.2++gs.2)) (some (Cj,[]))).map λgs=>(za es.length gs.1,gs.2)
  | _=>none
def FO(h:slot Γ x=some i):Γ.N[i]?=some x:=by
 unfold slot at h;obtain⟨hi,hp,_⟩:=List.findIdx?_eq_some_iff_getElem.mp h;rw[dy hi];exact dm some (aR hp)
section
variable {Γ:Gm} {X:Cx} {x:Str} {pos:Pos} {af:Hp} {ag:Fz}
def GOk.XD(G:GOk Γ X af ag)(h:P6 Γ x=true):QE X.env.scope x:=by
 unfold P6 at h;unfold QE;rw[G.names];split at h<;>simp_all
def GOk.OD(G:GOk Γ X af ag)(h:Qh Γ x=true):KL X.env.scope x/\(X.fn x=true\/X.env.scope.names.lookup x=some .local):=by
 unfold Qh at h;unfold KL;rw[G.names];split at h
 ·grind
 ·rename_i z;exact⟨.inr z,.inl (G.own h x)⟩
 ·cases h
def GOk.gN(G:GOk Γ X af ag)(h:uW Γ x=true):Gl X x:=by
 unfold uW at h;show X.env.scope.names.lookup x=_;rw[G.names];split at h
 ·assumption
 ·cases h
def GOk.sE(G:GOk Γ X af ag)(h:slot Γ x=some i):X.N[i]?=some x:=by
 rw[G.N];exact FO h
theorem lx(G:GOk Γ X af ag):∀(n:Nat) (e:Expr) (g:Tg×List Nat),uZ n Γ e=some g->PG X e (tG X.K af ag g.1)/\KG g.2 g.1/\(∀env:Env,(assignEach [e] env).map (·.2)=[assign e env])/\∀(es:List Expr) (env:Env),assignEach (e::es) env=(false,assign e env)::assignEach es env
 | 0,_,_,h=>by cases h
 | n+1,e,g,h=>by
  cases e with
  | Name x p =>
   have h:=h;obtain⟨hs,h⟩:=bL h;obtain⟨i,z,rfl⟩:=aM h;obtain⟨h1,h2⟩:=G.OD hs;exact⟨Nl i (H9 G.nd (G.sE z) h1 h2),Jl i,λ_=>rfl,λ_ _=>rfl⟩
  | Tuple es k p =>
   have all:∀es gs,es.foldr (λe r=>(uZ n Γ e).bind λg=>r.map λgs=>(pN g.1 gs.1,g.2++gs.2)) (some (Cj,[]))=some gs ->
     PGs X es (RM X.K af ag gs.1)/\Sh gs.2 gs.1/\∀env:Env,(assignEach es env).length=es.length/\(assignEach es env).findIdx? (·.1)=none:=by
    intro es;induction es with
    | nil =>
     intro gs h;cases h;exact⟨Nn,Jm,λenv=>⟨rfl,rfl⟩⟩
    | cons e es ih =>
     intro gs h;rw[List.foldr_cons]at h;obtain⟨g1,e1,h⟩:=aK h;obtain⟨g2,z,rfl⟩:=aM h;obtain⟨a1,a2,a3,a4⟩:=lx G n e g1 e1;obtain⟨b1,b2,b3⟩:=ih g2 z;refine⟨IQ a1 b1 (by grind),EV a2 b2,λenv=>?_⟩
     rw[a4];obtain⟨c1,c2⟩:=b3 env;exact⟨by rw[cw,cw,c1],by grind⟩
   have h:=h;obtain⟨gs,z,rfl⟩:=aM h;obtain⟨b1,b2,b3⟩:=all es gs z;exact⟨RN G.calm b1 (b3 _).1 (b3 _).2,NM b2,λ_=>rfl,λ_ _=>rfl⟩
  | _=>cases h
def CQ(G:GOk Γ X af ag)(hn:ig x=true)(hv:P6 Γ x=true)(hs:slot Γ x=some i):PE X (.Name x pos) (Ml i) :=
 pe_var (G.sE hs) (G.XD hv) (f9 hn).1 (f9 hn).2.1
end
def u0(x:Str):Option GC :=
 if x==("len":Str)then some j8
 else if x==("tuple":Str)then some Cm
 else if x==("int":Str)then some EJ
 else if x==("sum":Str)then some Ja
 else if x==("str":Str)then some I0
 else none
def FP:bootBuiltins "sum"=some (.builtin "sum"):=by kernel_rfl
set_option maxHeartbeats 4000000 in
theorem OE(h:u0 x=some g)(hh:X.A.handled=none)(hg:Gl X x)(hm:X.mg x=none)(ha:PA X (a::es) (tA X af ag ts))
  (he:starEach (a::es) X.env=(false,eval a X.env)::starEach es X.env) (oW:(backTo pos (starEach es X.env)).any (·.1)=false):PE X (.Call (.Name x p) (a::es) [] pos) (tE X af ag (IZ g ts)):=by
 unfold u0 at h;split at h
 ·rename_i e;cases h;have e:=aR e;subst e;exact(pw Cn hg hm PySem.boot_len ha (by decide) (by decide) he oW).imp λ_ _ _ h=>la h
 ·split at h
  ·rename_i e;cases h;have e:=aR e;subst e;exact(mj Co hg hm (ia .tuple) ha (by decide) (by decide) he oW).imp λ_ _ _ h=>la h
  ·split at h
   ·rename_i e;cases h;have e:=aR e;subst e;exact(mj Cp hg hm (ia .int) ha (by decide) (by decide) he oW).imp λ_ _ _ h=>la h
   ·split at h
    ·rename_i e;cases h;have e:=aR e;subst e;exact(pw (Cr hh) hg hm FP ha (by decide) (by decide) he oW).imp λ_ _ _ h=>la h
    ·split at h
     ·rename_i e;cases h;have e:=aR e;subst e;exact(mj Cq hg hm (ia .str) ha (by decide) (by decide) he oW).imp λ_ _ _ h=>la h
     ·cases h
noncomputable def FQ:ScopeKind->Bool
 | .function=>true
 | _=>false
noncomputable def sF(scope:Scope):List Str:=(scope.names.filter λy=>match y.2 with | .local=>true | .free=>true | _=>false).map (·.1)
def gf(Γ:Gm)(scope:Scope):List (Option Nat):=(sF scope).map λx=>match scope.names.lookup x with | some .free=>slot Γ x | _=>none
noncomputable def zA(Γ:Gm)(scope:Scope):List (Str×NameKind):=scope.names.map fun(n,k)=>if(k==NameKind.free&&Γ.sc.lookup n==some .cell)then(n,NameKind.cell)else(n,k)
def sG(Γ:Gm)(scope:Scope):Gm:={Γ with sc:=zA Γ scope,N:=sF scope,own:=false,FK:=none,FL:=none}
def qc(Γ:Gm)(scope:Scope)(L:List Nat):Bool :=
 FQ scope.kind&&scope.names.all (λy=>match y.2 with
  | .cell=>false
  | .local=>(match scope.names.lookup y.1 with | some .local=>true | _=>false)
  | .free=>(match Γ.sc.lookup y.1 with | some .cell=>true | some .free=>true | _=>false)
  | _=>true)&&decide (sF scope).Nodup&&L.all λi=>match(gf Γ scope)[i]? with | some none=>true | _=>false
section
variable {Γ:Gm} {X:Cx} {scope:Scope} {L:List Nat} {af:Hp} {ag:Fz}
def ly(h:qc Γ scope L=true):scope.kind=.function/\(∀y∈scope.names,(match y.2 with
  | .cell=>false
  | .local=>(match scope.names.lookup y.1 with | some .local=>true | _=>false)
  | .free=>(match Γ.sc.lookup y.1 with | some .cell=>true | some .free=>true | _=>false)
  | _=>true)=true)/\(sF scope).Nodup/\∀i∈L,(gf Γ scope)[i]?=some none:=by
 unfold qc at h;simp only[aF,eF,tx]at h;obtain⟨⟨⟨h1,h2⟩,h3⟩,h4⟩:=h;refine⟨?_,h2,h3,λi hi=>?_⟩
 ·unfold FQ at h1;split at h1
  ·assumption
  ·cases h1
 ·grind
def zB(G:GOk Γ X af ag)(h:qc Γ scope L=true):gJ X (sF scope) (gf Γ scope) scope:=by
 obtain⟨h1,h2,h3,h4⟩:=ly h;refine⟨h1,λy hy z=>?_,λy hy z=>?_,λy hy z=>?_,by unfold gf;rw[aQ],λi j x hl hx=>?_⟩
 ·grind
 ·grind
 ·have:=h2 y hy;rw[z]at this;simp only at this;show X.env.scope.names.lookup y.1=_\/X.env.scope.names.lookup y.1=_;rw[G.names];split at this
  ·grind
  ·grind
  ·cases this
 ·unfold gf at hl;rw[cJ,hx]at hl;have hl:(match scope.names.lookup x with | some .free=>slot Γ x | _=>none)=some j:=by grind
  split at hl
  ·exact⟨G.sE hl,by assumption⟩
  ·cases hl
def FT(G:GOk Γ X af ag)(h:qc Γ scope L=true)(C:Addr)(s:Shared)(H:Hp)(fp:List Addr)(XE:Hp)(XF:Fz):GOk (sG Γ scope) (bY X (sF scope) scope C s H fp) XE XF where
 names:=by
  show(relabel scope X.env).names=zA Γ scope;have e:∀n,X.env.kindOf n=Γ.sc.lookup n:=λn=>by show X.env.scope.names.lookup n=_;rw[G.names]
  unfold zA relabel;simp only[G.kind,e]
  congr 1
  funext y
  obtain⟨n,k⟩:=y;simp
 N:=rfl
 nd:=(ly h).2.2.1
 kind:=by
  exact(ly h).1
 calm:=G.calm
 hd:=G.hd
 un:=G.un
 own:=λz=>by cases z
 fns:=G.fns
 cons:=G.cons
 cY:=G.cY
 tabs:=G.tabs
 d7:=G.d7
 ns:=G.ns
 OC:=G.OC
 cls:=G.cls
 FK:=λ_ z=>by cases z
 FL:=λ_ _ z=>by cases z
 Hx:=G.Hx
 jo:=G.jo
 vA:=G.vA
end
noncomputable def bU{α:Type}:Gx α:=λ_=>none
section
variable {X:Cx} {af:Hp} {ag:Fz} {e:Expr} {es:List Expr}
def sH{C:Prop}(h:tX X af ag rl bU σ H Q):C:=by
 obtain⟨F,st,R,r,z,_⟩:=h;cases z
def aN:PE X e (tE X af ag bU):=λ_ _ _ _ _ _ h=>sH h
def sJ:PT X e (tT X af ag bU):=λ_ _ _ _ _ _ h=>sH h
def FU:PW X e (tT X af ag bU):=λ_ _ _ _ _ _ _ h=>sH h
def Lu:PA X es (tA X af ag bU):=λ_ _ _ _ _ _ _ h=>sH h
def Lv{tg:Expr}:PI X tg e (Dr X af ag bU):=λ_ _ _ _ _ _ h=>sH h
end
def lz(m n:Nat)(g:jw)(as:List PV):Gx PV:=λst=>if((m==0)&&(st.h.isEmpty || ao as))=true then jb n g as st else gD n g as st
def XG(G:FnOk X.prog X.w X.K X.mg X.base (gE X.prog X.w) k f fd ps (r9 X.K n g))(hr:cN k X.A)(hb:cz X.K fd ps []):zk X f (lz m n g):=by
 rintro af H ag F st σ ah s Q as us vs I R b r ⟨q,e1,e2⟩
 unfold lz at e1;split at e1
 ·exact Sv G hr hb af H ag F st σ ah s Q as us vs I R b r ⟨q,e1,e2⟩
 ·exact N0 G hr hb af H ag F st σ ah s Q as us vs I R b r ⟨q,e1,e2⟩
def Tn(Γ:Gm):Expr->Nat
 | .Name x _=>CP (md Γ x)
 | .Attribute _ f _=>CP (md Γ f)
 | _=>0
def XH(Γ:Gm)(g:Str)(o:Expr):Nat:=if g==("get":Str)then 0 else Tn Γ o
noncomputable def u3(e:Expr):Option {x:Option Expr×Option Expr // ∃p,e=.Slice x.1 x.2 none p}:=match e with
 | .Slice lo hi none p=>some ⟨(lo,hi),p,rfl⟩
 | _=>none
noncomputable def zC(e:Expr):Option {x:Option Expr×Expr // ∃p,e=.Slice x.1 none (some x.2) p}:=match e with
 | .Slice lo none (some m) p=>some ⟨(lo,m),p,rfl⟩
 | _=>none
def XI:Const->Gx PV
 | .int i=>cf (.int i)
 | .bool i=>cf (.bl i)
 | .none=>cf .aL
 | .str i=>cf (.str i)
 | _=>bU
def OF(Γ:Gm)(x:Str):Gx PV:=if ig x=true then(if P6 Γ x=true then(match slot Γ x with | some i=>rd i | none=>bU)else if uW Γ x=true then(match Γ.cons.lookup x with | some p=>cf p | none=>bU)else bU)else bU
noncomputable def zD(a:Expr):Option {x:Str×Expr×List Expr // ∃p q,a=.Call (.Name x.1 p) (x.2.1::x.2.2) [] q}:=match a with
 | .Call (.Name z p) (b::bs) [] q=>some ⟨(z,b,bs),p,q,rfl⟩
 | _=>none
def iz(Γ:Gm)(x:Str):Bool:=uW Γ x&&Γ.cY.contains x
noncomputable def To:Operator->Bool
 | .Add=>true
 | _=>false
mutual
noncomputable def aS:Nat->Gm->Nat->Expr->Gx PV
 | 0,_,_,_=>bU
 | n+1,Γ,m,e=>match e with
  | .Constant c _ _=>XI c
  | .Name x _=>OF Γ x
  | .BinOp a op b _=>if(m != 0&&To op)=true then Ob m (aS n Γ 0 a) (aS n Γ 0 b)else(match JP op with | some g=>op2 g (aS n Γ 0 a) (aS n Γ 0 b) | none=>bU)
  | .UnaryOp .Not a _=>Na (aS n Γ 0 a)
  | .UnaryOp .USub a _=>NB (aS n Γ 0 a)
  | .BoolOp op vs _=>FV n Γ op vs
  | .Compare a ops bs _=>OG n Γ a ops bs
  | .IfExp c a b _=>nv (qZ n Γ c) (aS n Γ m a) (aS n Γ m b)
  | .Tuple es _ _=>Nc .aq (jf n Γ m es)
  | .List es _=>(match m with | 0=>Nc .lst (jf n Γ 0 es) | _=>Ci (jf n Γ (CP m) es))
  | .Dict [] [] _=>Jy (m==10)
  | .Dict [some k] [v] _=>Th (aS n Γ 0 k) (aS n Γ 0 v)
  | .Subscript a b _=>OH n Γ a b
  | .ListComp elt gens scope _=>OI n Γ m elt gens scope
  | .Attribute o f _=>if uX o=true then JA f (aS n Γ 0 o)else bU
  | .Call f (a::es) [] cp=>if(a::es).all aV=true then OJ n Γ m f a es cp else bU
  | .Call (.Attribute o f ap) [] [] cp=>if(uX o&&(ap.endLine==cp.line))=true then(if f==("pop":Str)then Hv "list" (iD p9) (aS n Γ 0 o) (cf [])else match Ff f with | some w=>Hv w.1 w.2 (aS n Γ 0 o) (cf []) | none=>CO (sx Γ.Hx f) Γ.call f (aS n Γ 0 o) (cf []))else bU
  | .Call (.Name C _) [] [] _=>if(ig C&&uW Γ C)=true then(if Γ.vA.contains C=true then XB C else match Γ.cls.lookup C with | some k=>Qg C k (Γ.make C) (cf []) | none=>bU)else bU
  | _=>bU
termination_by structural n=>n
noncomputable def OJ:Nat->Gm->Nat->Expr->Expr->List Expr->Pos->Gx PV
 | 0,_,_,_,_,_,_=>bU
 | n+1,Γ,m,f,a,es,cp=>match f with
  | .Name x _=>if ig x=true then(if uW Γ x=true then OK n Γ m x a es else bU)else bU
  | .Subscript v k p=>A5 Γ.fns Γ.call (aS n Γ 0 (.Subscript v k p)) (jf n Γ 0 (a::es))
  | .Attribute o g ap=>if(uX o&&(ap.endLine==cp.line)&&decide ((a::es).length<30))=true then(match wH g with | some w=>Hv w.1 w.2 (aS n Γ 0 o) (jf n Γ (XH Γ g o) (a::es)) | none=>CO (sx Γ.Hx g) Γ.call g (aS n Γ 0 o) (jf n Γ 0 (a::es)))else bU
  | _=>bU
termination_by structural n=>n
noncomputable def OK:Nat->Gm->Nat->Str->Expr->List Expr->Gx PV
 | 0,_,_,_,_,_=>bU
 | n+1,Γ,m,x,a,es=>if x==("spread":Str)then FW n Γ a es else match Γ.fns.lookup x with
  | some k=>if(a::es).length==k then bnd (jf n Γ 0 (a::es)) (lz m k (Γ.call x))else(match Γ.jo.lookup x with | some ds=>bnd (jf n Γ 0 (a::es)) (qa m k (Γ.call x) ds) | none=>bU)
  | none=>match Γ.cls.lookup x with
   | some k=>(match m with | 0=>bU | _=>Qg x k (Γ.make x) (jf n Γ 0 (a::es)))
   | none=>if Γ.cY.contains x=true then(if x==("isinstance":Str)then FX n Γ a es else if x==("sorted":Str)then FY n Γ a es else if x==("dict":Str)then OL n Γ a es else if x==("list":Str)then FZ n Γ m a es else match u0 x with | some g=>IZ g (jf n Γ 0 (a::es)) | none=>bU)else bU
termination_by structural n=>n
noncomputable def FW:Nat->Gm->Expr->List Expr->Gx PV
 | 0,_,_,_=>bU
 | n+1,Γ,a,es=>bU
termination_by structural n=>n
noncomputable def FZ:Nat->Gm->Nat->Expr->List Expr->Gx PV
 | 0,_,_,_,_=>bU
 | n+1,Γ,m,a,es=>match es with
  | []=>(match zD a with
   | some ⟨zs,_⟩=>if(zs.1==("range":Str)&&iz Γ zs.1&&(zs.2.1::zs.2.2).all aV)=true then Xi m (jf n Γ 0 (zs.2.1::zs.2.2))else(match zs.2.2 with
    | [b]=>if(zs.1==("zip":Str)&&iz Γ zs.1&&aV zs.2.1&&aV b)=true then Oi m (aS n Γ 0 zs.2.1) (aS n Γ 0 b)else bU
    | _=>bU)
   | none=>JX m (aS n Γ 0 a))
  | _=>bU
termination_by structural n=>n
noncomputable def OL:Nat->Gm->Expr->List Expr->Gx PV
 | 0,_,_,_=>bU
 | n+1,Γ,a,es=>match es with
  | []=>JF (aS n Γ 0 a)
  | _=>bU
termination_by structural n=>n
noncomputable def FY:Nat->Gm->Expr->List Expr->Gx PV
 | 0,_,_,_=>bU
 | n+1,Γ,a,es=>bU
termination_by structural n=>n
noncomputable def FX:Nat->Gm->Expr->List Expr->Gx PV
 | 0,_,_,_=>bU
 | n+1,Γ,a,es=>match es with
  | [.Name t _]=>if iz Γ t=true then(match AL t with | some g=>Vc g (aS n Γ 0 a) | none=>bU)else bU
  | _=>bU
termination_by structural n=>n
noncomputable def OG:Nat->Gm->Expr->List CmpOp->List Expr->Gx PV
 | 0,_,_,_,_=>bU
 | n+1,Γ,a,ops,bs=>match ops,bs with
  | [op],[b]=>if aV b=true then(match zd op with | some g=>op2 g (aS n Γ 0 a) (aS n Γ 0 b) | none=>bU)else bU
  | [op,vC],[b,c]=>if aV c=true then(match zd op,zd vC with | some g,some g'=>chain g g' (aS n Γ 0 a) (aS n Γ 0 b) (aS n Γ 0 c) | _,_=>bU)else bU
  | _,_=>bU
termination_by structural n=>n
noncomputable def OH:Nat->Gm->Expr->Expr->Gx PV
 | 0,_,_,_=>bU
 | n+1,Γ,a,b=>match u3 b with
  | some ⟨lh,_⟩=>cutE (aS n Γ 0 a) (CS n Γ lh.1) (CS n Γ lh.2)
  | none=>match zC b with
  | some ⟨lm,_⟩=>NC (aS n Γ 0 a) (CS n Γ lm.1) (CS n Γ (some lm.2))
  | none=>if nV b=true then(match a with
   | .Name T p=>if(ig T&&uW Γ T)=true then(match Γ.d7.lookup T with
    | some rows=>CH (λk=>rows.lookup k) (aS n Γ 0 b)
    | none=>match Γ.tabs.lookup T with
     | some rows=>CH (λk=>(rows.lookup k).map .fn) (aS n Γ 0 b)
     | none=>op2 br (aS n Γ 0 (.Name T p)) (aS n Γ 0 b))else op2 br (aS n Γ 0 (.Name T p)) (aS n Γ 0 b)
   | a=>op2 br (aS n Γ 0 a) (aS n Γ 0 b))else bU
termination_by structural n=>n
noncomputable def qZ:Nat->Gm->Expr->Gx Bool
 | 0,_,_=>bU
 | n+1,Γ,e=>match e with
  | .UnaryOp .Not a _=>IL (qZ n Γ a)
  | .BoolOp op vs _=>F0 n Γ op vs
  | .Compare a [op] [b] _=>if aV b=true then(match zd op with | some g=>toB (op2 g (aS n Γ 0 a) (aS n Γ 0 b)) | none=>bU)else bU
  | .Compare a [op,vC] [b,c] _=>if aV c=true then(match zd op,zd vC with | some g,some g'=>toB (chain g g' (aS n Γ 0 a) (aS n Γ 0 b) (aS n Γ 0 c)) | _,_=>bU)else bU
  | e=>if zy e=true then uA (aS n Γ 0 e)else bU
termination_by structural n=>n
noncomputable def FV:Nat->Gm->BoolOp->List Expr->Gx PV
 | 0,_,_,_=>bU
 | n+1,Γ,op,[a]=>aS n Γ 0 a
 | n+1,Γ,.And,a::b::r=>M9 (aS n Γ 0 a) (FV n Γ .And (b::r))
 | n+1,Γ,.Or,a::b::r=>U9 (aS n Γ 0 a) (FV n Γ .Or (b::r))
 | _,_,_,_=>bU
termination_by structural n=>n
noncomputable def F0:Nat->Gm->BoolOp->List Expr->Gx Bool
 | 0,_,_,_=>bU
 | n+1,Γ,op,[a]=>qZ n Γ a
 | n+1,Γ,.And,a::b::r=>nv (qZ n Γ a) (F0 n Γ .And (b::r)) (cf false)
 | n+1,Γ,.Or,a::b::r=>nv (qZ n Γ a) (cf true) (F0 n Γ .Or (b::r))
 | _,_,_,_=>bU
termination_by structural n=>n
noncomputable def jf:Nat->Gm->Nat->List Expr->Gx (List PV)
 | 0,_,_,_=>bU
 | n+1,Γ,m,[]=>cf []
 | n+1,Γ,m,e::es=>if aV e=true then jK (aS n Γ m e) (jf n Γ m es)else bU
termination_by structural n=>n
noncomputable def CS:Nat->Gm->Option Expr->Gx (Option Int)
 | 0,_,_=>bU
 | n+1,Γ,none=>cf none
 | n+1,Γ,some e=>EH (aS n Γ 0 e)
termination_by structural n=>n
noncomputable def F6:Nat->Gm->Expr->Expr->Gx AW
 | 0,_,_,_=>bU
 | n+1,Γ,tg,e=>match e with
  | .Call (.Name x p) [a] [] cp=>if(x==("range":Str)&&iz Γ x&&aV a)=true then Qd (NQ wA (jf n Γ 0 [a]))
    else if(x==("enumerate":Str)&&iz Γ x&&aV a&&AU tg)=true then Qd (AV (aS n Γ 0 a))
    else zj (aS n Γ 0 (.Call (.Name x p) [a] [] cp))
  | .Call (.Name x p) [a,b] [] cp=>if(x==("zip":Str)&&iz Γ x&&aV a&&aV b&&AU tg)=true then Qd (Ov (aS n Γ 0 a) (aS n Γ 0 b))
    else zj (aS n Γ 0 (.Call (.Name x p) [a,b] [] cp))
  | e=>if aV e=true then zj (aS n Γ 0 e)else bU
termination_by structural n=>n
noncomputable def OI:Nat->Gm->Nat->Expr->List Comprehension->Scope->Gx PV
 | 0,_,_,_,_,_=>bU
 | n+1,Γ,m,elt,gens,scope=>match gens with
  | [⟨tg,iter,ifs,0⟩]=>if aV iter=true then(match uZ n (sG Γ scope) tg with
   | some g=>if qc Γ scope g.2=true then(match ifs with
    | []=>ja (ZK m) (gf Γ scope) (F6 n Γ tg iter) (pW g.1 (aS n (sG Γ scope) (CP m) elt))
    | [c]=>ja (ZK m) (gf Γ scope) (F6 n Γ tg iter) (wx g.1 (qZ n (sG Γ scope) c) (aS n (sG Γ scope) (CP m) elt))
    | _=>bU)else bU
   | none=>bU)else bU
  | _=>bU
termination_by structural n=>n
end
def CC(X:Cx)(af:Hp)(ag:Fz)(elt:Expr)(gens:List Comprehension)(scope:Scope)(p:Pos)(f:Gx PV):Prop:=PE X (.ListComp elt gens scope p) (tE X af ag f) /\
  ∀i x p' sp,X.N[i]?=some x->X.env.scope.names.lookup x=some .local->swapsWith (.ListComp elt gens scope p) (some (.Name x p')) sp.line X.env=pure true ->
   PS X (.Assign [.Name x p'] (.ListComp elt gens scope p) sp) (tS X af ag (kX f (du i)))
structure XJ (n:Nat):Prop where
 e:∀Γ X af ag m e,GOk Γ X af ag->PE X e (tE X af ag (aS n Γ m e))
 f:∀Γ X af ag m f a es cp,GOk Γ X af ag->(a::es).all aV=true->PE X (.Call f (a::es) [] cp) (tE X af ag (OJ n Γ m f a es cp))
 cn:∀Γ X af ag m x a es p cp,GOk Γ X af ag->(a::es).all aV=true->ig x=true->uW Γ x=true->PE X (.Call (.Name x p) (a::es) [] cp) (tE X af ag (OK n Γ m x a es))
 sp:∀Γ X af ag a es p cp,GOk Γ X af ag->(a::es).all aV=true->uW Γ "spread"=true->PE X (.Call (.Name "spread" p) (a::es) [] cp) (tE X af ag (FW n Γ a es))
 st:∀Γ X af ag a es p cp,GOk Γ X af ag->(a::es).all aV=true->uW Γ "sorted"=true->Γ.cY.contains "sorted"=true->PE X (.Call (.Name "sorted" p) (a::es) [] cp) (tE X af ag (FY n Γ a es))
 d:∀Γ X af ag a es p cp,GOk Γ X af ag->(a::es).all aV=true->uW Γ "dict"=true->Γ.cY.contains "dict"=true->PE X (.Call (.Name "dict" p) (a::es) [] cp) (tE X af ag (OL n Γ a es))
 li:∀Γ X af ag m a es p cp,GOk Γ X af ag->(a::es).all aV=true->uW Γ "list"=true->Γ.cY.contains "list"=true->PE X (.Call (.Name "list" p) (a::es) [] cp) (tE X af ag (FZ n Γ m a es))
 is:∀Γ X af ag a es p cp,GOk Γ X af ag->(a::es).all aV=true->uW Γ "isinstance"=true->Γ.cY.contains "isinstance"=true->PE X (.Call (.Name "isinstance" p) (a::es) [] cp) (tE X af ag (FX n Γ a es))
 k:∀Γ X af ag a ops bs p,GOk Γ X af ag->PE X (.Compare a ops bs p) (tE X af ag (OG n Γ a ops bs))
 x:∀Γ X af ag a b p,GOk Γ X af ag->PE X (.Subscript a b p) (tE X af ag (OH n Γ a b))
 t:∀Γ X af ag e,GOk Γ X af ag->PT X e (tT X af ag (qZ n Γ e))
 b:∀Γ X af ag op vs p,GOk Γ X af ag->PE X (.BoolOp op vs p) (tE X af ag (FV n Γ op vs))
 w:∀Γ X af ag op vs p,GOk Γ X af ag->PW X (.BoolOp op vs p) (tT X af ag (F0 n Γ op vs))
 a:∀Γ X af ag m es,GOk Γ X af ag->PA X es (tA X af ag (jf n Γ m es))
 l:∀Γ X af ag e,GOk Γ X af ag->PO X e (IY X af ag (CS n Γ e))
 i:∀Γ X af ag tg e,GOk Γ X af ag->PI X tg e (Dr X af ag (F6 n Γ tg e))
 c:∀Γ X af ag m elt gens scope p,GOk Γ X af ag->CC X af ag elt gens scope p (OI n Γ m elt gens scope)
def pI{X:Cx}{af:Hp}{ag:Fz}{e:Expr}{c:Prop} [Decidable c] {f g:Gx PV} (h:c->PE X e (tE X af ag f)) (h':PE X e (tE X af ag g)):PE X e (tE X af ag (if c then f else g)):=by
 split
 ·exact h ‹_›
 ·exact h'
def pJ{X:Cx}{af:Hp}{ag:Fz}{e:Expr}{c:Prop} [Decidable c] {f:Gx PV} (h:c->PE X e (tE X af ag f)):PE X e (tE X af ag (if c then f else bU)):=pI h aN
def gg:PS X s (tS X af ag bU):=λ_ _ _ _ _ _ ⟨F,st,R,r,z,_⟩=>by cases z
def u4:PS X s (tS X af ag (kX bU g)):=λ_ _ _ _ _ _ ⟨F,st,R,r,z,_⟩=>by cases z
def Tp{ag:Fz}:PO X e (IY X af ag bU):=λ_ _ _ _ _ _ h=>sH h
def F7:XJ 0 where
 e:=λ_ _ _ _ _ _ _=>aN
 f:=λ_ _ _ _ _ _ _ _ _ _ _=>aN
 cn:=λ_ _ _ _ _ _ _ _ _ _ _ _ _ _=>aN
 sp:=λ_ _ _ _ _ _ _ _ _ _ _=>aN
 st:=λ_ _ _ _ _ _ _ _ _ _ _ _=>aN
 d:=λ_ _ _ _ _ _ _ _ _ _ _ _=>aN
 li:=λ_ _ _ _ _ _ _ _ _ _ _ _ _=>aN
 is:=λ_ _ _ _ _ _ _ _ _ _ _ _=>aN
 k:=λ_ _ _ _ _ _ _ _ _=>aN
 x:=λ_ _ _ _ _ _ _ _=>aN
 t:=λ_ _ _ _ _ _=>sJ
 b:=λ_ _ _ _ _ _ _ _=>aN
 w:=λ_ _ _ _ _ _ _ _=>FU
 a:=λ_ _ _ _ _ _ _=>Lu
 l:=λ_ _ _ _ _ _=>Tp
 i:=λ_ _ _ _ _ _ _=>Lv
 c:=λ_ _ _ _ _ _ _ _ _ _=>⟨aN,λ_ _ _ _ _ _ _=>u4⟩
section
variable {n:Nat} (S:XJ n)
include S
def Tq(Γ:Gm)(X:Cx)(af:Hp)(ag:Fz)(op:BoolOp)(vs:List Expr)(p:Pos)(G:GOk Γ X af ag):PE X (.BoolOp op vs p) (tE X af ag (FV (n+1) Γ op vs)):=by
 match op,vs with
 | .And,[]=>exact aN
 | .Or,[]=>exact aN
 | .And,[a]=>exact D2 (S.e Γ X af ag 0 a G)
 | .Or,[a]=>exact D2 (S.e Γ X af ag 0 a G)
 | .And,a::b::r=>exact RH (S.e Γ X af ag 0 a G) (S.b Γ X af ag .And (b::r) p G)
 | .Or,a::b::r=>exact WC (S.e Γ X af ag 0 a G) (S.b Γ X af ag .Or (b::r) p G)
def Ts(Γ:Gm)(X:Cx)(af:Hp)(ag:Fz)(op:BoolOp)(vs:List Expr)(p:Pos)(G:GOk Γ X af ag):PW X (.BoolOp op vs p) (tT X af ag (F0 (n+1) Γ op vs)):=by
 match op,vs with
 | .And,[]=>exact FU
 | .Or,[]=>exact FU
 | .And,[a]=>exact HV (S.t Γ X af ag a G)
 | .Or,[a]=>exact Mp (S.t Γ X af ag a G)
 | .And,a::b::r=>exact RF (S.t Γ X af ag a G) (S.w Γ X af ag .And (b::r) p G)
 | .Or,a::b::r=>exact WB (S.t Γ X af ag a G) (S.w Γ X af ag .Or (b::r) p G)
def Tt(Γ:Gm)(X:Cx)(af:Hp)(ag:Fz)(m:Nat)(es:List Expr)(G:GOk Γ X af ag):PA X es (tA X af ag (jf (n+1) Γ m es)):=by
 match es with
 | []=>exact RJ
 | e::es =>
  unfold jf;split
  ·rename_i hp;exact Nb (S.e Γ X af ag m e G) (S.a Γ X af ag m es G) (bh hp _ _)
  ·exact Lu
def Tu(Γ:Gm)(X:Cx)(af:Hp)(ag:Fz)(e:Option Expr)(G:GOk Γ X af ag):PO X e (IY X af ag (CS (n+1) Γ e)):=by
 match e with
 | none=>exact Ny
 | some e=>exact Nz (S.e Γ X af ag 0 e G)
def Tv(Γ:Gm)(X:Cx)(af:Hp)(ag:Fz)(a:Expr)(ops:List CmpOp)(bs:List Expr)(p:Pos)(G:GOk Γ X af ag):PE X (.Compare a ops bs p) (tE X af ag (OG (n+1) Γ a ops bs)):=by
 rcases ops with _ | ⟨op,_ | ⟨vC,_ | _⟩⟩<;>rcases bs with _ | ⟨b,_ | ⟨c,_ | _⟩⟩<;>try exact aN
 ·show PE X _ (tE X af ag (ite _ _ _));split
  ·rename_i hp;split
   ·rename_i g h1;exact RC (ju G.un h1) (S.e Γ X af ag 0 _ G) (S.e Γ X af ag 0 _ G) (gu hp _)
   ·exact aN
  ·exact aN
 ·show PE X _ (tE X af ag (ite _ _ _));split
  ·rename_i hp;split
   ·rename_i g g' h1 h2;exact IJ (ju G.un h1) (ju G.un h2) (S.e Γ X af ag 0 _ G) (S.e Γ X af ag 0 _ G) (S.e Γ X af ag 0 _ G) (gu hp _)
   ·exact aN
  ·exact aN
def Tw(Γ:Gm)(X:Cx)(af:Hp)(ag:Fz)(e:Expr)(G:GOk Γ X af ag):PT X e (tT X af ag (qZ (n+1) Γ e)):=by
 have df:∀e,PT X e (tT X af ag (if zy e=true then uA (aS n Γ 0 e)else bU)):=λe=>by
  split
  ·rename_i hp;exact RE (S.e Γ X af ag 0 _ G) λiw=>FN hp _ iw
  ·exact sJ
 cases e with
 | UnaryOp op=>cases op with
  | Not=>exact RG (S.t Γ X af ag _ G)
  | _=>exact df _
 | BoolOp=>exact(S.w Γ X af ag _ _ _ G).pt
 | Compare a ops bs =>
  rcases ops with _ | ⟨op,_ | ⟨vC,_ | _⟩⟩<;>rcases bs with _ | ⟨b,_ | ⟨c,_ | _⟩⟩<;>try exact df _
  ·show PT X _ (tT X af ag (ite _ _ _));split
   ·rename_i hp;split
    ·rename_i g h1;exact RD (ju G.un h1) (S.e Γ X af ag 0 _ G) (S.e Γ X af ag 0 _ G) (gu hp _)
    ·exact sJ
   ·exact sJ
  ·show PT X _ (tT X af ag (ite _ _ _));split
   ·rename_i hp;split
    ·rename_i g g' h1 h2;exact IK (ju G.un h1) (ju G.un h2) (S.e Γ X af ag 0 _ G) (S.e Γ X af ag 0 _ G) (S.e Γ X af ag 0 _ G) (gu hp _)
    ·exact sJ
   ·exact sJ
 | _=>exact df _
def OM(Γ:Gm)(X:Cx)(af:Hp)(ag:Fz)(a:Expr)(es:List Expr)(p cp:Pos)(G:GOk Γ X af ag)(hp:(a::es).all aV=true)(hg:uW Γ "sorted"=true)(hb:Γ.cY.contains "sorted"=true):PE X (.Call (.Name "sorted" p) (a::es) [] cp) (tE X af ag (FY (n+1) Γ a es)):=by
 exact aN
def Tz(Γ:Gm)(X:Cx)(af:Hp)(ag:Fz)(a:Expr)(es:List Expr)(p cp:Pos)(G:GOk Γ X af ag)(hp:(a::es).all aV=true)(hg:uW Γ "dict"=true)(hb:Γ.cY.contains "dict"=true):PE X (.Call (.Name "dict" p) (a::es) [] cp) (tE X af ag (OL (n+1) Γ a es)):=by
 rw[gU,aF]at hp;cases es with
 | cons=>exact aN
 | nil=>exact N8 G.hd (G.gN hg) (G.cY _ hb) (S.e Γ X af ag 0 _ G) (bh hp.1 _ _)
def ON(Γ:Gm)(X:Cx)(af:Hp)(ag:Fz)(m:Nat)(a:Expr)(es:List Expr)(p cp:Pos)(G:GOk Γ X af ag)(hp:(a::es).all aV=true)(hg:uW Γ "list"=true)(hb:Γ.cY.contains "list"=true):PE X (.Call (.Name "list" p) (a::es) [] cp) (tE X af ag (FZ (n+1) Γ m a es)):=by
 rw[gU,aF]at hp;cases es with
 | cons=>exact aN
 | nil =>
  show PE X _ (tE X af ag (match zD a with | some ⟨zs,_⟩=>_ | none=>JX m (aS n Γ 0 a)))
  rcases zD a with _ | ⟨⟨z,b,bs⟩,zp,wK,rfl⟩
  ·exact OA (G.gN hg) (G.cY _ hb) (S.e Γ X af ag 0 _ G) λ_=>bh hp.1 _ _
  ·refine pI (λhc=>?_) ?_
   ·simp only[iz,aF]at hc;obtain⟨⟨hx,g1,g2⟩,Oh⟩:=hc;have hx:=aR hx;subst hx;rw[gU,aF]at Oh;exact SM G.hd (G.gN hg) (G.cY _ hb) (G.gN g1) (G.cY _ g2) (S.a Γ X af ag 0 _ G) (bh Oh.1 _ _) (eY Oh.2 _ _)
   ·rcases bs with _ | ⟨c,_ | _⟩
    ·exact aN
    ·refine pJ λhc=>?_
     simp only[iz,aF]at hc;obtain⟨⟨⟨hx,g1,g2⟩,p1⟩,p2⟩:=hc;have hx:=aR hx;subst hx;exact Oj G.hd (G.gN hg) (G.cY _ hb) (G.gN g1) (G.cY _ g2) (S.e Γ X af ag 0 _ G) (S.e Γ X af ag 0 _ G) (bh p1 _ _) (bh p2 _ _)
    ·exact aN
def OO(Γ:Gm)(X:Cx)(af:Hp)(ag:Fz)(a:Expr)(es:List Expr)(p cp:Pos)(G:GOk Γ X af ag)(hp:(a::es).all aV=true)(hg:uW Γ "isinstance"=true)(hb:Γ.cY.contains "isinstance"=true):PE X (.Call (.Name "isinstance" p) (a::es) [] cp) (tE X af ag (FX (n+1) Γ a es)):=by
 cases es with
 | nil=>exact aN
 | cons e es=>cases e with
  | Name t=>cases es with
   | cons=>exact aN
   | nil =>
    refine pJ λhc=>?_
    unfold iz at hc;rw[aF]at hc;rw[gU,aF]at hp;cases h1:AL t with
    | none=>exact aN
    | some g=>exact WI h1 (G.gN hg) (G.cY _ hb) (G.gN hc.1) (G.cY _ hc.2) (S.e Γ X af ag 0 a G) λes=>bh hp.1 es _
  | _=>exact aN
def TC(Γ:Gm)(X:Cx)(af:Hp)(ag:Fz)(a b:Expr)(p:Pos)(G:GOk Γ X af ag):PE X (.Subscript a b p) (tE X af ag (OH (n+1) Γ a b)):=by
 show PE X _ (tE X af ag (match u3 b with | some ⟨lh,_⟩=>_ | none=>_))
 rcases u3 b with _ | ⟨⟨lo,hi⟩,ps,rfl⟩
 ·show PE X _ (tE X af ag (match zC b with | some ⟨lm,_⟩=>_ | none=>_))
  rcases zC b with _ | ⟨⟨lo,hi⟩,ps,rfl⟩
  rotate_left
  ·exact R8 (S.e Γ X af ag 0 _ G) (S.l Γ X af ag _ G) (S.l Γ X af ag _ G)
  refine pJ λhp=>?_
  have gen:=λa=>WJ (pos:=p) G.un (S.e Γ X af ag 0 a G) (S.e Γ X af ag 0 b G) (qb hp)
  cases a with
  | Name T =>
   refine pI (λhc=>?_) (gen _)
   rw[aF]at hc;cases h0:Γ.d7.lookup T with
   | some rows=>exact SD (G.d7 _ rows h0) (G.gN hc.2) (S.e Γ X af ag 0 _ G) (qb hp) (f9 hc.1).1
   | none =>
    cases h1:Γ.tabs.lookup T with
    | some rows=>exact SE (G.tabs _ rows h1) (G.gN hc.2) (S.e Γ X af ag 0 _ G) (qb hp) (f9 hc.1).1
    | none=>exact gen _
  | _=>exact gen _
 ·exact RV (S.e Γ X af ag 0 _ G) (S.l Γ X af ag _ G) (S.l Γ X af ag _ G)
def TF(Γ:Gm)(X:Cx)(af:Hp)(ag:Fz)(tg e:Expr)(G:GOk Γ X af ag):PI X tg e (Dr X af ag (F6 (n+1) Γ tg e)):=by
 have df:∀e,PI X tg e (Dr X af ag (if aV e=true then zj (aS n Γ 0 e)else bU)):=λe=>by
  split
  ·exact E7 (S.e Γ X af ag 0 _ G)
  ·exact Lv
 cases e with
 | Call f as ks=>cases f with
  | Name x p =>
   rcases as with _ | ⟨a,_ | ⟨b,_ | _⟩⟩<;>rcases ks with _ | _<;>try exact df _
   ·show PI X _ _ (Dr X af ag (ite _ _ _));split
    ·rename_i hc;simp only[iz,aF]at hc;obtain⟨⟨hx,hg,hb⟩,hp⟩:=hc;have hx:=aR hx;subst hx;exact NT <| E2 (G.gN hg) (G.cY _ hb) (S.a Γ X af ag 0 _ G) (bh hp _ _)
    ·split
     ·rename_i hc;simp only[iz,aF]at hc;obtain⟨⟨⟨hx,hg,hb⟩,hp⟩,ht⟩:=hc;have hx:=aR hx;subst hx;exact NT <| WY ht (G.gN hg) (G.cY _ hb) (S.e Γ X af ag 0 _ G) (bh hp _ _)
     ·exact E7 (S.e Γ X af ag 0 _ G)
   ·show PI X _ _ (Dr X af ag (ite _ _ _));split
    ·rename_i hc;simp only[iz,aF]at hc;obtain⟨⟨⟨⟨hx,hg,hb⟩,hp⟩,Oh⟩,ht⟩:=hc;have hx:=aR hx;subst hx;exact NT <| S2 ht (G.gN hg) (G.cY _ hb) (S.e Γ X af ag 0 _ G) (S.e Γ X af ag 0 _ G) (bh hp _ _) (bh Oh _ _)
    ·exact E7 (S.e Γ X af ag 0 _ G)
  | _=>exact df _
 | _=>exact df _
def JY:CC X af ag elt gens scope p bU:=⟨aN,λ_ _ _ _ _ _ _=>u4⟩
def cI{c:Prop} [Decidable c] (h:c->CC X af ag elt gens scope p f):CC X af ag elt gens scope p (if c then f else bU):=by
 split
 ·exact h ‹_›
 ·exact JY
def TJ(Γ:Gm)(X:Cx)(af:Hp)(ag:Fz)(m:Nat)(elt:Expr)(gens:List Comprehension)(scope:Scope)(p:Pos)(G:GOk Γ X af ag):CC X af ag elt gens scope p (OI (n+1) Γ m elt gens scope):=by
 rcases gens with _ | ⟨⟨tg,iter,ifs,(_ | _) | _⟩,_ | _⟩<;>try exact JY
 refine cI λhp=>?_
 cases h2:uZ n (sG Γ scope) tg with
 | none=>exact JY
 | some g =>
  refine cI λhc=>?_
  have SC:=zB G hc;have hL:=(ly hc).2.2.2;have GK:=FT G hc;have hi:=S.i Γ X af ag tg iter G;have hg:=λC s H fp=>(lx (GK C s H fp af ag) n tg g h2).1
  have kg:=(lx (GK 0 X.s₀ X.af [] af ag) n tg g h2).2.1;have he:=λC s H fp=>S.e _ _ _ _ (CP m) elt (GK C s H fp af ag)
  rcases ifs with _ | ⟨c,_ | _⟩
  ·exact⟨(AR G.calm SC hi (Zh hg he) (f7 hp _)).imp λσ H Q h=>E8 kg hL h,λi x p' sp hx hl hw=>(AS G.calm G.nd hx hl SC hi (Zh hg he) hw (f7 hp _)).imp λD σ H h=>E8 kg hL (nR h)⟩
  ·have ht:=λC s H fp=>S.t _ _ _ _ c (GK C s H fp af ag)
   exact⟨(AR G.calm SC hi (Zi hg he ht) (f7 hp _)).imp λσ H Q h=>E9 kg hL h,λi x p' sp hx hl hw=>(AS G.calm G.nd hx hl SC hi (Zi hg he ht) hw (f7 hp _)).imp λD σ H h=>E9 kg hL (nR h)⟩
  ·exact JY
def OP(Γ:Gm)(X:Cx)(af:Hp)(ag:Fz)(a:Expr)(es:List Expr)(p cp:Pos)(G:GOk Γ X af ag)(hp:(a::es).all aV=true)(hg:uW Γ "spread"=true):PE X (.Call (.Name "spread" p) (a::es) [] cp) (tE X af ag (FW (n+1) Γ a es)):=by
 exact aN
def TK(Γ:Gm)(X:Cx)(af:Hp)(ag:Fz)(m:Nat)(x:Str)(a:Expr)(es:List Expr)(p cp:Pos)(G:GOk Γ X af ag)(hp:(a::es).all aV=true)(hn:ig x=true)(hg:uW Γ x=true):PE X (.Call (.Name x p) (a::es) [] cp) (tE X af ag (OK (n+1) Γ m x a es)):=by
 have Cw:=hp;rw[gU,aF]at Cw;obtain⟨n1,n2,n3⟩:=f9 hn;have ha:=S.a Γ X af ag 0 (a::es) G;have h1:=bh Cw.1 es X.env;have h2:=eY Cw.2 X.env cp;refine pI (λhx=>?_) ?_
 ·cases aR hx;exact S.sp Γ X af ag a es p cp G hp hg
 cases hk:Γ.fns.lookup x with
 | some k =>
  refine pI (λ_=>?_) ?_
  ·obtain⟨j,f,fd,ps,F,hr,q1,q2,q3⟩:=G.fns _ k hk;exact Fc (XG F hr q3) (G.gN hg) q1 q2 ha n1 h1 h2
  ·cases hd:Γ.jo.lookup x with
   | none=>exact aN
   | some ds =>
    obtain⟨j,f,fd,ps,iS,oS,F,hr,q1,q2,r1,r2,q3⟩:=G.jo x ds k hd hk;exact Fc (Tf F hr q3 r1 r2) (G.gN hg) q1 q2 ha n1 h1 h2
 | none=>cases hk:Γ.cls.lookup x with
  | some k=>cases m with
   | zero=>exact aN
   | succ =>
    obtain⟨j,Ca,f,fd,ps,hC,c,M,F,hr,q1,q2⟩:=G.cls _ k hk;exact(Iu (p:=p) M F hr (G.gN hg) q1 q2 .nil rQ ha n1 h1 h2).imp λσ H Q h=>Bg hC c h
  | none =>
   refine pJ λhb=>pI (λhx=>?_) (pI (λhx=>?_) (pI (λhx=>?_) (pI (λhx=>?_) ?_)))
   ·cases aR hx;exact S.is Γ X af ag a es p cp G hp hg hb
   ·cases aR hx;exact S.st Γ X af ag a es p cp G hp hg hb
   ·cases aR hx;exact S.d Γ X af ag a es p cp G hp hg hb
   ·cases aR hx;exact S.li Γ X af ag m a es p cp G hp hg hb
   cases hg':u0 x with
   | some g=>exact OE hg' G.hd (G.gN hg) (G.cY _ hb) ha h1 h2
   | none=>exact aN
def TL(Γ:Gm)(X:Cx)(af:Hp)(ag:Fz)(m:Nat)(f a:Expr)(es:List Expr)(cp:Pos)(G:GOk Γ X af ag)(hp:(a::es).all aV=true):PE X (.Call f (a::es) [] cp) (tE X af ag (OJ (n+1) Γ m f a es cp)):=by
 have Cw:=hp;rw[gU,aF]at Cw;cases f with
 | Name=>exact pJ λhn=>pJ λhg=>S.cn Γ X af ag m _ a es _ cp G hp hn hg
 | Subscript=>exact Jz G.fns G.ns (S.e Γ X af ag 0 _ G) (S.a Γ X af ag 0 _ G) (bh Cw.1 _ _) (eY Cw.2 _ _)
 | Attribute o g ap =>
  refine pJ λhc=>?_
  simp only[aF,tx]at hc;show PE X _ (tE X af ag (match wH g with | some w=>_ | none=>CO (sx Γ.Hx g) Γ.call g (aS n Γ 0 o) (jf n Γ 0 (a::es))))
  cases hw:wH g with
  | none=>exact Ow G.Hx (S.e Γ X af ag 0 _ G) (S.a Γ X af ag _ _ G) (jx hc.1.1) (Bi hp hc.2) hc.1.2 (bh Cw.1 _ _) (eY Cw.2 _ _)
  | some w=>exact W6 G.un hw (S.e Γ X af ag 0 _ G) (S.a Γ X af ag _ _ G) (jx hc.1.1) (Bi hp hc.2) hc.1.2 (bh Cw.1 _ _) (eY Cw.2 _ _)
 | _=>exact aN
def TM(Γ:Gm)(X:Cx)(af:Hp)(ag:Fz)(m:Nat)(e:Expr)(G:GOk Γ X af ag):PE X e (tE X af ag (aS (n+1) Γ m e)):=by
 cases e with
 | Constant c=>cases c<;>first | exact aN | exact RA | exact Wz | exact Rz | exact RB
 | Name x =>
  show PE X _ (tE X af ag (OF Γ x));unfold OF;split
  ·rename_i hn;split
   ·rename_i hv;split
    ·rename_i i hi;exact Ry i (CQ G hn hv hi)
    ·exact aN
   ·split
    ·rename_i hg;split
     ·rename_i q hq;obtain⟨u,v,g1,g2,g3⟩:=G.cons _ q hq;exact v7 (uj (G.gN hg) g1 g2 (f9 hn).1) g3
     ·exact aN
    ·exact aN
  ·exact aN
 | BinOp a op b =>
  refine pI (λhc=>?_) ?_
  ·rw[aF]at hc;obtain rfl:op=.Add:=by
    cases op<;>first | rfl | cases hc.2
   exact Oc (S.e Γ X af ag 0 _ G) (S.e Γ X af ag 0 _ G)
  show PE X _ (tE X af ag (match JP op with | some g=>op2 g (aS n Γ 0 a) (aS n Γ 0 b) | none=>bU))
  cases h1:JP op with
  | none=>exact aN
  | some=>exact WA (Fx h1) (S.e Γ X af ag 0 _ G) (S.e Γ X af ag 0 _ G)
 | UnaryOp op=>cases op with
  | Not=>exact RI (S.e Γ X af ag 0 _ G)
  | USub=>exact RZ (S.e Γ X af ag 0 _ G)
  | _=>exact aN
 | BoolOp=>exact S.b Γ X af ag _ _ _ G
 | Compare=>exact S.k Γ X af ag _ _ _ _ G
 | IfExp=>exact WD (S.t Γ X af ag _ G) (S.e Γ X af ag m _ G) (S.e Γ X af ag m _ G)
 | Tuple=>exact RK (S.a Γ X af ag m _ G)
 | List=>cases m with
  | zero=>exact RL (S.a Γ X af ag 0 _ G)
  | succ=>exact Nd (S.a Γ X af ag _ _ G)
 | Dict ks vs=>match ks,vs with
  | [],[]=>exact SA _
  | [some k],[v]=>exact Oz G.un (S.e Γ X af ag 0 k G) (S.e Γ X af ag 0 v G)
  | [],_::_=>exact aN
  | [none],_=>exact aN
  | [some _],[]=>exact aN
  | [some _],_::_::_=>exact aN
  | none::_::_,[]=>exact aN
  | none::_::_,_::_=>exact aN
  | some _::_::_,[]=>exact aN
  | some _::_::_,_::_=>exact aN
 | Subscript=>exact S.x Γ X af ag _ _ _ G
 | ListComp=>exact(S.c Γ X af ag m _ _ _ _ G).1
 | Attribute =>
  show PE X _ (tE X af ag (ite _ _ _));split
  ·rename_i hb;exact SF (S.e Γ X af ag 0 _ G) (jx hb)
  ·exact aN
 | Call f as ks=>cases as with
  | cons=>cases ks with
   | cons=>exact aN
   | nil =>
    show PE X _ (tE X af ag (ite _ _ _));split
    ·rename_i hp;exact S.f Γ X af ag m _ _ _ _ G hp
    ·exact aN
  | nil=>cases ks with
   | cons=>cases f<;>exact aN
   | nil=>cases f with
    | Attribute =>
     show PE X _ (tE X af ag (ite _ _ _));split
     ·rename_i hc;rw[aF]at hc;split
      ·rename_i hx;have hx:=aR hx;subst hx;exact Oy (S.e Γ X af ag 0 _ G) (jx hc.1) hc.2
      split
      ·rename_i w hw;exact Sx hw (S.e Γ X af ag 0 _ G) (jx hc.1) hc.2
      ·exact JV G.Hx (S.e Γ X af ag 0 _ G) (jx hc.1) hc.2
     ·exact aN
    | Name C =>
     refine pJ λhc=>?_
     rw[aF]at hc;obtain⟨n1,n2,n3⟩:=f9 hc.1;refine pI (λh0=>?_) ?_
     ·obtain⟨Ca,hC,c,M,hm⟩:=G.vA _ h0;exact Tb M hC c (G.gN hc.2) hm n1
     ·cases hk:Γ.cls.lookup C with
      | none=>exact aN
      | some k =>
       obtain⟨j,Ca,f,fd,ps,hC,c,M,F,hr,q1,q2⟩:=G.cls _ k hk;exact(FD M F hr (G.gN hc.2) q1 q2 .nil rQ n1).imp λσ H Q h=>FE hC c h
    | _=>exact aN
 | _=>exact aN
end
theorem snd:∀n:Nat,XJ n
 | 0=>F7
 | n+1 =>
  have S:=snd n
  ⟨TM S,TL S,TK S,OP,OM,Tz S,ON S,OO S,Tv S,TC S,Tw S,Tq S,Ts S,Tt S,Tu S,TF S,TJ S⟩
structure XM (Γ:Gm) (X:Cx) (af:Hp) (ag:Fz):Prop extends GOk Γ X af ag where
 never:PassesOwn (model X.prog X.w) X.A X.env X.xe
noncomputable def F8:Expr->Bool
 | .ListComp _ _ _ _=>true
 | _=>false
def F9:G2:=mn (λ_ _=>true) λi j=>.int (i+j)
def zE:Operator->Option G2
 | .Add=>some F9
 | _=>none
def sI{c:Prop} [Decidable c] (h:c->PS X e (tS X af ag f)):PS X e (tS X af ag (if c then f else bU)):=by
 split
 ·exact h ‹_›
 ·exact gg
section
variable {Γ:Gm} {X:Cx} {x:Str} {p sp:Pos} {e:Expr} {op:Operator} {i:Nat} {af:Hp} {ag:Fz} {fe:Gx PV} {g:G2}
def Bj(h:zE op=some g):nP X (inplaceOp op) g:=by
 cases op<;>cases h
 exact ef (rS Ih) (λ_ _ _=>trivial) λ_ _ _=>aD.mpr rfl
def JZ{st:bP}(h:rd i st=some r):∃p,st.ρ[i]?=some (some p)/\r=(.ok p,st):=by
 obtain⟨p,e1,e2⟩:=aM h;cases z:st.ρ[i]? with
 | none=>rw[z]at e1;cases e1
 | some o =>
  rw[z]at e1;cases o with
  | none=>cases e1
  | some p'=>cases e1;exact⟨p,rfl,e2.symm⟩
def TN(ho:nP X (inplaceOp op) g)(he:PE X e (tE X af ag fe))(hN:X.N.Nodup)(hi:X.N[i]?=some x)(hx:KL X.env.scope x)(hf:X.fn x=true\/X.env.scope.names.lookup x=some .local):PS X (.AugAssign (.Name x p) op e sp) (tS X af ag (kX (op2 g (rd i) fe) (du i))):=by
 refine(Mz hN hi hx he (λah s σ H x y v u Q I r1 r2 t=>ho ah s σ H x y v u Q I r1 r2 t) hf).imp λD σ H h=>?_
 obtain⟨F,st,R,h⟩:=nR h;obtain⟨r,e1,e2⟩:=At.bnd h;obtain⟨q,e3,rfl⟩:=JZ e1;obtain⟨v,h3,h4⟩:=R.l.av i q e3;refine⟨v,h3,F,st,R,Tx.bnd (e2) λy w F1 st1 H1 R1 g1 b1 h1=>?_⟩
 obtain⟨z,hz,k⟩:=h1.hp;exact⟨af,ag,F1,st1,σ,q,y,z,hz,R1,h4.mono g1,b1,k⟩
def wY(G:GOk Γ X af ag)(hs:slot Γ x=some i)(hx:Qh Γ x=true)(he:PE X e (tE X af ag fe))(hsw:swapsWith e (some (.Name x p)) sp.line X.env=pure false):PS X (.Assign [.Name x p] e sp) (tS X af ag (kX fe (du i))):=by
 obtain⟨h1,h2⟩:=G.OD hx;exact(My G.nd (G.sE hs) h1 he hsw h2).imp λD σ H h=>nR h
def zF :
  (swapsWith (.ListComp elt gens scope cp) (some (.Name x p)) sp.line X.env=pure true/\X.env.scope.names.lookup x=some .local)\/swapsWith (.ListComp elt gens scope cp) (some (.Name x p)) sp.line X.env=pure false:=by
 have e:swapsWith (.ListComp elt gens scope cp) (some (.Name x p)) sp.line X.env=pure (X.env.blockKind==.function&&X.env.kindOf x==some .local&&p.line==(Expr.ListComp elt gens scope cp).pos.line&&!(scope.names.any fun(n,k)=>n==x&&(k==.local || k==.cell))):=rfl
 rw[e];cases hb:(X.env.blockKind==.function&&X.env.kindOf x==some .local&&p.line==(Expr.ListComp elt gens scope cp).pos.line&&!(scope.names.any fun(n,k)=>n==x&&(k==.local || k==.cell)))with
 | true =>
  refine .inl ⟨rfl,?_⟩;simp only[aF]at hb;exact aR hb.1.1.2
 | false=>exact .inr rfl
def CU(h:(jd e || F8 e)=true)(l:Nat)(env:Env):swapsWith e (some (.Attribute a x p)) l env=pure false:=by
 cases e<;>first | rfl | cases h
def CV{a x:Expr}(h:(jd e || F8 e)=true)(l:Nat)(env:Env):swapsWith e (some (.Subscript a x p)) l env=pure false:=by
 cases e<;>first | rfl | cases h
def zG(h:nV k=true)(env:Env)(v:Value):assign (.Subscript o k p) env v=(do
   let ov <-holding [v] (eval o env)
   let iv <-holding [v,ov] (eval k env)
   standAt p
   holding [v,ov,iv] (setItem ov iv v)
   release [v,ov,iv] []):=by
 cases k<;>first | rfl | cases h
def zH(env:Env):swappedStores [.Subscript o k p] e env=pure none:=by
 cases e<;>rfl
end
def ZM:Nat:=8000000
def isD(Γ:Gm):Expr->Bool
 | .Name x _=>md Γ x==10
 | _=>false
noncomputable def ZN:Str:="[return]"
def asName(n:Nat)(Γ:Gm)(x:Str)(e:Expr):Gx dE:=if(Qh Γ x&&(jd e || F8 e))=true then(match slot Γ x with | some i=>kX (aS n Γ (md Γ x) e) (du i) | none=>bU)else bU
noncomputable def Lw(n:Nat)(Γ:Gm)(tg e:Expr):Gx dE:=match tg with
 | .Name x _=>asName n Γ x e
 | .Tuple ts k p=>if Bh e=true then(match uZ n Γ (.Tuple ts k p)with | some g=>kX (aS n Γ 0 e) g.1 | none=>bU)else bU
 | .Subscript o k _=>if(nV k&&(jd e || F8 e))=true then N2 (aS n Γ (Tn Γ o) e) (aS n Γ 0 o) (aS n Γ 0 k)else bU
 | .Attribute o f _=>if(jd e || F8 e)=true then JB Γ.clss Γ.flds f (aS n Γ (md Γ f) e) (aS n Γ 0 o)else bU
 | _=>bU
noncomputable def Lx(n:Nat)(Γ:Gm)(tg:Expr)(op:Operator)(e:Expr):Gx dE:=match tg with
 | .Name x _=>if Qh Γ x=true then(match slot Γ x,zE op with | some i,some g=>kX (op2 g (rd i) (aS n Γ 0 e)) (du i) | _,_=>bU)else bU
 | .Attribute o f _=>(match zE op with | some g=>FH Γ.clss Γ.flds f g (aS n Γ 0 o) (aS n Γ 0 e) | none=>bU)
 | _=>bU
mutual
noncomputable def OQ:Nat->Gm->Stmt->Gx dE
 | 0,_,_=>bU
 | n+1,Γ,st=>match st with
  | .Pass _=>cf .nx
  | .Break _=>cf .bk
  | .Continue _=>cf .ct
  | .Return none _=>cf (.rt .aL)
  | .Return (some e) _=>if md Γ ZN==7 then EC (NV (aS n Γ 1 e))else EC (aS n Γ (md Γ ZN) e)
  | .If c a b _=>nv (qZ n Γ c) (jg n Γ a) (jg n Γ b)
  | .While c b [] _=>j9 (qZ n Γ c) (jg n Γ b) ZM
  | .For tg iter body [] _=>if aV iter=true then(match uZ n Γ tg with | some g=>if isD Γ iter=true then bU else Jv (F6 n Γ tg iter) g.1 (jg n Γ body) | none=>bU)else bU
  | .Expr e _=>if jd e=true then AE (aS n Γ 0 e)else bU
  | .Assign [tg] e _=>Lw n Γ tg e
  | .AugAssign tg op e _=>Lx n Γ tg op e
  | _=>bU
termination_by structural n=>n
noncomputable def jg:Nat->Gm->List Stmt->Gx dE
 | 0,_,_=>bU
 | n+1,Γ,[]=>cf .nx
 | n+1,Γ,[st]=>OQ n Γ st
 | n+1,Γ,st::Qi=>pM (OQ n Γ st) (jg n Γ Qi)
termination_by structural n=>n
end
structure XN (n:Nat):Prop where
 s:∀Γ X af ag st,XM Γ X af ag->PS X st (tS X af ag (OQ n Γ st))
 ss:∀Γ X af ag Qi,XM Γ X af ag->PSs X Qi (tS X af ag (jg n Γ Qi))
def OR:PSs X s (tS X af ag bU):=λ_ _ _ _ _ _ ⟨F,st,R,r,z,_⟩=>by cases z
def OS(G:GOk Γ X af ag):PS X (.Assign [tg] e sp) (tS X af ag (Lw n Γ tg e)):=by
 have S:=snd n;cases tg with
 | Name x p =>
  refine sI λhc=>?_
  rw[aF]at hc;cases hi:slot Γ x with
  | none=>exact gg
  | some i =>
   rcases Bool.or_eq_true _ _▸hc.2 with hn | hl
   ·exact wY G hi hc.1 (S.e Γ X af ag _ _ G) (je hn _ _ _)
   ·cases e<;>try (exact absurd hl bB)
    rcases zF with⟨z,hl⟩ | z
    ·cases n with
     | zero=>exact u4
     | succ n=>exact((snd n).c Γ X af ag _ _ _ _ _ G).2 i x p sp (G.sE hi) hl z
    ·exact wY G hi hc.1 (S.e Γ X af ag _ _ G) z
 | Tuple ts k tp =>
  refine sI λhc=>?_
  cases h1:uZ n Γ (.Tuple ts k tp)with
  | none=>exact gg
  | some g =>
   obtain⟨g1,g2,g3,g4⟩:=lx G n _ g h1;refine RO (S.e Γ X af ag _ _ G) g1 (je (uY hc) (some (Expr.Tuple ts k tp)) sp.line X.env) ?_ (g3 _);cases e<;>first | rfl | cases hc
 | Subscript o k tp =>
  refine sI λhc=>?_
  rw[aF]at hc;exact Sz G.un (S.e Γ X af ag _ _ G) (S.e Γ X af ag _ _ G) (S.e Γ X af ag _ _ G) (zG hc.1 _) (CV (a:=o) (x:=k) (p:=tp) hc.2 sp.line X.env) (zH _)
 | Attribute=>exact sI λhc=>SG G.OC (S.e Γ X af ag _ _ G) (S.e Γ X af ag _ _ G) (CU hc _ _)
 | _=>exact gg
def OT(G:GOk Γ X af ag):PS X (.AugAssign tg op e sp) (tS X af ag (Lx n Γ tg op e)):=by
 cases tg with
 | Name x p =>
  refine sI λhc=>?_
  cases h1:slot Γ x with
  | none=>exact gg
  | some i=>cases h2:zE op with
   | none=>exact gg
   | some g =>
    obtain⟨l1,l2⟩:=G.OD hc;exact TN (Bj h2) ((snd n).e Γ X af ag _ _ G) G.nd (G.sE h1) l1 l2
 | Attribute o f p =>
  cases h2:zE op with
  | none=>show PS X _ (tS X af ag (match zE op with | some g=>FH Γ.clss Γ.flds f g (aS n Γ 0 o) (aS n Γ 0 e) | none=>bU));rw[h2];exact gg
  | some g=>show PS X _ (tS X af ag (match zE op with | some g=>FH Γ.clss Γ.flds f g (aS n Γ 0 o) (aS n Γ 0 e) | none=>bU));rw[h2];exact Ox G.OC ((snd n).e Γ X af ag _ _ G) ((snd n).e Γ X af ag _ _ G) (Bj h2)
 | _=>exact gg
theorem XO:∀n:Nat,XN n
 | 0=>⟨λ_ _ _ _ _ _=>gg,λ_ _ _ _ _ _=>OR⟩
 | n+1=>by
  have T:=XO n;have S:=snd n;refine⟨λΓ X af ag st G=>?_,λΓ X af ag Qi G=>?_⟩
  ·cases st with
   | Pass=>exact Nh
   | Break=>exact IP
   | Continue=>exact Ni
   | Return e=>cases e with
    | none=>exact Nj
    | some e =>
     show PS X _ (tS X af ag (ite _ _ _));split
     ·exact K2 (Sr (S.e Γ X af ag _ _ G.toGOk))
     ·exact K2 (S.e Γ X af ag _ _ G.toGOk)
   | If=>exact WE (S.t Γ X af ag _ G.toGOk) (T.ss Γ X af ag _ G) (T.ss Γ X af ag _ G)
   | While c b o=>cases o with
    | nil=>exact IT ZM G.never (S.t Γ X af ag _ G.toGOk) (T.ss Γ X af ag _ G)
    | cons=>exact gg
   | For tg iter body o=>cases o with
    | cons=>exact gg
    | nil =>
     refine sI λhp=>?_
     cases h1:uZ n Γ tg with
     | none=>exact gg
     | some g =>
      show PS X _ (tS X af ag (ite _ _ _));split
      ·exact gg
      ·exact NU G.never G.calm (S.i Γ X af ag _ _ G.toGOk) (lx G.toGOk n _ g h1).1 (T.ss Γ X af ag _ G) (f7 hp _)
   | Expr=>exact sI λhc=>Nk (S.e Γ X af ag _ _ G.toGOk) (je hc _ _ _)
   | Assign ts=>rcases ts with _ | ⟨_,_ | _⟩<;>first | exact OS G.toGOk | exact gg
   | AugAssign=>exact OT G.toGOk
   | _=>exact gg
  ·rcases Qi with _ | ⟨st,_ | _⟩
   ·exact Nf
   ·exact Ng (T.s Γ X af ag st G)
   ·exact IM (T.s Γ X af ag st G) (T.ss Γ X af ag _ G)
def J0{P:Program}{w:World}{K:W.Frag}{mg:Str->Option Value}{base:Heap}{x qual:Str}{st:Stmt}{f:Addr}{fd:FuncData}{dV:Value}{N ps:List Str}{k:Nat}{sp:Sp}(F:qS K x qual st f fd dV)(S:cA N ps (ar st))(len:∀vs H Q E,sp vs H Q E->vs.length=ps.length)
  (hbody:∀(cF:Value) (A:Around) (aB:List Env) (s:Shared) (H:Hp) (vs:List V) (Q:VK) (E:XK),uO K f cF->cN k (A.deeper (envOfC qual (ar st) s.heap.objs.size f cF))->sp vs H Q E ->
   ∃t,PSs (ek (gE P w) P w K mg base N qual (ar st) f cF A aB s H E) (bO st) t/\t {nx:=λ_ H'=>Q .aL H',rt:=Q} (start N vs) H):FnOk P w K mg base (gE P w) (k+1) f fd ps sp:=by
 obtain⟨oc,od,kV,doc,pm,an,cF,ct,oR,rfl,lk,xM⟩:=F.ex;exact KU lk xM S len λA aB s H vs Q E hr KW=>hbody cF A aB s H vs Q E ⟨oc,od,_,oR,lk,rfl⟩ hr KW
def OU{P:Program}{w:World}{K:W.Frag}{mg:Str->Option Value}{base:Heap}{x qual:Str}{st:Stmt}{f:Addr}{fd:FuncData}{N ps:List Str}{k:Nat}{fb:Gx dE}{dV:Value}(F:qS K x qual st f fd dV)(S:cA N ps (ar st))
  (hbody:∀(cF:Value) (A:Around) (aB:List Env) (s:Shared) (H:Hp) (E:XK),uO K f cF->cN k (A.deeper (envOfC qual (ar st) s.heap.objs.size f cF))->∀(af:Hp) (ag:Fz),
   PSs (ek (gE P w) P w K mg base N qual (ar st) f cF A aB s H E) (bO st) (tS (ek (gE P w) P w K mg base N qual (ar st) f cF A aB s H E) af ag fb)):FnOk P w K mg base (gE P w) (k+1) f fd ps (r9 K ps.length (gj fb N.length)):=by
 refine J0 F S (by rintro vs H Q E ⟨_,_,_,_,_,_,_,_,b,hl,_⟩;rw[<-b.length];exact hl) λcF A aB s H vs Q E Vh hr z9=>?_
 obtain⟨af,F,h,as,r,h',C,full,b,hl,hf,res⟩:=z9;refine⟨_,hbody cF A aB s H E Vh hr af F,F,⟨fy N.length as,h⟩,⟨C,wD b⟩,?_⟩;obtain⟨q,e1,e2⟩:=aK hf;refine⟨q,e1,?_⟩;rcases q with⟨f | ⟨m,c⟩,st⟩
 ·cases f with
  | rt=>cases e2;exact λv F' H' C' g b'=>res v F' H' C' b'
  | nx=>cases e2;exact λF' bz H' R g=>res .aL F' H' R.c (cG.mpr rfl)
  | _=>cases e2
 ·cases e2;cases m with
  | true=>exact λF' bz H' ah s1 h1 a cls vs R sf I hc hm=>A2 I hm (A3 full R.c) (res cls F' H' R.c hc)
  | false=>exact λbz ah H1 s1 e s' I h=>wC I h (by rintro cls H2 ⟨hc,F',R,sf⟩;exact⟨A3 full R.c,res cls F' H2 R.c hc⟩)
def zI:Nat:=120
abbrev CT:=Str->jw
noncomputable def noFn:CT:=λ_ _ _=>none
def J1(P:Pg):List (Str×Nat):=P.cls.map λd=>(d.1,(params d.2).length)
def TQ(P:Pg)(x:Str)(st:Stmt)(cls:List (Str×Nat))(make:CT)(FK:Option ((PV->Gx PV)->Nat->jw))(FL:Option (Nat×(PV->Gx PV)))(c:CT):Gm where
 sc:=(ar st).names
 N:=bK st
 own:=true
 fns:=P.defs.map λd=>(d.1,(params d.2).length)
 call:=c
 cons:=P.cons
 cY:=P.cY
 tabs:=P.tabs
 d7:=P.d7
 cls:=cls
 make:=make
 clss:=P.cls.map (·.1)
 flds:=P.flds
 Qu:=(P.Qu.lookup x).getD []
 FK:=FK
 FL:=FL
 Hx:=P.fR.map λd=>((d.2.1,d.2.2.1),(d.1,(params d.2.2.2).length))
 jo:=P.jo
 vA:=P.vA
def ZO(P:Pg)(C:Str)(st:Stmt)(c:CT):Gx dE:=jg zI (TQ P C st [] noFn none none c) (bO st)
def Qj(P:Pg)(c:CT):CT:=λC=>match P.cls.lookup C with | some st=>gj (ZO P C st c) (bK st).length | none=>λ_ _=>none
noncomputable def TR(P:Pg)(x:Str)(c:CT):Option ((PV->Gx PV)->Nat->jw):=none
def XQ(P:Pg)(x:Str)(st:Stmt)(c:CT):Gx dE:=jg zI (TQ P x st (J1 P) (Qj P c) (TR P x c) none c) (bO st)
noncomputable def j7(P:Pg)(x:Str):Option Stmt:=match P.defs.lookup x with | some st=>some st | none=>(P.fR.lookup x).map (·.2.2)
def run(P:Pg):Nat->CT
 | 0=>noFn
 | k+1=>λx=>match j7 P x with | some st=>gj (XQ P x st (run P k)) (bK st).length | none=>λ_ _=>none
def OW{P:Pg}{k:Nat}{x:Str}{st:Stmt}(h:j7 P x=some st):run P (k+1) x=gj (XQ P x st (run P k)) (bK st).length:=by
 show(match j7 P x with | some st=>gj (XQ P x st (run P k)) (bK st).length | none=>λ_ _=>none)=_
 rw[h]
theorem gv{α β:Type}(g:α->β)(x:Str):∀l:List (Str×α),(l.map λd=>(d.1,g d.2)).lookup x=(l.lookup x).map g
 | []=>rfl
 | (n,a)::r=>by
  rw[aO,cW,cW];cases x==n with
  | true=>rfl
  | false=>exact gv g x r
section
variable {prog:Program} {w:World} {K:W.Frag} {mg:Str->Option Value} {base:Heap}
structure nE (P:Pg) (w:World) (K:W.Frag) (mg:Str->Option Value):Prop where
 fns:∀x st,P.defs.lookup x=some st->∃f fd dV,qS K x x st f fd dV/\cz K fd (params st) []/\mg x=some (.ref f)/\cA (bK st) (params st) (ar st)/\∀ds,P.jo.lookup x=some ds->∃iS oS,Vals iS oS/\(∀F,ax K F ds iS)/\cz K fd (params st) oS
 fR:∀d∈P.fR,∃Ca f fd dV,ClsAt K d.2.1 (.ref Ca)/\DC K Ca d.2.2.1 f/\qS K d.2.2.1 d.1 d.2.2.2 f fd dV/\cz K fd (params d.2.2.2) []/\cA (bK d.2.2.2) (params d.2.2.2) (ar d.2.2.2)/\j7 P d.1=some d.2.2.2
 vA:∀C,P.vA.contains C=true->∃Ca,ClsAt K C (.ref Ca)/\qN K Ca/\UW K Ca/\mg C=some (.ref Ca)
 cons:∀x p,P.cons.lookup x=some p->∃u v,mg x=some u/\RelV v u/\∀F,aU K F p v
 cY:∀x,P.cY.contains x=true->mg x=none
 tabs:∀T rows,P.tabs.lookup T=some rows->A4 K mg w.params T rows
 d7:∀T rows,P.d7.lookup T=some rows->uP K mg w.params T rows
 ns:∀x a,W.nsIn K mainGlobals x=some (some (.ref a))->mg x=some (.ref a)
 OC:wJ K (P.cls.map (·.1)) P.flds
 cls:∀C st,P.cls.lookup C=some st->∃Ca f fd,ClsAt K C (.ref Ca)/\qN K Ca/\Mk K Ca f/\mg C=some (.ref Ca)/\KC K "__init__" (C++".__init__") st f fd/\cz K fd (params st) []/\cA (bK st) (params st) (ar st)
def FR(P:Pg)(prog:Program)(w:World)(K:W.Frag)(mg:Str->Option Value)(base:Heap)(k:Nat):Prop:=∀(x nm q:Str) (st:Stmt) (f:Addr) (fd:FuncData) (dV:Value),j7 P x=some st->qS K nm q st f fd dV->cA (bK st) (params st) (ar st) ->
 FnOk prog w K mg base (gE prog w) (3*k) f fd (params st) (r9 K (params st).length (run P k x))
def qd{P:Pg}{x:Str}{st:Stmt}(h:P.defs.lookup x=some st):j7 P x=some st:=by
 unfold j7;rw[h]
section
variable {P:Pg} (O:nE P w K mg) {k:Nat} (ih:FR P prog w K mg base k)
include O ih
def TU{X:Cx}(h1:X.prog=prog)(h2:X.w=w)(h3:X.K=K)(h4:X.mg=mg)(h5:X.base=base):Tj X (3*k) (P.defs.map λd=>(d.1,(params d.2).length)) (run P k):=λy n hy=>by
 subst h1 h2 h3 h4 h5;rw[gv (λst=>(params st).length)]at hy
 obtain⟨st',h1,h2⟩:=aM hy;subst h2;obtain⟨f',Dt,dV,F1,B1,m1,S1,_⟩:=O.fns y st' h1;exact⟨3*k,f',Dt,params st',az _,ih y y y st' f' Dt dV (qd h1) F1 S1,m1,F1.kp,B1⟩
def TV{X:Cx}(h1:X.prog=prog)(h2:X.w=w)(h3:X.K=K)(h4:X.mg=mg)(h5:X.base=base)(hr:cN (3*k) X.A):Lr X (P.defs.map λd=>(d.1,(params d.2).length)) (run P k) P.jo:=λy ds n hd hy=>by
 subst h1 h2 h3 h4 h5;rw[gv (λst=>(params st).length)]at hy
 obtain⟨st',h1,h2⟩:=aM hy;subst h2;obtain⟨f',Dt,dV,F1,B1,m1,S1,D1⟩:=O.fns y st' h1;obtain⟨iS,oS,d1,d2,d3⟩:=D1 ds hd;exact⟨3*k,f',Dt,params st',iS,oS,ih y y y st' f' Dt dV (qd h1) F1 S1,hr,m1,F1.kp,d1,d2,d3⟩
def TX{X:Cx}(h1:X.prog=prog)(h2:X.w=w)(h3:X.K=K)(h4:X.mg=mg)(h5:X.base=base)(hr:cN (3*k) X.A):uV X (P.fR.map λd=>((d.2.1,d.2.2.1),(d.1,(params d.2.2.2).length))) (run P k):=λC m y hy=>by
 subst h1 h2 h3 h4 h5;obtain⟨d,hd,e⟩:=dC.mp hy;cases e;obtain⟨Ca,f',Dt,dV,c1,M1,F1,B1,S1,L1⟩:=O.fR d hd;exact⟨3*k,f',Dt,params d.2.2.2,Ca,c1,M1,ih d.1 d.2.2.1 d.1 d.2.2.2 f' Dt dV L1 F1 S1,hr,B1⟩
def Ly{st:Stmt}{x q:Str}{f:Addr}{cF:Value}{A:Around}{aB:List Env}{s:Shared}{H af:Hp}{ag:Fz}{E:XK}{cls:List (Str×Nat)}{make:CT}{FK:Option ((PV->Gx PV)->Nat->jw)}{FL:Option (Nat×(PV->Gx PV))}{j:Nat}(S:cA (bK st) (params st) (ar st))
  (hr:cN j (A.deeper (envOfC q (ar st) s.heap.objs.size f cF))) (hj:3*k<=j) (hcl:∀C n,cls.lookup C=some n->∃k' Ca f' fd ps,ClsAt K C (.ref Ca)/\qN K Ca/\Mk K Ca f'/\FnOk prog w K mg base (gE prog w) k' f' fd ps (r9 K n (make C))/\cN (k'+1) (A.deeper (envOfC q (ar st) s.heap.objs.size f cF))/\mg C=some (.ref Ca)/\cz K fd ps [])
  (XR:∀rs,FK=some rs->Ls (TQ P x st cls make FK FL (run P k)) (ek (gE prog w) prog w K mg base (bK st) q (ar st) f cF A aB s H E) rs)
  (XS:∀n ω,FL=some (n,ω)->Fj (ek (gE prog w) prog w K mg base (bK st) q (ar st) f cF A aB s H E) af ag n ω) :
  XM (TQ P x st cls make FK FL (run P k)) (ek (gE prog w) prog w K mg base (bK st) q (ar st) f cF A aB s H E) af ag:=by
 refine⟨⟨rfl,rfl,S.nd,S.kind,rfl,hr.hd,?_,λ_ _=>rfl,λy n hy=>?_,O.cons,O.cY,O.tabs,O.d7,O.ns,O.OC,hcl,XR,XS,TX (X:=ek (gE prog w) prog w K mg base (bK st) q (ar st) f cF A aB s H E) O ih rfl rfl rfl rfl rfl (hr.mono hj),TV (X:=ek (gE prog w) prog w K mg base (bK st) q (ar st) f cF A aB s H E) O ih rfl rfl rfl rfl rfl (hr.mono hj),O.vA⟩,PassesOwn.leaving⟩
 ·have:=hr.un;show(A.deeper _).units+1150<cLine
  lia
 ·obtain⟨i,f',Dt,ps,h1,h2,h3,h4,h5⟩:=TU (X:=ek (gE prog w) prog w K mg base (bK st) q (ar st) f cF A aB s H E) O ih rfl rfl rfl rfl rfl y n hy;exact⟨i,f',Dt,ps,h2,hr.mono (aJ h1 hj),h3,h4,h5⟩
def Ga{C:Str}{st:Stmt}{f:Addr}{fd:FuncData}(h:P.cls.lookup C=some st)(F:KC K "__init__" (C++".__init__") st f fd)(S:cA (bK st) (params st) (ar st)):FnOk prog w K mg base (gE prog w) (3*k+1) f fd (params st) (r9 K (params st).length (Qj P (run P k) C)):=by
 have e:Qj P (run P k) C=gj (ZO P C st (run P k)) (bK st).length:=by
  unfold Qj;rw[h]
 rw[e];exact NY F S λcF A aB s H E _ hr af ag=>(XO zI).ss _ _ af ag _ (Ly O ih S hr (az _) (λ_ _ z=>by cases z) (λ_ z=>by cases z) λ_ _ z=>by cases z)
end
theorem Gb{P:Pg}(O:nE P w K mg)(hB:P.qT≠[]->Ew mg base):∀(k:Nat),FR P prog w K mg base k
 | 0=>λx nm q st f fd dV h F S=>by
  have no:∀vs H Q E,¬r9 K (params st).length (run P 0 x) vs H Q E:=λvs H Q E ⟨_,_,_,_,_,_,_,_,_,_,z,_⟩=>by cases z
  exact⟨λvs H Q E h=>absurd h (no vs H Q E),λA aB s H args us vs Q E _ _ _ _ h=>absurd h (no vs H Q E)⟩
 | k+1=>λx nm q st f fd dV h F S=>by
  have ih:=Gb (P:=P) O hB k;rw[OW h];refine OU (k:=3*k+2) F S λcF A aB s H E Vh hr af ag=>(XO zI).ss _ _ af ag _ (Ly O ih S hr (yw _ _) (λC n hy=>?_) (λrs e=>by cases e) λ_ _ z=>by cases z)
  unfold J1 at hy;rw[gv (λst=>(params st).length)]at hy
  obtain⟨st',h1,h2⟩:=aM hy;subst h2;obtain⟨Ca,f',Dt,a,c,M,m1,F1,B1,S1⟩:=O.cls C st' h1;exact⟨3*k+1,Ca,f',Dt,params st',a,c,M,Ga O ih h1 F1 S1,hr,m1,B1⟩
def nW(ns:List Int):PV:=.lst (ns.map .int)
theorem wZ{F:Fz}:∀ns:List Int,ax K F (ns.map .int) (ns.map V.int)
 | []=>.nil
 | n::r=>.cons (aD.mpr rfl) (wZ r)
end
theorem eM{α β:Type} [BEq α] [LawfulBEq α] {k:α} {v:β}:∀{l:List (α×β)},l.lookup k=some v->(k,v)∈l
 | [],h=>by cases h
 | (a,b)::l,h=>by
  rw[cW]at h;cases z:k==a with
  | true =>
   rw[z]at h;cases h;rw[aR z];exact dj
  | false =>
   rw[z]at h;exact cH _ (eM h)
def BQ.at{K:W.Frag}{h:Heap}{mg:Str->Option Value}{P:Params}{T:Str}{rows:List (Str×Str)}(x:BQ K P T rows)(X:K.In h)(G:h.Ns mainGlobals mg):A4 K mg P T rows:=by
 obtain⟨a,es,n,h1,h2,h3,h4⟩:=x;refine⟨a,es,n,W.mg_of X G h1,h2,h3,λk fn e=>?_⟩
 obtain⟨f,h5,h6⟩:=h4 (k,fn) (eM e);exact⟨f,h5,W.mg_of X G h6,h6⟩
def vI.at{K:W.Frag}{h:Heap}{mg:Str->Option Value}{P:Params}{T:Str}{rows:List (Str×PV)}(x:vI K P T rows)(X:K.In h)(G:h.Ns mainGlobals mg):uP K mg P T rows:=by
 obtain⟨a,es,n,h0,h1,h2,h3,h4⟩:=x;exact⟨a,es,n,h0,W.mg_of X G h1,h2,h3,λk p e=>h4 (k,p) (eM e)⟩
def DE.at{K:W.Frag}{h base:Heap}{mg:Str->Option Value}(b:DE K)(X:K.In h)(G:h.Ns mainGlobals mg)(Y:K.In base):Ew mg base :=
 let ⟨bm,o,h1,h2,h3,h4,h5⟩:=b;⟨bm,o,W.mg_of X G h1,h2,h3,Y _ _ h4,h5⟩
def w5(K:W.Frag):List (Addr×Str):=dq.filterMap λx=>(W.tabIn K x).map λcT=>(cT.2,HS x)
def CW(K:W.Frag):(w5 K).map (·.1)=dq.filterMap λx=>(W.tabIn K x).map (·.2):=by
 unfold w5;rw[List.map_filterMap]
 congr 1
 funext x
 cases W.tabIn K x<;>rfl
def kD.tabs{K:W.Frag}{h:Heap}(t:kD K h)(X:K.In h):(∀b q,(w5 K).lookup b=some q->h.get? b=some {cls:=.none,data:=.fields #[]}/\isCodeTable h b/\K.lookup b=none)/\∀H:Hp,(∀b q,(w5 K).lookup b=some q->H b=some (.yE q))->oZ K H:=by
 refine⟨λb q e=>?_,λH hH x hx c T e=>?_⟩
 ·have hm:=eM e;unfold w5 at hm;obtain⟨x,hx,e2⟩:=oA.mp hm;obtain⟨cT,e3,e4⟩:=jO.mp e2;cases e4;obtain⟨h1,h2,h3⟩:=t.at_ x hx cT.1 cT.2 e3;obtain⟨o,vs,_,_,_,_,_,_,_,g1,g2,g3,g4,_⟩:=W.codeHd_of_K X h1;exact⟨h2,⟨_,o,vs,g1,g2,g3,g4⟩,h3⟩
 ·refine hH T (HS x) (jq (by rw[CW];exact t.nd) ?_)
  exact oA.mpr ⟨x,hx,by rw[e];rfl⟩
def TY(P:Pg):Bool:=P.qT.isEmpty || (match P.defs.lookup ("spread":Str)with | some st=>(params st).length==2 | none=>true)
theorem iA{α β:Type} [BEq α] [LawfulBEq α] {x:α}:∀{l:List (α×β)},x∉l.map (·.1)->l.lookup x=none
 | [],_=>rfl
 | (a,b)::l,h=>by
  rw[aO,aW,not_or]at h;rw[cW,eA.mpr h.1];exact iA h.2
theorem Gd{P:Pg}(hn:(P.defs.map (·.1)++P.fR.map (·.1)).Nodup){d:Str×(Str×Str×Stmt)}(hd:d∈P.fR):j7 P d.1=some d.2.2.2:=by
 rw[yl]at hn;have h1:P.defs.lookup d.1=none:=iA λz=>hn.2.2 _ z _ (yh (f:=λy:Str×(Str×Str×Stmt)=>y.1) hd) rfl
 have h2:P.fR.lookup d.1=some d.2:=jq hn.2.1 hd;unfold j7;rw[h1,h2];rfl
def XT{P:Pg}{K:W.Frag}{h:Heap}{mg:Str->Option Value}(X:K.In h)(G:h.Ns mainGlobals mg)(hd:∀d∈P.defs,DD K P.jo d.1 d.2)(hm:∀d∈P.fR,LY K d)(hm0:∀C∈P.vA,LZ K C)(ND:(P.defs.map (·.1)++P.fR.map (·.1)).Nodup)
  (hc:∀d∈P.cons,∃u v,W.nsIn K mainGlobals d.1=some (some u)/\RelV v u/\∀F,aU K F d.2 v) (hb:∀x∈P.cY,W.nsIn K mainGlobals x=some none) {w:World} (ht:∀d∈P.tabs,BQ K w.params d.1 d.2) (hcl:∀d∈P.cls,LX K d.1 d.2 P.flds) (hct:∀d∈P.d7,vI K w.params d.1 d.2) (LS:TY P=true) (YK:∀x∈P.qT,L0 K x):nE P w K mg where
 fns:=λx st e=>by
  obtain⟨⟨f,fd,dV,a,F,b,c,_⟩,s⟩:=hd (x,st) (ez e);exact⟨f,fd,dV,F,b,W.mg_of X G a,s,c⟩
 fR:=λd ZP=>by
  obtain⟨Ca,f,fd,dV,h1,h2,h3,h4,h5⟩:=hm d ZP;exact⟨Ca,f,fd,dV,h1,h2,h3,h4,h5,Gd ND ZP⟩
 vA:=λC e=>by
  obtain⟨Ca,h1,h2,h3⟩:=hm0 C (by simpa using e)
  exact⟨Ca,h1,h2,h3,W.mg_of X G h1⟩
 cons:=λx p e=>by
  obtain⟨u,v,a,r,b⟩:=hc (x,p) (ez e);exact⟨u,v,W.mg_of X G a,r,b⟩
 cY:=λx e=>W.mg_none_of X G (hb x (by simpa using e))
 tabs:=λT rows e=>(ht (T,rows) (eM e)).at X G
 d7:=λT rows e=>(hct (T,rows) (eM e)).at X G
 ns:=λx a e=>W.mg_of X G e
 OC:=λC e=>by
  have e:C∈P.cls.map (·.1):=by simpa using e
  obtain⟨d,hd,rfl⟩:=dC.mp e;obtain⟨Ca,f,fd,a,M,c,na,F,b,s⟩:=hcl d hd;exact⟨Ca,a,c,λg hg=>na g (by simpa using hg)⟩
 cls:=λC st e=>by
  obtain⟨Ca,f,fd,a,M,c,na,F,b,s⟩:=hcl (C,st) (ez e);exact⟨Ca,f,fd,a,c,M,W.mg_of X G a,F,.all b,s⟩
def XU(o:Option (Rs PV×List aj)):Prop:=∃h,o=some (.ok (.bl true),h)
def OX{K:W.Frag}{P:Pg}{k:Nat}{H:Hp}{a:Addr}{ns:List Int}(hr:XU (run P k "law" [nW ns] []))(hS:gZ K H a (ns.map V.int)):r9 K 1 (run P k "law") [.ref a] H (λv _=>v=.bl true) λ_ _ _=>False :=
 let ⟨h,e⟩:=hr
 ⟨H,⟨H,[]⟩,[],[nW ns],_,h,⟨bT.refl H,bT.refl H,Gr.refl _,λ_ _ e=>.inl e,λn a e=>by simp at e,rfl,oI,λn c a e=>by simp at e⟩,λ_ _ e=>.inl e,.cons (cZ.mpr ⟨a,_,rfl,hS,wZ ns⟩) .nil,rfl,e,λv F' H' _ b=>aX.mp b⟩
def Ge{P:Pg}{N:Nat}{x:Str}{st:Stmt}{l:W.OpenLaw}{q:Program}{loose:List Str}{XP:(Str->Option Value)->Heap->Prop}{YP:World->Heap->Prop}{d:DefRec}(qO:P.defs.lookup ("law":Str)=some st)(hx:params st=[x])
  (hn:l.most=some 63) (Vl:d.name="law") (QB:d.params.defaults=[]) (hr:cN (3*N) callerA) (LS:TY P=true) (ND:(P.defs.map (·.1)++P.fR.map (·.1)).Nodup) (NO:P.jo.lookup ("law":Str)=none) (hY:∀(w:World) (h:Heap),YP w h->∃K:W.Frag,K.In h/\DF P w K/\kD K h)
  (XW:∀ns:List Int,ns.length<=63->XU (run P N "law" [nW ns] [])):W.WalkO q loose XP YP l.row.toRowW d [] (λf vs=>PySem.call f vs):=by
 refine Y3.vZ hn QB λw s₀ s₁ mg mb fa o pm cd doc a vs ns G Y ho hd xM P8 Es Et d8 hg=>?_
 obtain⟨K,KX,T,TH⟩:=hY w _ Y;obtain⟨t1,t2⟩:=TH.tabs KX;have O:=XT KX G.T.g T.hd T.hm T.hm0 ND T.hc T.hb T.ht T.hcl T.hct LS T.YK;obtain⟨⟨f,fd,dV,e0,F,_,_,b⟩,s⟩:=T.hd ("law",st) (ez qO);have b:=b NO;rw[Vl]at P8;have e:=P8.symm.trans (W.mg_of KX G.T.g e0);cases e;rw[hx]at b;refine Cf (CX:=gE l.prog w) KX G.T.g G.T.b G.T.builtins G.T.nolimit hg t1 t2 Es Et (aJ d8 (by decide)) hr (λbase kb _=>?_) (λs u=>.of_eq (b [u] rfl)) (λH hS=>OX (XW ns d8) hS) (by rintro _ _ _ ⟨_,_,_,_,_,_,_,_,_,_,_,h,_⟩;exact h)
 have k:=Gb (prog:=l.prog) O (λz=>(T.hbm z).at KX G.T.g kb) N "law" "law" "law" st _ fd dV (qd qO) F s
 rw[hx]at k;exact k
abbrev Ev{α:Type}(f:Gx α)(s:bP)(a:α)(s':bP):Prop:=f s=some (.ok a,s')
abbrev Ek {α : Type} (f : Gx α) (s : bP) (a : α) : Prop := Ev f s a s
section
variable {α β:Type} {s s1 s2 s3:bP}
def eB(h:Ev f s a s1)(h2:k a s1=r):bnd f k s=r:=by
 show(f s).bind (M8 k)=r;rw[h];exact h2
variable {fa fb fe:Gx PV} {ts:Gx (List PV)} {p q x y z:PV} {ps as:List PV}
def b2(ha:Ev fa s x s1)(hb:Ev fb s1 y s2)(h:g s2.h x y=some z):Ev (op2 g fa fb) s z s2:=eB ha (eB hb (by show(g s2.h x y).map _=_;rw[h];rfl))
variable {f g:Gx dE} {r:Option (Rs dE×bP)}
def XX(e:f ⟨fy n as,h⟩=some (.ok (.rt p),⟨ρ',h'⟩)):gj f n as h=some (.ok p,h'):=by
 unfold gj;rw[e];rfl
def runN(e:f ⟨fy n as,h⟩=some (.ok .nx,⟨ρ',h'⟩)):gj f n as h=some (.ok .aL,h'):=by
 unfold gj;rw[e];rfl
variable {t:Tg} {body:Gx dE}
def fC(ht:t p s=some s1)(hb:Ev body s1 .nx s2)(h:gH t body ps s2=r):gH t body (p::ps) s=r:=eB (show Ev (stp (t p)) s .nx s1 by show(t p s).map _=_;rw[ht];rfl) (eB hb h)
def e1(ht:t p ⟨ρ,h⟩=some ⟨La,h1⟩)(he:Ev fe ⟨La,h1⟩ q ⟨OY,h2⟩):pW t fe ρ p h=some (some q,h2):=by
 unfold pW;rw[ht,iN,he];rfl
def e2T(ht:t p ⟨ρ,h⟩=some ⟨La,h1⟩)(hw:Ev ft ⟨La,h1⟩ true ⟨OY,h2⟩)(he:Ev fe ⟨OY,h2⟩ q ⟨ρ3,h3⟩):wx t ft fe ρ p h=some (some q,h3):=by
 unfold wx;rw[ht,iN,hw,iN];show(if true=true then(fe ⟨OY,h2⟩).bind _ else _)=_
 rw[if_pos rfl,he];rfl
def e2F(ht:t p ⟨ρ,h⟩=some ⟨La,h1⟩)(hw:Ev ft ⟨La,h1⟩ false ⟨OY,h2⟩):wx t ft fe ρ p h=some (none,h2):=by
 unfold wx;rw[ht,iN,hw];rfl
end
end L2.U
namespace L2.U
open PySem L2
def Gf(hp:noRef p=true):gM h p=some p:=by
 unfold gM;split
 ·rfl
 ·unfold mD;rw[if_pos hp]
end L2.U
noncomputable section
namespace bS
open PySem L2 L2.U
abbrev TZ:Stmt:=top 96
noncomputable def fA:List Str:=["Frame","Run","Place"]
noncomputable def fB:List Str:=["at","has","row","program","world","numbers","listed","frames","said","count","value","away"]
def Gg(c:CT):CT:=Qj aP c
def XY(x:Str)(st:Stmt)(mk:CT)(cls:List (Str×Nat))(c:CT):Gm:={TQ aP x st cls mk (TR aP x c) none c with clss:=fA,flds:=fB}
def ZQ(x:Str)(st:Stmt)(c:CT):Gx dE:=jg zI (XY x st (Gg c) (J1 aP) c) (bO st)
abbrev kI (n : Int) : Gx PV := cf (.int n)
abbrev kS (s : Str) : Gx PV := cf (.str s)
abbrev Q0 := za 2 (pN (du 4) (pN (du 5) Cj))
abbrev Q1 := JA "frames" (rd 0)
abbrev Q2 := pW (du 1) (Ci (cf [])) [none,none]
def J2:List (Str×Nat):=aP.defs.map λd=>(d.1,(params d.2).length)
abbrev Rn(x:Str)(F:CT->Gx dE)(n:Nat):Prop:=∀k,run aP (k+1) x=gj (F (run aP k)) n
open Lean Meta in
dsimproc_decl XZ (Str.mk _):=λe=>do
 let .app _ (.app _ l):=e | return .continue
 let some l <-getListLit? l | return .continue
 return .done (mkApp (mkConst ``Str.ofString) (toExpr (String.ofList (l.toList.map λx=>Char.ofNat (x.nat?.getD 0)))))
open Lean in
dsimproc_decl X0 (Int.ofNat _):=λe=>do
 let .app _ n:=e | return .continue
 let some n:=n.nat? | return .continue
 return .done (toExpr (n:Int))
noncomputable def ZR(s:List Stmt):List Nat->List Stmt
 | []=>s
 | i::r=>ZR (match s[i]? with | some (.For _ _ b _ _) | some (.If _ b _ _) | some (.While _ b _ _) | some (.Try b _ _ _ _)=>b | _=>[]) r
noncomputable abbrev iI(a:Gx dE){f:Gx dE}(_:a=f:=by conv=>(lhs;reduce;simp only[XZ,X0])):Gx dE:=f
def et(x:Str)(st:Stmt)(n k:Nat){f:CT->Gx dE}(h:∀k,run aP (k+1) x=gj (ZQ x st (run aP k)) n:=by intro _;kernel_rfl)(e:∀c,ZQ x st c=f c:=by intro c;conv=>(lhs;reduce;simp only[XZ,X0])):run aP (k+1) x=gj (f (run aP k)) n:=by rw[h,e]
def w6(x:Str)(st:Stmt)(p:List Nat)(c:CT):Gx dE:=jg zI (XY x st (Gg c) (J1 aP) c) (ZR (bO st) p)
def T3(x:Str)(st:Stmt)(c:CT):Gx dE:=jg zI (XY x st noFn [] c) (bO st)
def X3(x:Str)(st:Stmt)(n:Nat)(c:CT){f:CT->Gx dE}(h:∀c,Gg c x=gj (T3 x st c) n:=by intro _;kernel_rfl)(e:∀c,T3 x st c=f c:=by intro c;conv=>(lhs;reduce;simp only[XZ,X0])):Gg c x=gj (f c) n:=by rw[h,e]
section
seal Jh pM JB op2 br rd bnd jK cf lz ja zj pW wx du AE Hv nB nv toB Ht EC Nc kX Ci Jv IZ Cm bU IL chain Y6 RQ j8 F9 Ja cutE EH Je mr fV za pN Cj uA Jy NB j9 N2 iD fU kh A5 CH U9 Qd AV Xi M9 Vc Vb I0 Qj JA NQ wA Nq RR cu RP EJ fW Nr Na gj Jf Ob NC JF Ov Oi JX Y8 NV jG Gg fA fB CO Qg JS XB FH qa p9 FG p8 JU iE eW
def Gh(c:CT):=X3 "Frame" Ao 3 c
def OZ(c:CT):=X3 "Run" KI 3 c
def Gi(c:CT):=X3 "Place" Ap 2 c
def gO(k:Nat):=et "Places.owned" iT 3 k
def qe(k:Nat):=et "Places.let" kE 3 k
def mE(k:Nat):=et "Places.touch" iU 3 k
def mF(k:Nat):=et "Places.store" iV 6 k
def lA(k:Nat):=et "Places.let_go" iu 3 k
def eN(k:Nat):=et "leaves" (top 5) 3 k
def mG(k:Nat):=et "blank" (top 10) 1 k
def w9(k:Nat):=et "kind_of" (top 13) 4 k
noncomputable def jh (c:CT):Gx dE :=
 (pM (kX (A5 J2 c (CH (λk=>(List.lookup k fT).map .fn) (op2 br (rd 5) (kI 0))) (jK (rd 2) (jK (rd 5) (cf [])))) (du 6))
  (AE (Hv "list" nB (rd 3) (jK (ja false [none,none,some 4] (zj (U9 (rd 6) (Nc .lst (jK (cf (.aq [(.str "rest"),(.str ""),(.bl false),(.int 0),(.int 0),(.str "")])) (cf []))))) (pW (du 1) (op2 fV (Nc .aq (jK (rd 2) (cf []))) (rd 1)))) (cf [])))))
noncomputable def Gj (c:CT):Gx dE :=
 (pM (kX (op2 br (rd 0) (rd 1)) (du 2))
  (pM (kX (Ci (cf [])) (du 3))
  (pM (Jv (Qd (AV (op2 br (rd 2) (kI 4)))) Q0 (jh c))
  (EC (rd 3)))))
theorem Gk:Rn "acts" Gj 7:=λ_=>by kernel_rfl
def sL(k:Nat):=et "touch" (top 29) 6 k
def nF(k:Nat):=et "touch_whole" (top 30) 4 k
def xa(k:Nat):=et "at_acts" (top 31) 2 k
def mH(k:Nat):=et "operand_acts" (top 32) 2 k
def nG(k:Nat):=et "target_acts" (top 33) 2 k
def lB(k:Nat):=et "put_acts" (top 34) 2 k
def u5(k:Nat):=et "set_acts" (top 35) 2 k
def q9(k:Nat):=et "copy_acts" (top 36) 2 k
def rf(k:Nat):=et "move_acts" (top 37) 2 k
def xb(k:Nat):=et "if_acts" (top 43) 2 k
def xc(k:Nat):=et "go_acts" (top 44) 2 k
def u6(k:Nat):=et "say_acts" (top 45) 2 k
def rh(k:Nat):=et "give_acts" (top 46) 2 k
noncomputable def dM (c:CT):=iI (w6 "acts_by_row" (top 56) [1] c)
def nH(k:Nat):=et "acts_by_row" (top 56) 4 k
def zJ(k:Nat):=et "row_of" (top 57) 2 k
def xf(k:Nat):=et "acts_of" (top 58) 2 k
def km(k:Nat):=et "run_from_first" (top 59) 5 k
def CY(k:Nat):=et "begin" (top 60) 6 k
noncomputable def eO (c:CT):=iI (w6 "run_on" (top 61) [0] c)
def zK(k:Nat):=et "run_on" (top 61) 2 k
def ko(k:Nat):=et "do_row" (top 62) 4 k
def qf(k:Nat):=et "row_behind" (top 63) 4 k
noncomputable def cO (c:CT):=iI (w6 "do_acts" (top 64) [1] c)
def mU(k:Nat):=et "do_acts" (top 64) 6 k
def qg(k:Nat):=et "do_act" (top 65) 6 k
def eZ(k:Nat):=et "written" (top 66) 7 k
def u7(k:Nat):=et "strip_of" (top 67) 2 k
def qh(k:Nat):=et "number_put" (top 68) 3 k
noncomputable def ay (c:CT):=iI (w6 "numbers_found" (top 69) [2] c)
def lC(k:Nat):=et "numbers_found" (top 69) 7 k
def xg(k:Nat):=et "do_give" (top 71) 4 k
def qi(k:Nat):=et "given_back" (top 72) 5 k
def u9(k:Nat):=et "owned_by" (top 73) 3 k
def zL(k:Nat):=et "played" (top 76) 5 k
def rj(k:Nat):=et "places_of" (top 79) 2 k
def qj(k:Nat):=et "taken_back" (top 80) 2 k
def vc(k:Nat):=et "_law_cell_at" (top 82) 2 k
def zM(k:Nat):=et "_law_whole" (top 83) 1 k
noncomputable def qk (c:CT):=iI (w6 "_law_names" (top 84) [4,1] c)
noncomputable def kq (c:CT):=iI (w6 "_law_names" (top 84) [4] c)
def zN(k:Nat):=et "_law_names" (top 84) 9 k
def CZ(k:Nat):=et "_law_spot" (top 85) 6 k
def vd(k:Nat):=et "_law_operand" (top 86) 4 k
def xh(k:Nat):=et "_law_copied" (top 87) 6 k
def Gn(k:Nat):=et "_law_row" (top 88) 6 k
noncomputable def ij (c:CT):=iI (w6 "_law_program" (top 89) [13] c)
def vf(k:Nat):=et "_law_program" (top 89) 10 k
def zO(k:Nat):=et "_law_begin" (top 90) 5 k
def zP(k:Nat):=et "_law_place" (top 91) 3 k
def mV(k:Nat):=et "_law_number" (top 92) 3 k
def xi(k:Nat):=et "_law_reckon" (top 93) 3 k
def C0(k:Nat):=et "_law_done" (top 94) 5 k
def C1(k:Nat):=et "_law_told" (top 95) 4 k
noncomputable def nX (c:CT):=iI (w6 "law" (top 96) [8] c)
def J3(k:Nat):=et "law" (top 96) 10 k
end
end bS
namespace L2.U
section
open PySem
theorem ZW{α:Type}{o:Option α}{v:α}{st:bP}(h:o=some v):iB o st=some (.ok v,st):=by show o.map _=_;rw[h];rfl
theorem acn{α:Type}{g:List aj->Option α}{v:α}{st:bP}(h:g st.h=some v):hp g st=some (.ok v,st):=by show(g st.h).map _=_;rw[h];rfl
theorem ZX{g:bP->Option bP}{st st':bP}(h:g st=some st'):stp g st=some (.ok .nx,st'):=by show(g st).map _=_;rw[h];rfl
theorem ZY{α β:Type}{f:Gx α}{k:α->Gx β}{st s1:bP}{a:α}{r:Option (Rs β×bP)}(h:f st=some (.ok a,s1))(h2:k a s1=r):bnd f k st=r:=eB h h2
theorem aco{α:Type}{b:Bool}{f g:Gx α}{st:bP}{r:Option (Rs α×bP)}(h:b=true)(h2:f st=r):(if b=true then f else g) st=r:=by rw[if_pos h];exact h2
theorem acp{α:Type}{b:Bool}{f g:Gx α}{st:bP}{r:Option (Rs α×bP)}(h:b=false)(h2:g st=r):(if b=true then f else g) st=r:=by rw[if_neg (by rw[h];exact bB)];exact h2
theorem X4{α:Type}{gc:Gx Bool}{f g:Gx α}{st s1:bP}{r:Option (Rs α×bP)}(h:gc st=some (.ok true,s1))(h2:f s1=r):nv gc f g st=r:=eB h h2
theorem X5{α:Type}{gc:Gx Bool}{f g:Gx α}{st s1:bP}{r:Option (Rs α×bP)}(h:gc st=some (.ok false,s1))(h2:g s1=r):nv gc f g st=r:=eB h h2
theorem Gp{f:Gx dE}{n:Nat}{as:List PV}{h:List aj}{p:PV}{st':bP}(e:f ⟨fy n as,h⟩=some (.ok (.rt p),st')):gj f n as h=some (.ok p,st'.h):=XX e
theorem X6{f:Gx dE}{n:Nat}{as:List PV}{h:List aj}{st':bP}(e:f ⟨fy n as,h⟩=some (.ok .nx,st')):gj f n as h=some (.ok .aL,st'.h):=runN e
theorem Bk{n:Nat}{g:jw}{as:List PV}{st:bP}{p q:PV}{h':List aj}(hn:(st.h.isEmpty || ao as)=true)(hl:as.length=n)(hc:g as []=some (.ok p,h'))(hf:gM h' p=some q):jb n g as st=some (.ok q,st):=by
 unfold jb;rw[if_pos ⟨hl,hn⟩,hc];show(gM h' p).map _=_;rw[hf];rfl
theorem X7{n:Nat}{g:jw}{as:List PV}{st:bP}{p q:PV}{h':List aj}(hn:(st.h.isEmpty || ao as)=true)(hl:as.length=n)(hc:g as []=some (.ok p,h'))(hf:gM h' p=some q):lz 0 n g as st=some (.ok q,st):=by
 unfold lz;rw[hn,if_pos (show((0==0)&&true)=true from rfl)]
 exact Bk hn hl hc hf
theorem Vr{m n:Nat}{g:jw}{as:List PV}{st:bP}{p:PV}{h':List aj}(hn:((m==0)&&(st.h.isEmpty || ao as))=false)(hl:as.length=n)(hc:g as st.h=some (.ok p,h')):lz m n g as st=some (.ok p,⟨st.ρ,h'⟩):=by
 unfold lz;rw[hn,if_neg bB];unfold gD;rw[if_pos hl,hc];rfl
theorem C4{α:Type}{f:α->PV}{q:α->PV}{h:List aj}{bd:PV->List aj->Option (Option PV×List aj)}:∀{L:List α},(∀x∈L,bd (f x) h=some (some (q x),h))->dU bd (L.map f) h=some (L.map q,h)
 | [],_=>rfl
 | x::L,H=>by
  show(bd (f x) h).bind _=_;rw[H x dj];show(dU bd (L.map f) h).map _=_;rw[C4 λy hy=>H y (cH _ hy)]
  rfl
theorem X8{link:List (Option Nat)}{fi:Gx AW}{bd:Bd}{st s1:bP}{ps qs:List PV}{h':List aj}(hi:fi st=some (.ok (.sq ps),s1))(hl:ps.length<=4000000)(hc:dU (bd (cU link s1.ρ)) ps s1.h=some (qs,h')):ja false link fi bd st=some (.ok (.lst qs),⟨s1.ρ,h'⟩):=eB hi (by
 show(if ps.length<=gF then dU _ ps s1.h else none).bind _=_
 rw[if_pos (show ps.length<=gF from hl),hc]
 rfl)
theorem O0{t:Tg}{fe:Gx PV}{ρ:List (Option PV)}{p q:PV}{h:List aj}{st1:bP}{OY:List (Option PV)}{h2:List aj}(ht:t p ⟨ρ,h⟩=some st1)(he:fe st1=some (.ok q,⟨OY,h2⟩)):pW t fe ρ p h=some (some q,h2):=by
 unfold pW;rw[ht,iN,he];rfl
theorem Qk{bd:PV->List aj->Option (Option PV×List aj)}{h:List aj}:dU bd [] h=some ([],h):=rfl
theorem qm{bd:PV->List aj->Option (Option PV×List aj)}{p:PV}{ps qs:List PV}{o:Option PV}{h h1 h2:List aj}(e1:bd p h=some (o,h1))(e2:dU bd ps h1=some (qs,h2)):dU bd (p::ps) h=some (o.toList++qs,h2):=by
 show(bd p h).bind _=_;rw[e1];show(dU bd ps h1).map _=_;rw[e2];rfl
theorem Vt{n:Nat}{g:jw}{as:List PV}{st:bP}{p:PV}{h':List aj}(hl:as.length=n)(hc:g as st.h=some (.ok p,h')):gD n g as st=some (.ok p,⟨st.ρ,h'⟩):=by
 show(if as.length=n then(g as st.h).map λr=>(Su r.1,(⟨st.ρ,r.2⟩:bP))else none)=_
 rw[if_pos hl,hc];rfl
theorem X9{C:Str}{n:Nat}{g:jw}{as:List PV}{st:bP}{h':List aj}(hl:as.length+1=n)(hg:g (.ref st.h.length::as) (st.h++[⟨.ins C [],[]⟩])=some (.ok .aL,h')):JS C n g as st=some (.ok (.ref st.h.length),⟨st.ρ,h'⟩):=by
 unfold JS;rw[if_pos hl,hg];rfl
theorem Yb{fa:Gx PV}{st s1:bP}{ps:List PV}{c:aj}(h:fa st=some (.ok (.lst ps),s1))(hc:Fo ps=some c):JF fa st=some (.ok (.ref s1.h.length),⟨s1.ρ,s1.h++[c]⟩):=eB h (by
 show(Fo ps).bind (λc=>hZ c s1)=_
 rw[hc];rfl)
noncomputable def gx{α:Type}(f:Gx α)(st:bP):Option (Rs α×bP):=f st
theorem ZZ{α:Type}{f:Gx α}{st:bP}{r:Option (Rs α×bP)}(h:f st=r):gx f st=r:=h
theorem bD{α:Type}{f:Gx α}{st:bP}{r:Option (Rs α×bP)}(h:gx f st=r):f st=r:=h
end
end L2.U
set_option maxHeartbeats 2000000
namespace bS
open PySem L2 L2.U
theorem au{h:List aj}{n:Nat}{k:Kd}{ps:List PV}(e:h[n]?=some ⟨k,ps⟩)(hl:live ⟨k,ps⟩=true):cE h (.ref n)=some (k,ps):=by
 show((h[n]?).bind λc=>if live c=true then some (c.k,c.ps)else none)=_
 rw[e,iN,if_pos hl]
theorem eQ{h:List aj}{n:Nat}{k:Kd}{ps:List PV}(e:h[n]?=some ⟨k,ps⟩)(hl:live ⟨k,ps⟩=true):i8 h (.ref n)=some (n,⟨k,ps⟩):=by
 show((h[n]?).bind λc=>if live c=true then some (n,c)else none)=_
 rw[e,iN,if_pos hl]
theorem Gq{h:List aj}{n:Nat}{c:aj}(e:h[n]?=some c):h.set n c=h:=by
 apply List.ext_getElem?;intro i;by_cases hi:n=i
 ·subst hi;rw[e];simp[(di.mp e).1]
 ·rw[bV hi]
theorem ik{h:List aj}{n:Nat}{c d:aj}(e:h[n]?=some c):(h.set n d)[n]?=some d:=by
 simp[(di.mp e).1]
theorem vg{h:List aj}{n:Nat}{c:aj}(e:h[n]?=some c):n<h.length:=(di.mp e).1
theorem dN{h g:List aj}{n:Nat}{c:aj}(e:h[n]?=some c):(h++g)[n]?=some c:=by
 rw[fj (vg e),e]
theorem dw{h:List aj}{c:aj}:(h++[c])[h.length]?=some c:=by simp
theorem ei{h:List aj}{n:Nat}{C f:Str}{ns:List Str}{ps:List PV}{v:PV}{ρ:List (Option PV)}(e:h[n]?=some ⟨.ins C ns,ps⟩)(hc:(fA.contains C&&fB.contains f&&decide (ns.length<900))=true) :
  eW fA fB f (.ref n) v ⟨ρ,h⟩=some ⟨ρ,h.set n ⟨.ins C (ic f v ns ps).1,(ic f v ns ps).2⟩⟩:=by
 unfold eW;rw[eQ e rfl];exact if_pos hc
abbrev fM(v:PV)(a:PV):aj:=⟨.ins "Place" ["value","away"],[v,a]⟩
theorem Bm{h:List aj}{n:Nat}{v w a:PV}{ρ:List (Option PV)}(e:h[n]?=some (fM v a)):eW fA fB "value" (.ref n) w ⟨ρ,h⟩=some ⟨ρ,h.set n (fM w a)⟩:=by
 rw[ei e (by kernel_rfl)]
 rfl
theorem Gs{h:List aj}{n:Nat}{v w a:PV}{ρ:List (Option PV)}(e:h[n]?=some (fM v a)):eW fA fB "away" (.ref n) w ⟨ρ,h⟩=some ⟨ρ,h.set n (fM v w)⟩:=by
 rw[ei e (by kernel_rfl)]
 rfl
structure Ch (h h':List aj) (A:List Nat):Prop where
 le:h.length<=h'.length
 eq:∀n,n<h.length->n∉A->h'[n]?=h[n]?
theorem Ch.refl(h:List aj)(A:List Nat):Ch h h A:=⟨az _,λ_ _ _=>rfl⟩
theorem Ch.app(h g:List aj)(A:List Nat):Ch h (h++g) A:=⟨by simp,λn hn _=>fj hn⟩
theorem Ch.set{h:List aj}{n:Nat}(c:aj):Ch h (h.set n c) [n]:=⟨by simp,λm _ hm=>bV (λz=>hm (by simp[z]))⟩
theorem Ch.tr{h h' Hu:List aj}{A B:List Nat}(a:Ch h h' A)(b:Ch h' Hu B)(hB:∀n∈B,n<h.length->n∈A):Ch h Hu A :=
 ⟨aJ a.le b.le,λn hn hA=>by rw[b.eq n (bQ hn a.le) λz=>hA (hB n z hn),a.eq n hn hA]⟩
theorem Ch.mono{h h':List aj}{A B:List Nat}(a:Ch h h' A)(hB:∀n∈A,n∈B):Ch h h' B:=⟨a.le,λn hn hA=>a.eq n hn λz=>hA (hB n z)⟩
theorem Ch.get{h h':List aj}{A:List Nat}(a:Ch h h' A){n:Nat}{c:aj}(e:h[n]?=some c)(hA:n∉A):h'[n]?=some c:=by
 rw[a.eq n (vg e) hA,e]
end bS
namespace L2.U
section
set_option compiler.extract_closed false
open Lean Meta
abbrev zq9wh (e : Lean.Expr) : MetaM Lean.Expr := withDefault (whnf e)
abbrev zq9sm (e : Lean.Expr) : SimpM Simp.Result := withReducible (Simp.simp e)

def zq9er {α : Type} : SimpM α := throwError "e"

def zq9isT9 (e : Lean.Expr) : Bool := e.isConstOf ``Bool.true

def zq9isF9 (e : Lean.Expr) : Bool := e.isConstOf ``Bool.false

def zq9mkn (n : Lean.Name) (a : Array Lean.Expr) : Lean.Expr := mkAppN (mkConst n) a

def zq9mkS (a b : Lean.Expr) : Lean.Expr := mkApp2 (mkConst ``bP.mk) a b

def zq9one (c : Lean.Expr) : Lean.Expr := mkApp3 (mkConst ``List.cons [0]) (mkConst ``aj) c (mkApp (mkConst ``List.nil [0]) (mkConst ``aj))

def zq9stH (s : Lean.Expr) : MetaM (Lean.Expr × Lean.Expr) := do
 let t ← zq9wh s
 if t.isAppOfArity ``bP.mk 2 then return (t.appFn!.appArg!, t.appArg!) else return (mkApp (mkConst ``bP.ρ) s, mkApp (mkConst ``bP.h) s)

def zq9eqR (q : Lean.Expr) : SimpM Lean.Expr := do
 match (← inferType q).eq? with
 | some (_, _, r) => return r
 | none => zq9er

def zq9prf (r : Simp.Result) (e x : Lean.Expr) : MetaM Lean.Expr := do mkExpectedTypeHint (← r.getProof) (← mkEq e x)
def zq9rflT (e d : Lean.Expr) : MetaM Lean.Expr := do mkExpectedTypeHint (← mkEqRefl d) (← mkEq e d)

def zq9nList (w : Bool) : Nat → Lean.Expr → MetaM Lean.Expr
 | 0, e => return e
 | n + 1, e => do
  let d ← zq9wh e
  if d.isAppOfArity ``List.cons 3 then
   let a := d.appFn!.appArg!.headBeta
   let a ← if w then (do let b ← zq9wh a; return if b.isAppOf ``Option.some || b.isAppOf ``Option.none then b else a) else pure a
   return mkApp2 d.appFn!.appFn! a (← zq9nList w n d.appArg!)
  else if d.isAppOf ``List.nil then return d
  else return e
def zq9natOf : Nat → Lean.Expr → MetaM (Option Nat)
 | 0, _ => return none
 | n + 1, e => do
  let d ← zq9wh e
  match d with
  | .lit (.natVal k) => return some k
  | _ => if d.isAppOfArity ``Nat.succ 1 then return (← zq9natOf n d.appArg!).map (· + 1) else if d.isConstOf ``Nat.zero then return some 0 else return none
def zq9isLit (e : Lean.Expr) : Nat → Bool
 | 0 => false
 | n + 1 => e.isAppOf ``List.nil || (e.isAppOfArity ``List.cons 3 && zq9isLit e.appArg! n)
def zq9stripH : Nat → Lean.Expr → MetaM Lean.Expr
 | 0, e => return e
 | n + 1, e => do
  if e.isAppOfArity ``bP.h 1 then
   let s ← whnfCore e.appArg!
   let s ← if s.isAppOfArity ``bP.mk 2 then pure s else zq9wh s
   if s.isAppOfArity ``bP.mk 2 then zq9stripH n s.appArg! else return e
  else if e.isAppOfArity ``HAppend.hAppend 6 then return mkApp2 e.appFn!.appFn! (← zq9stripH n e.appFn!.appArg!) e.appArg!
  else if e.isAppOfArity ``List.set 4 then
   let as := e.getAppArgs
   return mkAppN e.getAppFn #[as[0]!, ← zq9stripH n as[1]!, as[2]!, as[3]!]
  else return e
def zq9nVal (v : Lean.Expr) : MetaM Lean.Expr := do
 let v ← withReducible (whnf v.headBeta)
 if v.isAppOfArity ``PV.ref 1 then
  if v.appArg!.isLit then return v
  match ← zq9natOf 60 v.appArg! with
  | some k => return mkApp (mkConst ``PV.ref) (mkNatLit k)
  | none => if v.appArg!.isAppOfArity ``List.length 2 then return mkApp v.appFn! (mkApp v.appArg!.appFn! (← zq9stripH 60 v.appArg!.appArg!)) else return v
 if v.isAppOfArity ``PV.nd 2 && !(v.appArg!.isAppOf ``List.map || zq9isLit v.appArg! 200) then
  let ps ← zq9nList false 200 v.appArg!
  return if zq9isLit ps 200 then mkApp v.appFn! ps else v
 if (← isConstructorApp? v).isSome || v.isFVar then return v
 if v.isProj || (← isMatcherApp v) || v.getAppFn.isProj then zq9wh v else match v.getAppFn with
 | .const c _ => if (← isProjectionFn c) || c == ``Option.get || c == ``ite || c == ``Option.getD then zq9wh v else return v
 | _ => return v
def zq9nCell (c : Lean.Expr) : MetaM Lean.Expr := do
 let d ← zq9wh c
 unless d.isAppOfArity ``aj.mk 2 do return c
 let k ← zq9wh d.appFn!.appArg!
 let k ← if k.isAppOfArity ``Kd.ins 2 then pure (mkApp k.appFn! (← zq9nList false 200 k.appArg!)) else pure k
 let ps ← zq9nList false 200 d.appArg!
 return mkApp2 d.appFn!.appFn! k ps
def zq9nHeap : Nat → Lean.Expr → MetaM Lean.Expr
 | 0, e => return e
 | n + 1, e => do
  let d ← zq9wh e
  if d.isAppOfArity ``List.cons 3 then return mkApp2 d.appFn!.appFn! (← zq9nCell d.appFn!.appArg!.headBeta) (← zq9nHeap n d.appArg!)
  else if d.isAppOf ``List.nil then return d
  else zq9stripH 60 e
def zq9nSta (e : Lean.Expr) : MetaM Lean.Expr := do
 let d ← zq9wh e
 if d.isAppOfArity ``bP.mk 2 then return mkApp2 d.appFn!.appFn! (← zq9nList true 200 d.appFn!.appArg!) (← zq9nHeap 200 d.appArg!) else return e
def zq9someArg? (e : Lean.Expr) : Option Lean.Expr := if e.isAppOfArity ``Option.some 2 then some e.appArg! else none
def zq9evB (b : Lean.Expr) : SimpM (Lean.Expr × Lean.Expr) := do
 let b := b.headBeta
 let d ← zq9wh b
 if zq9isT9 d || zq9isF9 d then return (d, ← mkExpectedTypeHint (← mkEqRefl d) (← mkEq b d))
 let r ← zq9sm b
 let r' ← if zq9isT9 r.expr || zq9isF9 r.expr then pure r.expr else do
  let d ← zq9wh r.expr
  pure (if zq9isT9 d || zq9isF9 d then d else r.expr)
 return (r', ← mkExpectedTypeHint (← r.getProof) (← mkEq b r'))
def zq9atRoot (o : Lean.Expr) : SimpM (Option Simp.Result) := withReducible do
 match ← Simp.rewritePost false o with
 | .visit r => return some r
 | .done r => return some r
 | .continue (some r) => return some r
 | .continue none => return none

def zq9evOx (o v : Lean.Expr) (r : Simp.Result) : SimpM (Option (Lean.Expr × Lean.Expr)) := do
 let v' ← if (← inferType v).isConstOf ``PV then zq9nVal v else pure v
 unless v'.isAppOfArity ``PV.bl 1 do return some (v', ← zq9prf r o (mkApp r.expr.appFn! v'))
 let (b', p) ← zq9evB v'.appArg!
 let f := mkLambda `x .default (mkConst ``Bool) (mkApp r.expr.appFn! (mkApp (mkConst ``PV.bl) (Lean.Expr.bvar 0)))
 let d := mkApp (mkConst ``PV.bl) b'
 return some (d, ← mkEqTrans (← r.getProof) (← mkExpectedTypeHint (← mkCongrArg f p) (← mkEq r.expr (mkApp r.expr.appFn! d))))

def zq9evOy (o : Lean.Expr) : SimpM (Option (Lean.Expr × Lean.Expr)) := do
 let r ← zq9sm o
 let d ← if (zq9someArg? r.expr).isSome then pure r.expr else zq9wh r.expr
 match zq9someArg? d with
 | some v => return some (v, ← zq9prf r o d)
 | none => return none

def zq9evOz (o d b : Lean.Expr) (k : Bool) : SimpM (Option (Lean.Expr × Lean.Expr)) := do
 let f := fun x => if k then x else mkApp (mkConst ``PV.bl) x
 let (b', p) ← zq9evB b
 return some (f b', ← mkExpectedTypeHint (← mkCongrArg (mkLambda `x .default (mkConst ``Bool) (mkApp d.appFn! (f (Lean.Expr.bvar 0)))) p) (← mkEq o (mkApp d.appFn! (f b'))))
def zq9evO (o : Lean.Expr) : SimpM (Option (Lean.Expr × Lean.Expr)) := do
 let o := o.headBeta
 if let some r ← zq9atRoot o then
  if let some v := zq9someArg? r.expr then return ← zq9evOx o v r
 let d ← zq9wh o
 let some v := zq9someArg? d | zq9evOy o
 let ty ← inferType v
 if ty.isConstOf ``bP then
  let v ← zq9nSta v
  return some (v, ← zq9rflT o (mkApp d.appFn! v))
 let k := ty.isConstOf ``Bool
 let v := v.headBeta
 let v ← if ty.isConstOf ``PV then zq9nVal v else pure v
 unless k || v.isAppOfArity ``PV.bl 1 do return some (v, ← zq9rflT o (mkApp d.appFn! v))
 let b := if k then v else v.appArg!
 let b' ← zq9wh b
 if zq9isT9 b' || zq9isF9 b' then
  let w := if k then b' else mkApp (mkConst ``PV.bl) b'
  return some (w, ← zq9rflT o (mkApp d.appFn! w))
 let some (v', p) ← zq9evOy o | zq9evOz o d b k
 let c := if v'.isAppOfArity ``PV.bl 1 then v'.appArg! else v'
 if zq9isT9 c || zq9isF9 c || (zq9someArg? (← zq9sm o).expr).isSome then return some (v', p)
 zq9evOz o d b k
def zq9okE (α a st : Lean.Expr) : Lean.Expr :=
 let rs := mkApp (mkConst ``Rs) α
 let pr := mkApp2 (mkConst ``Prod [0, 0]) rs (mkConst ``bP)
 mkApp2 (mkConst ``Option.some [0]) pr (mkApp4 (mkConst ``Prod.mk [0, 0]) rs (mkConst ``bP) (mkApp2 (mkConst ``Rs.ok) α a) st)
def zq9okH (a h : Lean.Expr) : Lean.Expr :=
 let rs := mkApp (mkConst ``Rs) (mkConst ``PV)
 let lc := mkApp (mkConst ``List [0]) (mkConst ``aj)
 let pr := mkApp2 (mkConst ``Prod [0, 0]) rs lc
 mkApp2 (mkConst ``Option.some [0]) pr (mkApp4 (mkConst ``Prod.mk [0, 0]) rs lc (mkApp2 (mkConst ``Rs.ok) (mkConst ``PV) a) h)
def zq9okArgs? (r : Lean.Expr) : Option (Lean.Expr × Lean.Expr) := do
 let x ← zq9someArg? r
 guard (x.isAppOfArity ``Prod.mk 4)
 let y := x.appFn!.appArg!
 guard (y.isAppOfArity ``Rs.ok 2)
 return (y.appArg!, x.appArg!)
def zq9nRes (e : Lean.Expr) : MetaM (Option Lean.Expr) := do
 let d ← zq9wh e
 let some x := zq9someArg? d | return none
 let x ← zq9wh x
 unless x.isAppOfArity ``Prod.mk 4 do return none
 let y ← zq9wh (x.appFn!.appArg!)
 let st ← zq9nSta x.appArg!
 let y ← if y.isAppOfArity ``Rs.ok 2 then (do let v ← (do let v := y.appArg!.headBeta; if (← inferType v).isConstOf ``PV then zq9nVal v else zq9wh v); pure (mkApp y.appFn! v)) else pure y
 return some (mkApp d.appFn! (mkApp2 x.appFn!.appFn! y st))

def zq9okV (a s : Lean.Expr) : Lean.Expr := zq9okE (mkConst ``PV) a s

def zq9okR9 (r : Lean.Expr) : SimpM (Lean.Expr × Lean.Expr) := match zq9okArgs? r with
 | some x => return x
 | none => zq9er

def zq9evP (o : Lean.Expr) : SimpM (Lean.Expr × Lean.Expr) := do
 match ← zq9evO o with
 | some x => return x
 | none => zq9er

def zq9nRs (e : Lean.Expr) : SimpM Lean.Expr := do
 match ← zq9nRes e with
 | some x => return x
 | none => zq9er
def zq9evUnfold : List Lean.Name := [``op2, ``jK, ``Nc, ``IZ, ``toB, ``uA, ``IL, ``nv, ``pM, ``onK, ``pP, ``kX, ``EC, ``AE, ``chain, ``M9, ``U9, ``Na, ``NB, ``EH, ``cutE, ``NC, ``CH, ``Vc, ``JA, ``Hv, ``tyG, ``zj, ``Qd, ``NQ, ``AV, ``Ov, ``Oi, ``Jv, ``W2, ``JB, ``A5, ``Lg, ``Ci, `ace, ``JF]
def zq9mkLe (a b : Lean.Expr) : MetaM (Option Lean.Expr) := do
 let p ← mkAppM ``LE.le #[a, b]
 let d ← mkAppM ``Decidable.decide #[p]
 let r ← zq9wh d
 if zq9isT9 r then return some (← mkAppM ``of_decide_eq_true #[← mkExpectedTypeHint (← mkEqRefl (mkConst ``Bool.true)) (← mkEq d (mkConst ``Bool.true))]) else return none
def zq9byS (p : Lean.Expr) : SimpM (Option Lean.Expr) := do
 let r ← zq9sm p
 if r.expr.isTrue then return some (← mkOfEqTrue (← r.getProof)) else return none
def zq9evE (go : Lean.Expr → SimpM (Lean.Expr × Lean.Expr)) (bd p h : Lean.Expr) : SimpM (Lean.Expr × Lean.Expr) := do
 let as := bd.getAppArgs
 let ρ := as.back!
 let st := mkApp2 (mkConst ``bP.mk) ρ h
 let (st1, pt) ← zq9evP (mkApp2 as[0]! p st)
 if bd.isAppOf ``pW then
  let (r1, p1) ← go (mkApp as[1]! st1)
  let (v, s2) ← zq9okR9 r1
  let q := zq9mkn ``O0 #[as[0]!, as[1]!, ρ, p, v, h, st1, s2.appFn!.appArg!, s2.appArg!, pt, p1]
  let r ← zq9eqR q
  return (r, q)
 else
  let (r1, p1) ← go (mkApp as[1]! st1)
  let (b, st2) ← zq9okR9 r1
  if zq9isF9 b then
   let q ← mkAppM ``e2F #[pt, p1]
   let r ← zq9eqR q
   return (r, q)
  else if zq9isT9 b then
   let (_, p2) ← go (mkApp as[2]! st2)
   let q ← mkAppM ``e2T #[pt, p1, p2]
   let r ← zq9eqR q
   return (r, q)
  else zq9er
def zq9evL (go : Lean.Expr → SimpM (Lean.Expr × Lean.Expr)) (bd h : Lean.Expr) : Nat → Lean.Expr → SimpM Lean.Expr
 | 0, _ => zq9er
 | m + 1, ps => do
  let d ← zq9wh ps
  if d.isAppOf ``List.nil then mkAppOptM ``Qk #[some bd, some h]
  else if d.isAppOfArity ``List.cons 3 then
   let (_, p) ← zq9evE go bd d.appFn!.appArg!.headBeta h
   let p2 ← zq9evL go bd h m d.appArg!
   mkAppM ``qm #[p, p2]
  else zq9er
def zq9evC (go : Lean.Expr → SimpM (Lean.Expr × Lean.Expr)) (bd ps h : Lean.Expr) : SimpM Lean.Expr := do
 if let some r ← zq9atRoot (← mkAppM ``dU #[bd, ps, h]) then
  if (zq9someArg? r.expr).isSome then return ← r.getProof
 let d ← zq9wh ps
 if d.isAppOf ``List.nil || d.isAppOf ``List.cons then zq9evL go bd h 300 d
 else
  let d := if ps.isAppOfArity ``List.map 4 then ps else d
  unless d.isAppOfArity ``List.map 4 do
   let r ← zq9sm (← mkAppM ``dU #[bd, ps, h])
   if (zq9someArg? r.expr).isSome then return ← r.getProof
   zq9er
  let fn := d.getAppArgs[2]!
  let L := d.appArg!
  let α := d.getAppArgs[0]!
  withLocalDeclD `x α fun x => do
   let mem ← mkAppM ``Membership.mem #[L, x]
   withLocalDeclD `hx mem fun hx => do
    let thms ← (← Simp.getContext).simpTheorems.addTheorem (.fvar hx.fvarId!) hx
    Simp.withSimpTheorems thms do
     let (r, p) ← zq9evE go bd (mkApp fn x).headBeta h
     let some v := zq9someArg? r | zq9er
     let o := v.appFn!.appArg!
     match zq9someArg? o with
     | some q =>
      let q ← mkLambdaFVars #[x] q
      mkAppOptM ``C4 #[some α, some fn, some q, some h, some bd, some L, some (← mkLambdaFVars #[x, hx] p)]
     | none => zq9er

def zq9evLeaf (e : Lean.Expr) : SimpM (Lean.Expr × Lean.Expr) := do
 let r ← zq9sm e
 let x ← zq9nRs r.expr
 return (x, ← zq9prf r e x)

def zq9evRed (e : Lean.Expr) : SimpM (Lean.Expr × Lean.Expr) := do
 match ← zq9nRes e with
 | some x => return (x, ← mkExpectedTypeHint (← mkEqRefl x) (← mkEq e x))
 | none => zq9evLeaf e

def zq9evB1 (go : Lean.Expr → SimpM (Lean.Expr × Lean.Expr)) (c : Lean.Name) (f e : Lean.Expr) (as : Array Lean.Expr) : SimpM (Lean.Expr × Lean.Expr) := do
 let (r, p) ← go (mkApp as[2]! as[4]!)
 let (a, st) ← zq9okR9 r
 let (r2, p2) ← go (mkApp2 as[3]! a st).headBeta
 return (r2, zq9mkn ``ZY #[as[0]!, as[1]!, as[2]!, as[3]!, as[4]!, st, a, r2, p, p2])

def zq9evB2 (go : Lean.Expr → SimpM (Lean.Expr × Lean.Expr)) (c : Lean.Name) (f e : Lean.Expr) (as : Array Lean.Expr) : SimpM (Lean.Expr × Lean.Expr) := do
 if as[0]!.isConstOf ``Bool && !(zq9isT9 as[1]! || zq9isF9 as[1]!) then
  let (b, p) ← zq9evB as[1]!
  let f := mkLambda `x .default (mkConst ``Bool) (zq9okE as[0]! (Lean.Expr.bvar 0) as[2]!)
  return (zq9okE as[0]! b as[2]!, ← mkExpectedTypeHint (← mkCongrArg f p) (← mkEq e (zq9okE as[0]! b as[2]!)))
 let x := zq9okE as[0]! as[1]! as[2]!
 return (x, ← zq9rflT e x)

def zq9evB3 (go : Lean.Expr → SimpM (Lean.Expr × Lean.Expr)) (c : Lean.Name) (f e : Lean.Expr) (as : Array Lean.Expr) : SimpM (Lean.Expr × Lean.Expr) := do
 let some (_, b, _) := as[1]!.eq? | zq9er
 let (b', p) ← zq9evB b
 if zq9isT9 b' then
  let (r, p2) ← go (mkApp as[3]! as[5]!)
  let α := (← zq9wh as[0]!).bindingBody!.appArg!.appFn!.appArg!.appArg!
  return (r, zq9mkn ``aco #[α, b, as[3]!, as[4]!, as[5]!, r, p, p2])
 else if zq9isF9 b' then
  let (r, p2) ← go (mkApp as[4]! as[5]!)
  let α := (← zq9wh as[0]!).bindingBody!.appArg!.appFn!.appArg!.appArg!
  return (r, zq9mkn ``acp #[α, b, as[3]!, as[4]!, as[5]!, r, p, p2])
 else zq9er

def zq9evB4 (go : Lean.Expr → SimpM (Lean.Expr × Lean.Expr)) (c : Lean.Name) (f e : Lean.Expr) (as : Array Lean.Expr) : SimpM (Lean.Expr × Lean.Expr) := do
 let st := mkApp2 (mkConst ``bP.mk) (← zq9nList true 200 (mkApp2 (mkConst ``fy) as[1]! as[2]!)) as[3]!
 let (r, p) ← go (mkApp as[0]! st)
 let (a, s1) ← zq9okR9 r
 let h1 := if s1.isAppOfArity ``bP.mk 2 then s1.appArg! else mkApp (mkConst ``bP.h) s1
 if a.isAppOf ``dE.rt then return (zq9okH a.appArg! h1, zq9mkn ``Gp #[as[0]!, as[1]!, as[2]!, as[3]!, a.appArg!, s1, p])
 else if a.isConstOf ``dE.nx then return (zq9okH (mkConst ``PV.aL) h1, zq9mkn ``X6 #[as[0]!, as[1]!, as[2]!, as[3]!, s1, p])
 else zq9er

def zq9evB5 (go : Lean.Expr → SimpM (Lean.Expr × Lean.Expr)) (c : Lean.Name) (f e : Lean.Expr) (as : Array Lean.Expr) : SimpM (Lean.Expr × Lean.Expr) := do
 let k := if c == ``lz then 1 else 0
 let (ρ, h) ← zq9stH as[3 + k]!
 let as' ← zq9nList false 50 as[2 + k]!
 let q ← mkAppM ``Bool.or #[← mkAppM ``List.isEmpty #[h], ← mkAppM ``ao #[as']]
 let q ← if k == 1 then mkAppM ``and #[← mkAppM ``BEq.beq #[as[0]!, mkNatLit 0], q] else pure q
 let (b, pb) ← zq9evB q
 let hl ← mkExpectedTypeHint (← mkEqRefl as[k]!) (← mkEq (← mkAppM ``List.length #[as']) as[k]!)
 if zq9isT9 b then
  let q0 ← mkAppM ``Bool.or #[← mkAppM ``List.isEmpty #[h], ← mkAppM ``ao #[as']]
  let (_, pb0) ← zq9evB q0
  let cl := mkApp2 as[1 + k]! as' (← mkAppOptM ``List.nil #[some (mkConst ``aj)])
  let (r, p) ← go cl
  let some (v, h') := zq9okArgs? r | zq9er
  let fz := mkApp2 (mkConst ``gM) h' v
  let (qv, pf) ← zq9evP fz
  return (zq9okV qv as[3 + k]!, mkAppN (mkConst (if k == 1 then ``X7 else ``Bk)) #[as[k]!, as[1 + k]!, as', as[3 + k]!, v, qv, h', pb0, hl, p, pf])
 else if zq9isF9 b && k == 1 then
  let (r, p) ← go (mkApp2 as[2]! as' h)
  let some (v, h') := zq9okArgs? r | zq9er
  return (zq9okV v (zq9mkS ρ h'), zq9mkn ``Vr #[as[0]!, as[1]!, as[2]!, as', as[4]!, v, h', pb, hl, p])
 else zq9er

def zq9evB6 (go : Lean.Expr → SimpM (Lean.Expr × Lean.Expr)) (c : Lean.Name) (f e : Lean.Expr) (as : Array Lean.Expr) : SimpM (Lean.Expr × Lean.Expr) := do
 unless zq9isLit as[2]! 300 || as[2]!.isAppOf ``List.cons do
  let r ← zq9sm e
  if (zq9someArg? r.expr).isSome then
   let x ← zq9nRs r.expr
   return (x, ← zq9prf r e x)
 let ps ← zq9wh as[2]!
 if ps.isAppOf ``List.cons || ps.isAppOf ``List.nil then
  let some d ← withDefault (unfoldDefinition? (mkAppN f #[as[0]!, as[1]!, ps, as[3]!])) | zq9er
  let (r, p) ← go (← whnfCore d)
  return (r, ← mkExpectedTypeHint p (← mkEq e r))
 else zq9evLeaf e

def zq9evB7 (go : Lean.Expr → SimpM (Lean.Expr × Lean.Expr)) (c : Lean.Name) (f e : Lean.Expr) (as : Array Lean.Expr) : SimpM (Lean.Expr × Lean.Expr) := do
 let (r, p) ← go (mkApp as[2]! as[4]!)
 let (src, st) ← zq9okR9 r
 unless src.isAppOf ``AW.sq do zq9er
 let ps0 := src.appArg!
 let (ps, p) ← if ps0.isAppOf ``List.map || zq9isLit ps0 300 then pure (ps0, p) else (do
  let r ← zq9sm ps0
  let lt := mkApp (mkConst ``List [0]) (mkConst ``PV)
  let lam := mkLambda `l .default lt (zq9okE (mkConst ``AW) (mkApp (mkConst ``AW.sq) (Lean.Expr.bvar 0)) st)
  return (r.expr, ← mkEqTrans p (← mkCongrArg lam (← r.getProof))))
 let ρ ← zq9nList true 100 (mkApp2 (mkConst ``cU) as[1]! st.appFn!.appArg!)
 let bd := mkApp as[3]! ρ
 let h := st.appArg!
 let le ← mkAppM ``LE.le #[← mkAppM ``List.length #[ps], mkNatLit 4000000]
 let hl ← match ← zq9mkLe (← mkAppM ``List.length #[ps]) (mkNatLit 4000000) with
  | some p => pure p
  | none => match ← zq9byS le with | some p => pure p | none => zq9er
 let hc ← zq9evC go bd ps h
 let rc ← zq9eqR hc
 let x := rc.appArg!
 let qs := x.appFn!.appArg!
 return (zq9okV (mkApp (mkConst ``PV.lst) qs) (zq9mkS st.appFn!.appArg! x.appArg!), zq9mkn ``X8 #[as[1]!, as[2]!, as[3]!, as[4]!, st, ps, qs, x.appArg!, p, hl, hc])

def zq9evB8 (go : Lean.Expr → SimpM (Lean.Expr × Lean.Expr)) (c : Lean.Name) (f e : Lean.Expr) (as : Array Lean.Expr) : SimpM (Lean.Expr × Lean.Expr) := do
 let (ρ, h) ← zq9stH as[3]!
 let as' ← zq9nList false 50 as[2]!
 let hl ← mkExpectedTypeHint (← mkEqRefl as[0]!) (← mkEq (← mkAppM ``List.length #[as']) as[0]!)
 let (r, p) ← go (mkApp2 as[1]! as' h)
 let some (v, h') := zq9okArgs? r | zq9er
 return (zq9okV v (zq9mkS ρ h'), zq9mkn ``Vt #[as[0]!, as[1]!, as', as[3]!, v, h', hl, p])

def zq9evB9 (go : Lean.Expr → SimpM (Lean.Expr × Lean.Expr)) (c : Lean.Name) (f e : Lean.Expr) (as : Array Lean.Expr) : SimpM (Lean.Expr × Lean.Expr) := do
 let (ρ, h) ← zq9stH as[4]!
 let l ← zq9nList false 50 as[3]!
 let hl ← mkExpectedTypeHint (← mkEqRefl as[1]!) (← mkEq (← mkAppM ``HAdd.hAdd #[← mkAppM ``List.length #[l], mkNatLit 1]) as[1]!)
 let cell := mkApp2 (mkConst ``aj.mk) (mkApp2 (mkConst ``Kd.ins) as[0]! (mkApp (mkConst ``List.nil [0]) (mkConst ``PySem.Str))) (mkApp (mkConst ``List.nil [0]) (mkConst ``PV))
 let h1 ← mkAppM ``HAppend.hAppend #[h, zq9one cell]
 let me := mkApp (mkConst ``PV.ref) (← mkAppM ``List.length #[h])
 let (r, p) ← go (mkApp2 as[2]! (mkApp3 (mkConst ``List.cons [0]) (mkConst ``PV) me l) h1)
 let some (_, h') := zq9okArgs? r | zq9er
 return (zq9okV me (zq9mkS ρ h'), zq9mkn ``X9 #[as[0]!, as[1]!, as[2]!, l, as[4]!, h', hl, p])

def zq9evB10 (go : Lean.Expr → SimpM (Lean.Expr × Lean.Expr)) (c : Lean.Name) (f e : Lean.Expr) (as : Array Lean.Expr) : SimpM (Lean.Expr × Lean.Expr) := do
 let (r, p) ← go (mkApp as[0]! as[1]!)
 let (v, s1) ← zq9okR9 r
 let v ← zq9nVal v
 unless v.isAppOfArity ``PV.nd 2 do zq9er
 let ps := v.appArg!
 let (cl, pc) ← zq9evP (mkApp (mkConst ``Fo) ps)
 let (ρ, h) ← zq9stH s1
 let h ← zq9stripH 60 h
 let h1 ← mkAppM ``HAppend.hAppend #[h, zq9one cl]
 let me := mkApp (mkConst ``PV.ref) (← mkAppM ``List.length #[h])
 return (zq9okV me (zq9mkS ρ h1), zq9mkn ``Yb #[as[0]!, as[1]!, s1, ps, cl, p, pc])

def zq9evB11 (go : Lean.Expr → SimpM (Lean.Expr × Lean.Expr)) (c : Lean.Name) (f e : Lean.Expr) (as : Array Lean.Expr) : SimpM (Lean.Expr × Lean.Expr) := do
 let (r, p) ← go (mkApp as[1]! as[4]!)
 let (b, s1) ← zq9okR9 r
 if zq9isT9 b || zq9isF9 b then
  let t := zq9isT9 b
  let (r2, p2) ← go (mkApp (if t then as[2]! else as[3]!) s1)
  return (r2, mkAppN (mkConst (if t then ``X4 else ``X5)) #[as[0]!, as[1]!, as[2]!, as[3]!, as[4]!, s1, r2, p, p2])
 else zq9er
def zq9ev : Nat → Lean.Expr → SimpM (Lean.Expr × Lean.Expr)
 | 0, e => zq9er
 | n + 1, e => do
  let e := e.headBeta
  let f := e.getAppFn
  let as := e.getAppArgs
  match f with
  | .const c _ =>
   if c == ``bnd && as.size == 5 then
    zq9evB1 (zq9ev n) c f e as
   else if c == ``cf && as.size == 3 then
    zq9evB2 (zq9ev n) c f e as
   else if c == ``iB && as.size == 3 then
    let (v, p) ← zq9evP as[1]!
    return (zq9okE as[0]! v as[2]!, zq9mkn ``ZW #[as[0]!, as[1]!, v, as[2]!, p])
   else if c == ``hp && as.size == 3 then
    let (ρ, h) ← zq9stH as[2]!
    let (v, p) ← zq9evP (mkApp as[1]! h).headBeta
    return (zq9okE as[0]! v as[2]!, zq9mkn ``acn #[as[0]!, as[1]!, v, as[2]!, p])
   else if c == ``stp && as.size == 2 then
    let (v, p) ← zq9evP (mkApp as[0]! as[1]!).headBeta
    return (zq9okE (mkConst ``dE) (mkConst ``dE.nx) v, zq9mkn ``ZX #[as[0]!, as[1]!, v, p])
   else if c == ``ite && as.size == 6 then
    zq9evB3 (zq9ev n) c f e as
   else if c == ``gj && as.size == 4 then
    zq9evB4 (zq9ev n) c f e as
   else if (c == ``lz && as.size == 5) || (c == ``jb && as.size == 4) then
    zq9evB5 (zq9ev n) c f e as
   else if c == ``gH && as.size == 4 then
    zq9evB6 (zq9ev n) c f e as
   else if c == ``ja && as.size == 5 && zq9isF9 as[0]! then
    zq9evB7 (zq9ev n) c f e as
   else if c == ``gD && as.size == 4 then
    zq9evB8 (zq9ev n) c f e as
   else if c == ``JS && as.size == 5 then
    zq9evB9 (zq9ev n) c f e as
   else if c == ``JF && as.size == 2 then
    zq9evB10 (zq9ev n) c f e as
   else if c == ``run || c == ``Qj then zq9evLeaf e
   else if c == ``nv && as.size == 5 && as[0]!.isConstOf ``Bool && (as[2]!.isAppOf ``cf || as[3]!.isAppOf ``cf) then
    zq9evB11 (zq9ev n) c f e as
   else if zq9evUnfold.contains c then
    let some d ← withDefault (unfoldDefinition? e) | zq9evRed e
    zq9ev n (← whnfCore d)
   else
    let some d ← withDefault (unfoldDefinition? e) | zq9evRed e
    let d ← withReducible (whnf d)
    match d.getAppFn with
    | .const c' _ =>
     if c' == ``bnd || c' == ``cf || zq9evUnfold.contains c' then
      let (r, p) ← zq9ev n d
      return (r, ← mkExpectedTypeHint p (← mkEq e r))
     else zq9evRed e
    | _ => zq9evRed e
  | .fvar _ => zq9evLeaf e
  | _ => zq9evRed e
simproc_decl gk (gx _ _) := fun e => do
 let as := e.getAppArgs
 let (r, p) ← zq9ev 400 (mkApp as[1]! as[2]!)
 return .done { expr := r, proof? := zq9mkn ``ZZ #[as[0]!, as[1]!, as[2]!, r, p] }
simproc_decl bJ (gj _ _ _ _) := fun e => do
 let (r, p) ← zq9ev 400 e
 return .done { expr := r, proof? := p }
end
end L2.U
namespace bS
open PySem L2 L2.U
theorem vh(k:Nat){h:List aj}{n:Nat}{v:PV}(e:h[n]?=some (fM v .aL)):run aP (k+1) "taken_back" [.ref n] h=some (.ok v,h):=by
 rw[qj];have e1:=au e rfl;have e2:=λρ=>Bm (w:=v) (ρ:=ρ) e
 have e3:=λρ=>Gs (w:=.aL) (ρ:=ρ) e
 simp only[↓bJ,e1,e2,e3,Gq e]
end bS
set_option maxHeartbeats 2000000
namespace bS
open PySem L2 L2.U
abbrev Pl:Type:=List (Nat×PV)
def Vu(h:List aj)(P:Pl):Prop:=∀x∈P,h[x.1]?=some (fM x.2 .aL)
noncomputable def iG(P:Pl):PV:=.lst (P.map λx=>.ref x.1)
def dY(P:Pl):PV:=.lst (P.map λx=>x.2)
noncomputable def mI(x:Str):bG×List bG:=(.inr x,[])
def qo(H:List (Str×Pl)):aj:=⟨.dt false (H.map λe=>mI e.1),H.map λe=>iG e.2⟩
noncomputable abbrev zQ(j:Int)(d:Nat)(r:Int):aj:=⟨.ins "Frame" ["at","has","row"],[.int j,.ref d,.int r]⟩
structure Ac where
 w:Str
 x:Str
 t:Bool
 f:Nat
 m:Nat
 k:Str
def fD(k:Nat)(a:Ac):PV:=.aq [.int (k:Int),.str a.w,.str a.x,.bl a.t,.int (a.f:Int),.int (a.m:Int),.str a.k]
def ji(a:Ac):PV:=.aq [.str a.w,.str a.x,.bl a.t,.int (a.f:Int),.int (a.m:Int),.str a.k]
theorem sM{x:Str}:∀{H:List (Str×Pl)} {P:Pl},H.lookup x=some P->gr (mI x) (H.map λe=>mI e.1) (H.map λe=>iG e.2)=some (iG P)
 | [],_,e=>by cases e
 | (y,Q)::H,P,e=>by
  show(if mI y=mI x then some (iG Q)else gr (mI x) (H.map λe=>mI e.1) (H.map λe=>iG e.2))=_
  rw[cW]at e;by_cases h:x=y
  ·subst h;rw[if_pos rfl];rw[fu]at e;cases e;rfl
  ·rw[if_neg (λz=>h (by unfold mI at z;injection z with z1 _;injection z1 with z2;exact z2.symm))]
   rw[eA.mpr h]at e;exact sM e
theorem Gu{h:List aj}{d:Nat}{H:List (Str×Pl)}{x:Str}{P:Pl}(e:h[d]?=some (qo H))(l:H.lookup x=some P):br h (.ref d) (.str x)=some (iG P):=by
 have e1:=au (k:=.dt false (H.map λe=>mI e.1)) (ps:=H.map λe=>iG e.2) e rfl
 simp only[br,e1];exact sM l
theorem Gv(k:Nat){h:List aj}{v:PV}:Gg (run aP k) "Place" [.ref h.length,v] (h++[⟨.ins "Place" [],[]⟩])=some (.ok .aL,h++[fM v .aL]):=by
 rw[Gi];have e1:∀ρ,eW fA fB "value" (.ref h.length) v ⟨ρ,h++[⟨.ins "Place" [],[]⟩]⟩=some ⟨ρ,h++[⟨.ins "Place" ["value"],[v]⟩]⟩:=λρ=>by
  rw[ei dw (by kernel_rfl)]
  simp[ic]
 have e2:∀ρ,eW fA fB "away" (.ref h.length) .aL ⟨ρ,h++[⟨.ins "Place" ["value"],[v]⟩]⟩=some ⟨ρ,h++[fM v .aL]⟩:=λρ=>by
  rw[ei dw (by kernel_rfl)]
  simp only[bA,cw,jX,jZ,Nat.lt_add_one,List.set_append_right,az,Nat.sub_self,List.set_cons_zero];rfl
 simp only[↓bJ,e1,e2]
theorem T4{h:List aj}{k:Nat}{a:Ac}:br h (fD k a) (.int 2)=some (.str a.x):=rfl
theorem T5{h:List aj}{k:Nat}{a:Ac}:br h (fD k a) (.int 4)=some (.int (a.f:Int)):=rfl
theorem T6{h:List aj}{k:Nat}{a:Ac}:br h (fD k a) (.int 5)=some (.int (a.m:Int)):=rfl
theorem Lz{h:List aj}{k:Nat}{a:Ac}:br h (fD k a) (.int 1)=some (.str a.w):=rfl
theorem J4{α:Type}(f:α->PV)(P:List α)(a m:Nat)(hm:a+m<=P.length):iC (P.map f) (some (a:Int)) (some ((a:Int)+(m:Int)))=((P.drop a).take m).map f:=by
 unfold iC;have e:((a:Int)+(m:Int))=((a+m:Nat):Int):=rfl;rw[e,HT.nO,HT.nO,aQ,tP (by lia),tP (by lia),Nat.add_sub_cancel_left,t8,ua]
theorem xj(c:Nat){h:List aj}{fi d k:Nat}{j r:Int}{H:List (Str×Pl)}{a:Ac}{P:Pl}(e1:h[fi]?=some (zQ j d r))(e2:h[d]?=some (qo H))(l:H.lookup a.x=some P)(hm:a.f+a.m<=P.length)(hP:P.length<=1000) :
  run aP (c+1) "places_of" [.ref fi,fD k a] h=some (.ok (iG ((P.drop a.f).take a.m)),h):=by
 rw[rj];have d1:=au e1 rfl;have i1:=Gu e2 l;simp only[↓bJ,d1,i1,T4,T5,T6,J4 _ P a.f a.m hm];rfl
theorem hne{h:List aj}{n:Nat}{c:aj}(e:h[n]?=some c):h.isEmpty=false:=by
 cases h with
 | nil=>simp at e
 | cons _ _=>rfl
theorem kr(n:Nat)(L:List PV):ao (.ref n::L)=false:=rfl
noncomputable def aI(H:List (Str×Pl))(a:Ac):Pl:=(((H.lookup a.x).getD []).drop a.f).take a.m
structure mJ (h:List aj) (fi d:Nat) (j r:Int) (H:List (Str×Pl)):Prop where
 f:h[fi]?=some (zQ j d r)
 d:h[d]?=some (qo H)
 p:∀e∈H,Vu h e.2
 l:∀e∈H,e.2.length<=1000
def lD(H:List (Str×Pl))(a:Ac):Prop:=∃P,H.lookup a.x=some P/\a.f+a.m<=P.length
theorem vi{H:List (Str×Pl)}{x:Str}{P:Pl}:H.lookup x=some P->(x,P)∈H:=eX
theorem mJ.pl{h:List aj}{fi d:Nat}{j r:Int}{H:List (Str×Pl)}(R:mJ h fi d j r H)(a:Ac):Vu h (aI H a):=by
 unfold aI;cases e:H.lookup a.x with
 | none=>intro x hx;simp at hx
 | some P=>exact λx hx=>R.p _ (vi e) x (yc (yd hx))
theorem T7(c:Nat){h:List aj}{fi d k:Nat}{j r:Int}{H:List (Str×Pl)}{a:Ac}(R:mJ h fi d j r H)(ft:lD H a) :
  run aP (c+1) "places_of" [.ref fi,fD k a] h=some (.ok (iG (aI H a)),h):=by
 obtain⟨P,l,hm⟩:=ft;have e:aI H a=(P.drop a.f).take a.m:=by unfold aI;rw[l];rfl
 rw[e];exact xj c R.f R.d l hm (R.l _ (vi l))
theorem O1{H:List (Str×Pl)}{a:Ac}{h:List aj}{fi d:Nat}{j r:Int}(R:mJ h fi d j r H):(aI H a).length<=1000:=by
 unfold aI;cases e:H.lookup a.x with
 | none=>simp
 | some P =>
  refine aJ ?_ (R.l _ (vi e));simp only[Option.getD_some,lU,tK]
  lia
theorem Bn(c:Nat){h:List aj}{w fi d k:Nat}{j r:Int}{H:List (Str×Pl)}{a:Ac}(R:mJ h fi d j r H)(ft:lD H a) :
  run aP (c+2) "Places.touch" [.ref w,.ref fi,fD k a] h=some (.ok (dY (aI H a)),h):=by
 rw[mE];have e1:=T7 c R ft (k:=k);have e2:∀x∈aI H a,run aP (c+1) "taken_back" [.ref x.1] h=some (.ok x.2,h):=λx hx=>vh c (R.pl a x hx)
 have e3:(aI H a).length<=4000000:=aJ (O1 R) (by decide)
 have hE:=hne R.f;simp only[↓bJ,e1,e2,e3,iG,aQ,hE,kr,aY,aT];rfl
end bS
set_option maxHeartbeats 2000000
namespace bS
open PySem L2 L2.U
def C5(h:List aj):Pl->List PV->List aj
 | x::P,w::W=>C5 (h.set x.1 (fM w .aL)) P W
 | _,_=>h
theorem nY:∀(P:Pl) (W:List PV) (h:List aj),Ch h (C5 h P W) (P.map (·.1))
 | [],_,h=>Ch.refl h _
 | _::_,[],h=>Ch.refl h _
 | x::P,w::W,h=>by
  refine Ch.tr ((Ch.set (fM w .aL)).mono (B:=(x::P).map (·.1)) (by simp)) (nY P W _) ?_
  intro n hn _;simp only[aO,aW];exact .inr hn
noncomputable def newV(P:Pl)(W:List PV)(x:Nat×PV):PV:=match P,W with
 | y::P,w::W=>newV P W (x.1,if y.1=x.1 then w else x.2)
 | _,_=>x.2
theorem Bo:∀(P:Pl) (W:List PV) (h:List aj) (x:Nat×PV),h[x.1]?=some (fM x.2 .aL)->(C5 h P W)[x.1]?=some (fM (newV P W x) .aL)
 | [],_,_,x,e=>by unfold newV;exact e
 | _::_,[],_,x,e=>by unfold newV;exact e
 | y::P,w::W,h,x,e=>by
  unfold newV;refine Bo P W (h.set y.1 (fM w .aL)) (x.1,if y.1=x.1 then w else x.2) ?_
  show(h.set y.1 (fM w .aL))[x.1]?=some (fM (if y.1=x.1 then w else x.2) .aL)
  by_cases hy:y.1=x.1
  ·rw[if_pos hy,hy];exact ik e
  ·rw[if_neg hy,bV hy];exact e
def stH(H:List (Str×Pl))(P:Pl)(W:List PV):List (Str×Pl):=H.map λe=>(e.1,e.2.map λx=>(x.1,newV P W x))
theorem J5(H:List (Str×Pl))(P:Pl)(W:List PV):qo (stH H P W)=qo H:=by
 unfold qo stH iG;simp only[oN,Function.comp_def]
theorem LA{h:List aj}{P:Pl}(hP:Vu h P){n:Nat}{c:aj}(e:h[n]?=some c)(hc:∀v,c≠fM v .aL):n∉P.map (·.1):=by
 intro hm;obtain⟨x,hx,rfl⟩:=dC.mp hm;rw[hP x hx]at e;cases e;exact hc _ rfl
theorem mJ.store{h:List aj}{fi d:Nat}{j r:Int}{H:List (Str×Pl)}(R:mJ h fi d j r H){P:Pl}(hP:Vu h P)(W:List PV):mJ (C5 h P W) fi d j r (stH H P W) where
 f:=(nY P W h).get R.f (LA hP R.f λv z=>by cases z)
 d:=by rw[J5];exact(nY P W h).get R.d (LA hP R.d λv z=>by unfold qo at z;cases z)
 p:=λe he x hx=>by
  obtain⟨e0,T8,rfl⟩:=dC.mp he;obtain⟨x0,Yc,rfl⟩:=dC.mp hx;exact Bo P W h x0 (R.p e0 T8 x0 Yc)
 l:=λe he=>by
  obtain⟨e0,T8,rfl⟩:=dC.mp he;rw[aQ];exact R.l e0 T8
theorem Bp{x0 x1 x2 x3:Option PV}:∀(P:Pl) (W:List PV) (h:List aj) (x4 x5:Option PV),(∀x∈P,∃v,h[x.1]?=some (fM v .aL))->P.length=W.length ->
  ∃y4 y5,gH Q0 (JB fA fB "value" (rd 5) (rd 4)) (List.zipWith eV (P.map λx=>.ref x.1) W) ⟨[x0,x1,x2,x3,x4,x5],h⟩=some (.ok .nx,⟨[x0,x1,x2,x3,y4,y5],C5 h P W⟩)
 | [],[],h,x4,x5,_,_=>⟨x4,x5,rfl⟩
 | [],_::_,h,x4,x5,_,e=>by cases e
 | _::_,[],h,x4,x5,_,e=>by cases e
 | x::P,w::W,h,x4,x5,hp,e=>by
  obtain⟨v,e1⟩:=hp x (by simp)
  obtain⟨y4,y5,ih⟩:=Bp (x0:=x0) (x1:=x1) (x2:=x2) (x3:=x3) P W (h.set x.1 (fM w .aL)) (some (.ref x.1)) (some w) (λz hz=>by
   obtain⟨u,e2⟩:=hp z (by simp[hz])
   by_cases hx:x.1=z.1
   ·exact⟨w,by rw[hx];exact ik e2⟩
   ·exact⟨u,by rw[bV hx];exact e2⟩) (by simpa using e)
  refine⟨y4,y5,?_⟩;have e2:=λρ=>Bm (w:=w) (ρ:=ρ) e1
  refine bD ?_;simp only[aO,List.zipWith_cons_cons,eV];simp only[↓gk,e2,ih];rfl
theorem J6(c:Nat){h:List aj}{w fi d k:Nat}{j r:Int}{H:List (Str×Pl)}{a:Ac}{W:List PV}(R:mJ h fi d j r H)(ft:lD H a)(hW:W.length=(aI H a).length) :
  run aP (c+2) "Places.store" [.ref w,.ref fi,fD k a,.lst W] h=some (.ok .aL,C5 h (aI H a) W):=by
 rw[mF];have e1:=T7 c R ft (k:=k);have hE:=hne R.f;have hz:Ou (iG (aI H a)) (.lst W)=some (List.zipWith eV ((aI H a).map λx=>.ref x.1) W):=rfl
 obtain⟨y4,y5,hl⟩:=Bp (x0:=some (.ref w)) (x1:=some (.ref fi)) (x2:=some (fD k a)) (x3:=some (.lst W)) (aI H a) W h none none (λx hx=>⟨x.2,R.pl a x hx⟩) hW.symm
 simp only[↓bJ,e1,hE,kr,hz,hl,aY,aT]
noncomputable def jM:Nat->List PV->Pl
 | _,[]=>[]
 | n,v::vs=>(n,v)::jM (n+1) vs
theorem xk{bd:PV->List aj->Option (Option PV×List aj)}(hb:∀v h,bd v h=some (some (.ref h.length),h++[fM v .aL])):∀(vs:List PV) (h:List aj),dU bd vs h=some ((jM h.length vs).map λx=>.ref x.1,h++vs.map λv=>fM v .aL)
 | [],h=>by simp[dU,jM]
 | v::vs,h=>by
  rw[qm (hb v h) (xk hb vs _)];simp[jM]
theorem xl(k:Nat)(vs:List PV)(h:List aj):dU (pW (du 1) (Qg "Place" 2 (Gg (run aP k) "Place") (jK (rd 1) (cf []))) [none,none]) vs h=some ((jM h.length vs).map λx=>.ref x.1,h++vs.map λv=>fM v .aL):=by
 refine xk (λv h=>?_) vs h
 refine O0 (st1:=⟨[none,some v],h⟩) (OY:=[none,some v]) rfl ?_;have e1:=Gv k (h:=h) (v:=v);refine bD ?_;simp only[↓gk,e1]
theorem J7(c:Nat){h:List aj}{w:Nat}{j:PV}{vs:List PV}(hv:vs.length<=1000):run aP (c+1) "Places.owned" [.ref w,j,.lst vs] h=some (.ok (iG (jM h.length vs)),h++vs.map λv=>fM v .aL):=by
 rw[gO];have e3:vs.length<=4000000:=aJ hv (by decide)
 simp only[↓bJ,e3,xl];rfl
end bS
set_option maxHeartbeats 2000000
namespace bS
open PySem L2 L2.U
structure Nm where
 a:Str
 b:Str
 c:Str
 d:Str
 e:Str
 f:Str
 z:Nat
 y:Nat
inductive N5 where
 | a | b | c | d | e
 deriving DecidableEq
noncomputable def Nm.n(N:Nm):N5->Str
 | .a=>N.a
 | .b=>N.b
 | .c=>N.c
 | .d=>N.d
 | .e=>N.e
structure bj (N:Nm):Prop where
 n:∀{x y:N5},N.n x=N.n y->x=y
 n0:∀x:N5,N.n x≠""
 z1:1<=N.z
 z8:N.z<=8
 y1:1<=N.y
 y8:N.y<=8
def zR:PV:=.aq [.str "num"]
def xm(z:Nat):PV:=.aq [.str "strip",.int (z:Int)]
def J8(z:Nat):PV:=.aq [.str "rec",.aq [zR,xm z]]
noncomputable def nS(N:Nm):N5->PV
 | .a=>zR
 | .b=>zR
 | .c=>xm N.z
 | .d=>.aq [.str "own"]
 | .e=>J8 N.y
inductive Ix where
 | at (i:Nat) | a | b
noncomputable def xo(N:Nm):Ix->PV
 | .at i=>.int (i:Int)
 | .a=>.str N.a
 | .b=>.str N.b
inductive Sp where
 | a | b | c | d | n | s | i (x:Ix) | j (x:Ix)
def fE(N:Nm):Sp->PV
 | .a=>.aq [.str N.a,.bl false,.aq [],.aL]
 | .b=>.aq [.str N.b,.bl false,.aq [],.aL]
 | .c=>.aq [.str N.c,.bl false,.aq [],.aL]
 | .d=>.aq [.str N.d,.bl false,.aq [],.aL]
 | .n=>.aq [.str N.e,.bl false,.aq [.int 0],.aL]
 | .s=>.aq [.str N.e,.bl false,.aq [.int 1],.aL]
 | .i x=>.aq [.str N.c,.bl false,.aq [],xo N x]
 | .j x=>.aq [.str N.e,.bl false,.aq [.int 1],xo N x]
def Ql(N:Nm)(x:N5):PV:=.aq [.str (N.n x),.bl false,.aq [],.aL]
noncomputable def Sp.x:Sp->N5
 | .a=>.a
 | .b=>.b
 | .c=>.c
 | .i _=>.c
 | .d=>.d
 | _=>.e
noncomputable def Sp.f:Sp->Nat
 | .s=>1
 | .j _=>1
 | _=>0
inductive Op where
 | num (i:Int) | sp (s:Sp)
def gm(N:Nm):Op->PV
 | .num i=>.int i
 | .sp s=>fE N s
inductive Sg where
 | add | sub | mul
noncomputable def Bq:Sg->Str
 | .add=>"+"
 | .sub=>"-"
 | .mul=>"*"
inductive Rw where
 | put (s:Sp) (o:Op)
 | fill (s:Sp) (o:Op)
 | set (s:Sp) (g:Sg) (o p:Op)
 | dH (s t:Sp)
 | gp (x:N5)
 | jj (o:Op)
 | ifs (o p:Op) (k:Nat)
 | go (k:Nat)
 | cV
def bH(N:Nm):Rw->PV
 | .put s o=>.aq [.str "put",fE N s,gm N o]
 | .fill s o=>.aq [.str "fill",fE N s,gm N o]
 | .set s g o p=>.aq [.str "set",fE N s,.str (Bq g),gm N o,gm N p]
 | .dH s t=>.aq [.str "copy",fE N s,fE N t]
 | .gp x=>.aq [.str "move",Ql N x,Ql N x]
 | .jj o=>.aq [.str "say",gm N o]
 | .ifs o p k=>.aq [.str "if",gm N o,gm N p,.int (k:Int)]
 | .go k=>.aq [.str "go",.int (k:Int)]
 | .cV=>.aq [.str "give",.str ""]
def rk(N:Nm)(x:N5):PV:=.aq [.str (N.n x),nS N x]
def fdP(N:Nm)(R:List Rw):PV:=.aq [.str N.f,.aq [rk N .a],.aL,.aq ([N5.b,.c,.d,.e].map (rk N)),.aq (R.map (bH N))]
theorem Gw(N:Nm)(s:Sp):noRef (fE N s)=true:=by
 cases s
 case i x=>cases x<;>rfl
 case j x=>cases x<;>rfl
 all_goals rfl
theorem T9(N:Nm)(o:Op):noRef (gm N o)=true:=by
 cases o
 ·rfl
 ·exact Gw N _
theorem fF{α:Type}{f:α->PV}(h:∀x,noRef (f x)=true):∀l:List α,ao (l.map f)=true
 | []=>rfl
 | x::l=>by rw[aO,ao,h x,fF h l];rfl
theorem qp{l:List PV}(h:ao l=true):noRef (.lst l)=true:=by rw[noRef];exact h
theorem O2{l:List PV}(h:ao l=true):noRef (.aq l)=true:=by rw[noRef];exact h
theorem Br(N:Nm)(x:N5):noRef (nS N x)=true:=by cases x<;>rfl
theorem sN(N:Nm)(r:Rw):noRef (bH N r)=true:=by
 cases r
 all_goals simp[bH,Ql,noRef,ao,Gw,T9,fF]
theorem qr(N:Nm)(F:List Rw):noRef (fdP N F)=true:=by
 simp[fdP,rk,noRef,ao,fF,Br,sN]
theorem bj.b{N:Nm}(K:bj N){x y:N5}(h:x≠y):(N.n x==N.n y)=false:=eA.mpr λe=>h (K.n e)
theorem nZ{h:List aj}{x y:Str}:mr h (.str x) (.str y)=some (.bl (x==y)):=rfl
theorem vj(c:Nat){N:Nm}(K:bj N)(F:List Rw)(x:N5):run aP (c+1) "kind_of" [fdP N F,.str (N.n x)] []=some (.ok (nS N x),[]):=by
 rw[w9];have h1:∀(h:List aj) (y z:N5),y≠z->mr h (.str (N.n y)) (.str (N.n z))=some (.bl false):=λh y z e=>by rw[nZ,K.b e]
 have h2:∀(h:List aj) (y:N5),mr h (.str (N.n y)) (.str (N.n y))=some (.bl true):=λh y=>by rw[nZ,fu]
 cases x<;>simp only[↓bJ,h1,h2,fdP,rk,aO,dP,ne_eq,reduceCtorEq,not_false_eq_true]<;>rfl
end bS
set_option maxHeartbeats 2000000
namespace bS
open PySem L2 L2.U
noncomputable def sO:N5->Nat
 | .e=>2
 | _=>1
def vE(N:Nm)(w:Str)(s:Sp):Ac:=⟨w,N.n s.x,false,s.f,1,""⟩
def O3(N:Nm)(w:Str)(x:N5):Ac:=⟨w,N.n x,false,0,sO x,""⟩
theorem jk(c:Nat)(N:Nm)(x:N5):run aP (c+1) "is_holder" [nS N x] []=some (.ok (.bl false),[]):=by
 cases x<;>kernel_rfl
theorem n6(c:Nat)(N:Nm)(x:N5):run aP (c+2) "shape_of" [nS N x] []=some (.ok (nS N x),[]):=by
 cases x<;>kernel_rfl
theorem touch_s(c:Nat){N:Nm}(K:bj N)(F:List Rw)(w t:Str)(s:Sp):run aP (c+8) "touch" [fdP N F,.str w,fE N s,.str t] []=some (.ok (ji ⟨w,N.n s.x,false,s.f,1,t⟩),[]):=by
 rw[sL];have e1:∀h,br h (fE N s) (.int 0)=some (.str (N.n s.x)):=λh=>by cases s<;>rfl
 have e2:∀h,br h (fE N s) (.int 1)=some (.bl false):=λh=>by cases s<;>rfl
 have e3:=λx=>vj (c+6) K F x
 have e4:=λx=>n6 (c+5) N x
 cases s<;>simp only[↓bJ,e1,e2,e3,e4]<;>rfl
theorem touch_w(c:Nat){N:Nm}(K:bj N)(F:List Rw)(w t:Str)(x:N5):run aP (c+8) "touch" [fdP N F,.str w,Ql N x,.str t] []=some (.ok (ji ⟨w,N.n x,false,0,sO x,t⟩),[]):=by
 rw[sL];have e3:=λx=>vj (c+6) K F x
 have e4:=λx=>n6 (c+5) N x
 cases x<;>simp only[↓bJ,e3,e4,Ql]<;>rfl
theorem Bs(c:Nat){N:Nm}(K:bj N)(F:List Rw)(w t:Str)(x:N5):run aP (c+9) "touch_whole" [fdP N F,.str w,.str (N.n x),.str t] []=some (.ok (ji ⟨w,N.n x,false,0,sO x,t⟩),[]):=by
 rw[nF];have e3:=λx=>vj (c+7) K F x
 have e4:=λx=>jk (c+7) N x
 have e5:run aP (c+8) "touch" [fdP N F,.str w,.aq [.str (N.n x),.bl false,.aq [],.aL],.str t] []=_:=touch_w c K F w t x;simp only[↓bJ,e3,e4,e5]
def LB(N:Nm)(x:N5):Ac:=O3 N "read" x
def LC(N:Nm):Ix->List Ac
 | .a=>[LB N .a]
 | .b=>[LB N .b]
 | _=>[]
def vF(N:Nm):Sp->List Ac
 | .i x=>LC N x
 | .j x=>LC N x
 | _=>[]
def nI(N:Nm):Op->List Ac
 | .num _=>[]
 | .sp s=>vF N s++[vE N "read" s]
def C6(N:Nm):Sp->List Ac
 | .i x=>vF N (.i x)++[vE N "turn" (.i x)]
 | .j x=>vF N (.j x)++[vE N "turn" (.j x)]
 | s=>[vE N "fill" s]
def bZ(N:Nm):Rw->List Ac
 | .put s o=>nI N o++C6 N s
 | .fill s o=>nI N o++C6 N s
 | .set s _ o p=>nI N o++nI N p++C6 N s
 | .dH s t=>[vE N "read" t,vE N "fill" s]
 | .gp x=>[O3 N "empty" x,O3 N "fill" x]
 | .jj o=>nI N o
 | .ifs o p _=>nI N o++nI N p
 | .go _=>[]
 | .cV=>[]
noncomputable def J9:Rw->Str
 | .put _ _=>"put_acts"
 | .fill _ _=>"put_acts"
 | .set _ _ _ _=>"set_acts"
 | .dH _ _=>"copy_acts"
 | .gp _=>"move_acts"
 | .jj _=>"say_acts"
 | .ifs _ _ _=>"if_acts"
 | .go _=>"go_acts"
 | .cV=>"give_acts"
theorem O4(c:Nat){N:Nm}(K:bj N)(F:List Rw)(s:Sp):run aP (c+10) "at_acts" [fdP N F,fE N s] []=some (.ok (.lst ((vF N s).map ji)),[]):=by
 rw[xa];have e1:run aP (c+9) "touch_whole" [fdP N F,.str "read",.str N.a,.str ""] []=some (.ok (ji (LB N .a)),[]):=Bs c K F "read" "" .a;have e2:run aP (c+9) "touch_whole" [fdP N F,.str "read",.str N.b,.str ""] []=some (.ok (ji (LB N .b)),[]):=Bs c K F "read" "" .b;cases s
 case i x=>cases x<;>simp only[↓bJ,fE,xo,e1,e2]<;>rfl
 case j x=>cases x<;>simp only[↓bJ,fE,xo,e1,e2]<;>rfl
 all_goals (simp only[↓bJ,fE,xo]<;>rfl)
theorem qt(c:Nat){N:Nm}(K:bj N)(F:List Rw)(o:Op):run aP (c+11) "operand_acts" [fdP N F,gm N o] []=some (.ok (.lst ((nI N o).map ji)),[]):=by
 rw[mH];cases o with
 | num i=>simp only[↓bJ,gm]<;>rfl
 | sp s =>
  have e1:=O4 c K F s;have e2:=touch_s (c+2) K F "read" "" s;have e4:∀st,Vc Ty.tuple (rd 1) ⟨[some (fdP N F),some (fE N s)],st⟩=some (.ok (.bl true),⟨[some (fdP N F),some (fE N s)],st⟩):=λst=>by cases s<;>rfl
  cases s
  case i x=>cases x<;>simp only[↓bJ,gm,e1,e2,e4]<;>rfl
  case j x=>cases x<;>simp only[↓bJ,gm,e1,e2,e4]<;>rfl
  all_goals (simp only[↓bJ,gm,e1,e2,e4]<;>rfl)
end bS
set_option maxHeartbeats 2000000
namespace bS
open PySem L2 L2.U
theorem add_l{h:List aj}(A B:List Ac)(hl:A.length+B.length<=1000):fV h (.lst (A.map ji)) (.lst (B.map ji))=some (.lst ((A++B).map ji)):=by
 show L2.U.sizeOk ((A.map ji).length+(B.map ji).length) (.lst (A.map ji++B.map ji))=_;rw[aQ,aQ,dZ];unfold L2.U.sizeOk;exact if_pos (aJ hl (by decide))
theorem Bt(N:Nm)(x:Ix):(LC N x).length<=1:=by cases x<;>simp[LC]
theorem jy(N:Nm)(s:Sp):(vF N s).length<=1:=by
 cases s
 case i x=>exact Bt N x
 case j x=>exact Bt N x
 all_goals simp[vF]
theorem c6(N:Nm)(o:Op):(nI N o).length<=2:=by
 cases o with
 | num i=>simp[nI]
 | sp s=>have:=jy N s;simp[nI];lia
theorem jz(N:Nm)(s:Sp):(C6 N s).length<=2:=by
 cases s
 case i x=>have:=jy N (.i x);simp[C6];lia
 case j x=>have:=jy N (.j x);simp[C6];lia
 all_goals simp[C6]
theorem Gy(c:Nat){N:Nm}(K:bj N)(F:List Rw)(s:Sp):run aP (c+11) "target_acts" [fdP N F,fE N s] []=some (.ok (.lst ((C6 N s).map ji)),[]):=by
 rw[nG];have e0:=touch_s (c+2) K F "fill" "" s;cases s
 case i x =>
  have e1:=O4 c K F (.i x);have e2:=touch_s (c+2) K F "turn" "" (.i x);have e3:=λh=>add_l (h:=h) (vF N (.i x)) [vE N "turn" (.i x)] (by have:=jy N (.i x);simp;lia)
  cases x<;>simp only[↓bJ,e1,e2,e3]<;>rfl
 case j x =>
  have e1:=O4 c K F (.j x);have e2:=touch_s (c+2) K F "turn" "" (.j x);have e3:=λh=>add_l (h:=h) (vF N (.j x)) [vE N "turn" (.j x)] (by have:=jy N (.j x);simp;lia)
  cases x<;>simp only[↓bJ,e1,e2,e3]<;>rfl
 all_goals (simp only[↓bJ,e0]<;>rfl)
theorem Ua(c:Nat){N:Nm}(K:bj N)(F:List Rw)(s:Sp)(o:Op):run aP (c+12) "put_acts" [fdP N F,bH N (.put s o)] []=some (.ok (.lst ((bZ N (.put s o)).map ji)),[]):=by
 rw[lB];have e1:=qt c K F o;have e2:=Gy c K F s;have e3:=λh=>add_l (h:=h) (nI N o) (C6 N s) (by have:=c6 N o;have:=jz N s;lia)
 simp only[↓bJ,e1,e2,e3,bH];rfl
theorem O5(c:Nat){N:Nm}(K:bj N)(F:List Rw)(s:Sp)(o:Op):run aP (c+12) "put_acts" [fdP N F,bH N (.fill s o)] []=some (.ok (.lst ((bZ N (.fill s o)).map ji)),[]):=by
 rw[lB];have e1:=qt c K F o;have e2:=Gy c K F s;have e3:=λh=>add_l (h:=h) (nI N o) (C6 N s) (by have:=c6 N o;have:=jz N s;lia)
 simp only[↓bJ,e1,e2,e3,bH];rfl
theorem Ub(c:Nat){N:Nm}(K:bj N)(F:List Rw)(s:Sp)(g:Sg)(o p:Op):run aP (c+12) "set_acts" [fdP N F,bH N (.set s g o p)] []=some (.ok (.lst ((bZ N (.set s g o p)).map ji)),[]):=by
 rw[u5];have e1:=qt c K F o;have e4:=qt c K F p;have e2:=Gy c K F s;have l1:=c6 N o;have l2:=c6 N p;have l3:=jz N s;have e3:=λh=>add_l (h:=h) (nI N o) (nI N p) (by lia)
 have e5:=λh=>add_l (h:=h) (nI N o++nI N p) (C6 N s) (by rw[bA];lia)
 simp only[↓bJ,e1,e2,e3,e4,e5,bH];rfl
theorem O6(c:Nat){N:Nm}(K:bj N)(F:List Rw)(s t:Sp):run aP (c+12) "copy_acts" [fdP N F,bH N (.dH s t)] []=some (.ok (.lst ((bZ N (.dH s t)).map ji)),[]):=by
 rw[q9];have e1:=touch_s (c+3) K F "read" "" t;have e2:=touch_s (c+3) K F "fill" "" s;simp only[↓bJ,e1,e2,bH];rfl
theorem O7(c:Nat){N:Nm}(K:bj N)(F:List Rw)(x:N5):run aP (c+12) "move_acts" [fdP N F,bH N (.gp x)] []=some (.ok (.lst ((bZ N (.gp x)).map ji)),[]):=by
 rw[rf];have e1:=touch_w (c+3) K F "empty" "" x;have e2:=touch_w (c+3) K F "fill" "" x;simp only[↓bJ,e1,e2,bH];rfl
theorem Uc(c:Nat){N:Nm}(K:bj N)(F:List Rw)(o:Op):run aP (c+12) "say_acts" [fdP N F,bH N (.jj o)] []=some (.ok (.lst ((bZ N (.jj o)).map ji)),[]):=by
 rw[u6];have e1:=qt c K F o;simp only[↓bJ,e1,bH];rfl
theorem Ud(c:Nat){N:Nm}(K:bj N)(F:List Rw)(o p:Op)(k:Nat):run aP (c+12) "if_acts" [fdP N F,bH N (.ifs o p k)] []=some (.ok (.lst ((bZ N (.ifs o p k)).map ji)),[]):=by
 rw[xb];have e1:=qt c K F o;have e4:=qt c K F p;have l1:=c6 N o;have l2:=c6 N p;have e3:=λh=>add_l (h:=h) (nI N o) (nI N p) (by lia)
 simp only[↓bJ,e1,e3,e4,bH];rfl
theorem Yd(c:Nat){N:Nm}(F:List Rw)(k:Nat):run aP (c+12) "go_acts" [fdP N F,bH N (.go k)] []=some (.ok (.lst ((bZ N (.go k)).map ji)),[]):=by
 rw[xc];simp only[↓bJ];rfl
theorem O8(c:Nat){N:Nm}(F:List Rw):run aP (c+12) "give_acts" [fdP N F,bH N .cV] []=some (.ok (.lst ((bZ N .cV).map ji)),[]):=by
 rw[rh];simp only[↓bJ,bH];rfl
end bS
set_option maxHeartbeats 4000000
namespace bS
open PySem L2 L2.U
def Z2(p:PV):Gx PV:=λst=>match p with
 | .nd .lst qs=>hZ ⟨.lst,qs⟩ st
 | _=>none
theorem Gz(link:List (Option Nat))(fi:Gx AW)(bd:Bd):ja true link fi bd=bnd (ja false link fi bd) Z2:=by
 funext st
 unfold ja bnd;cases fi st with
 | none=>rfl
 | some r =>
  obtain⟨r,st1⟩:=r;cases r with
  | ok s =>
   show(AY (bd (cU link st1.ρ)) st1.h s).bind (AZ true st1.ρ)=((AY (bd (cU link st1.ρ)) st1.h s).bind (AZ false st1.ρ)).bind (M8 Z2);cases AY (bd (cU link st1.ρ)) st1.h s<;>rfl
  | ex m C=>rfl
theorem n8{h:List aj}{n:Nat}:∀{l:List PV},ao l=true->dg (mD h n) l=some l
 | [],_=>rfl
 | p::l,hn=>by
  simp only[ao,aF]at hn;show(mD h n p).bind (λy=>(dg (mD h n) l).map λys=>y::ys)=_
  rw[n8 hn.2,show mD h n p=some p by cases n<;>(unfold mD;rw[if_pos hn.1])]
  rfl
theorem qu{ps:List PV}(h:ao ps=true):gM [⟨.lst,ps⟩] (.ref 0)=some (.lst ps):=by
 show(dg (mD _ 3) ps).map _=_;rw[n8 h];rfl
theorem Ue(a:Ac):noRef (ji a)=true:=by simp[ji,noRef,ao]
theorem O9(A:List Ac):ao (A.map ji)=true:=fF Ue A
theorem Ug(c:Nat){N:Nm}(K:bj N)(F:List Rw)(r:Rw):run aP (c+12) (J9 r) [fdP N F,bH N r] []=some (.ok (.lst ((bZ N r).map ji)),[]):=by
 cases r with
 | put s o=>exact Ua c K F s o
 | fill s o=>exact O5 c K F s o
 | set s g o p=>exact Ub c K F s g o p
 | dH s t=>exact O6 c K F s t
 | gp x=>exact O7 c K F x
 | jj o=>exact Uc c K F o
 | ifs o p k=>exact Ud c K F o p k
 | go k=>exact Yd c F k
 | cV=>exact O8 c F
theorem xp(N:Nm)(r:Rw):(bZ N r).length<=6:=by
 cases r with
 | put s o=>have:=c6 N o;have:=jz N s;simp only[bZ,bA];lia
 | fill s o=>have:=c6 N o;have:=jz N s;simp only[bZ,bA];lia
 | set s g o p=>have:=c6 N o;have:=c6 N p;have:=jz N s;simp only[bZ,bA];lia
 | dH s t=>simp[bZ]
 | gp x=>simp[bZ]
 | jj o=>have:=c6 N o;simp only[bZ];lia
 | ifs o p k=>have:=c6 N o;have:=c6 N p;simp only[bZ,bA];lia
 | go k=>simp[bZ]
 | cV=>simp[bZ]
noncomputable def Hy:Rw->Str
 | .put _ _=>"put"
 | .fill _ _=>"fill"
 | .set _ _ _ _=>"set"
 | .dH _ _=>"copy"
 | .gp _=>"move"
 | .jj _=>"say"
 | .ifs _ _ _=>"if"
 | .go _=>"go"
 | .cV=>"give"
theorem Bu{h:List aj}(N:Nm)(r:Rw):br h (bH N r) (.int 0)=some (.str (Hy r)):=by cases r<;>rfl
noncomputable abbrev rsA:Ac:=⟨"rest","",false,0,0,""⟩
def GA(A:List Ac):List Ac:=if A.isEmpty then [rsA]else A
noncomputable def jH:Nat->List (List Ac)->List (Nat×Ac)
 | _,[]=>[]
 | j,A::T=>A.map (λa=>(j,a))++jH (j+1) T
def qw(z:Nat×Ac):PV:=fD z.1 z.2
theorem Uh(r:Rw):(List.lookup (Hy r) fT)=some (J9 r):=by
 cases r<;>kernel_rfl
theorem Pb(r:Rw):J2.lookup (J9 r)=some 2:=by cases r<;>kernel_rfl
theorem Ui{ρ:List (Option PV)}{L R:List PV}(h:L.length+R.length<=1000000):nB (.ref 0) [.lst R] ⟨ρ,[⟨.lst,L⟩]⟩=some (.ok .aL,⟨ρ,[⟨.lst,L++R⟩]⟩):=by
 show(iD (fU λps _=>if ps.length+R.length<=gF then some (ps++R)else none) (.ref 0) [] ⟨ρ,[⟨.lst,L⟩]⟩)=_
 have e:(if L.length+R.length<=gF then some (L++R)else none)=some (L++R):=if_pos (aJ h (by decide))
 show(((if L.length+R.length<=gF then some (L++R)else none).map λqs=>((⟨.lst,qs⟩:aj),PV.aL)).map λr=>_)=_
 rw[e];rfl
theorem C7(c:CT){N:Nm}{x0 x1:Option PV}{F:List Rw}{r:Rw}{A:List Ac}{p:PV}{h':List aj}(hA:A.length<=200)(hf:gM h' p=some (.lst (A.map ji)))(hc:c (J9 r) [fdP N F,bH N r] []=some (.ok p,h'))(k:Nat)(L:List PV)(hL:L.length<=9000)(x6:Option PV):jh c ⟨[x0,x1,some (fdP N F),some (.ref 0),some (.int (k:Int)),some (bH N r),x6],[⟨.lst,L⟩]⟩=some (.ok .nx,⟨[x0,x1,some (fdP N F),some (.ref 0),some (.int (k:Int)),some (bH N r),some (.lst (A.map ji))],[⟨.lst,L++(GA A).map (fD k)⟩]⟩):=by
 have e1:∀h,br h (bH N r) (.int 0)=some (.str (Hy r)):=λh=>Bu N r
 have e3:(N3 (.str (Hy r))).bind (λk=>Option.map PV.fn (List.lookup k fT))=some (.fn (J9 r)):=by
  show Option.map PV.fn (List.lookup (Hy r) fT)=_;rw[Uh];rfl
 have e4:(Vj (.fn (J9 r))).bind (λx=>Option.map (λn=>(x,n)) (List.lookup x J2))=some (J9 r,2):=by
  show Option.map (λn=>(J9 r,n)) (List.lookup (J9 r) J2)=_
  rw[Pb];rfl
 have ll:(A.map ji).length<=4000000:=by rw[aQ];lia
 cases hE:A.isEmpty with
 | true =>
  cases A with
  | cons a A=>cases hE
  | nil =>
   have e2:∀ρ,nB (.ref 0) [.lst ((some (PV.aq [.int (k:Int),.str "rest",.str "",.bl false,.int 0,.int 0,.str ""])).toList++[])] ⟨ρ,[⟨.lst,L⟩]⟩=some (.ok .aL,⟨ρ,[⟨.lst,L++[.aq [.int (k:Int),.str "rest",.str "",.bl false,.int 0,.int 0,.str ""]]⟩]⟩):=λρ=>Ui (R:=[.aq [.int (k:Int),.str "rest",.str "",.bl false,.int 0,.int 0,.str ""]]) (by simp;lia)
   have l1:[PV.aq [.str "rest",.str "",.bl false,.int 0,.int 0,.str ""]].length<=4000000:=by simp
   refine bD ?_;unfold jh;simp only[↓gk,e1,e2,e3,e4,l1,hc,hf,ao,noRef,qr,sN];rfl
 | false =>
  have ho:GA A=A:=by unfold GA;rw[hE];rfl
  rw[ho];have e2:∀ρ,nB (.ref 0) [.lst (A.map λa=>.aq [.int (k:Int),.str a.w,.str a.x,.bl a.t,.int (a.f:Int),.int (a.m:Int),.str a.k])] ⟨ρ,[⟨.lst,L⟩]⟩=some (.ok .aL,⟨ρ,[⟨.lst,L++A.map (fD k)⟩]⟩):=λρ=>Ui (by rw[aQ];lia)
  have e5:∀h a,fV h (.aq [.int (k:Int)]) (ji a)=some (.aq [.int (k:Int),.str a.w,.str a.x,.bl a.t,.int (a.f:Int),.int (a.m:Int),.str a.k]):=λh a=>rfl
  refine bD ?_;unfold jh;simp only[↓gk,e1,e2,e3,e4,e5,hc,hf,ll,ao,noRef,qr,sN,List.isEmpty_map,hE,tV]
def ku(N:Nm)(rs:List Rw):List (List Ac):=rs.map λr=>GA (bZ N r)
theorem Bv{A:List Ac}(h:A.length<=6):(GA A).length<=6:=by
 unfold GA;split
 ·simp
 ·exact h
theorem sP(c:Nat){N:Nm}(K:bj N){x0 x1:Option PV}{F:List Rw}:∀(rs:List Rw) (k:Nat) (L:List PV) (x4 x5 x6:Option PV),L.length+6*rs.length<=9000->∃(x4' x5' x6':Option PV),gH Q0 (jh (run aP (c+12))) (jL k (rs.map (bH N))) ⟨[x0,x1,some (fdP N F),some (.ref 0),x4,x5,x6],[⟨.lst,L⟩]⟩=some (.ok .nx,⟨[x0,x1,some (fdP N F),some (.ref 0),x4',x5',x6'],[⟨.lst,L++(jH k (ku N rs)).map qw⟩]⟩)
 | [],k,L,x4,x5,x6,_=>⟨x4,x5,x6,by simp[jH,ku];rfl⟩
 | r::rs,k,L,x4,x5,x6,hl=>by
  simp only[cw]at hl;have a4:=Ug c K F r;have a3:gM [] (.lst ((bZ N r).map ji))=some (.lst ((bZ N r).map ji)):=Gf (qp (O9 _));have a2:=xp N r;have lo:=Bv a2;have st:=C7 (run aP (c+12)) (x0:=x0) (x1:=x1) (F:=F) (by lia) a3 a4 k L (by lia) x6
  obtain⟨z4,z5,z6,t3⟩:=sP c K (x0:=x0) (x1:=x1) (F:=F) rs (k+1) (L++(GA (bZ N r)).map (fD k)) (some (.int (k:Int))) (some (bH N r)) (some (.lst ((bZ N r).map ji))) (by rw[bA,aQ];lia)
  refine⟨z4,z5,z6,?_⟩;rw[show L++(jH k (ku N (r::rs))).map qw=L++(GA (bZ N r)).map (fD k)++(jH (k+1) (ku N rs)).map qw by simp[ku,jH,qw,Function.comp_def]]
  exact fC (s1:=⟨[x0,x1,some (fdP N F),some (.ref 0),some (.int (k:Int)),some (bH N r),x6],[⟨.lst,L⟩]⟩) rfl st t3
theorem Pc(c:Nat){N:Nm}(K:bj N)(F:List Rw)(hl:F.length<=100):∃p h',gM h' p=some (.lst ((jH 0 (ku N F)).map qw))/\run aP (c+13) "acts" [.aq [fdP N F],.int 0] []=some (.ok p,h'):=by
 refine⟨.ref 0,[⟨.lst,(jH 0 (ku N F)).map qw⟩],qu (fF (λz=>by simp[qw,fD,noRef,ao]) _),?_⟩
 have e1:br [] (.aq [fdP N F]) (.int 0)=some (fdP N F):=rfl;obtain⟨z4,z5,z6,t3⟩:=sP c K (x0:=some (.aq [fdP N F])) (x1:=some (.int 0)) (F:=F) F 0 [] none none none (by simp;lia)
 rw[Gk];unfold Gj;simp only[↓bJ,e1,t3,fO]
end bS
set_option maxHeartbeats 2000000
namespace bS
open PySem L2 L2.U
noncomputable def bt(T:List (List PV)):List aj:=T.map λl=>⟨.lst,l⟩
noncomputable def c7:Nat->Nat->List PV
 | _,0=>[]
 | b,n+1=>.ref b::c7 (b+1) n
theorem xq:∀(n b i:Nat),i<n->(c7 b n)[i]?=some (.ref (b+i))
 | n+1,b,0,_=>rfl
 | n+1,b,i+1,h=>by
  show(c7 (b+1) n)[i]?=_;rw[xq n (b+1) i (by lia)]
  congr 2
  lia
theorem Bw{L:List PV}{ρ:List (Option PV)}:∀(ps:List PV) (h:List aj),dU Q2 ps h=some (c7 h.length ps.length,h++List.replicate ps.length ⟨.lst,[]⟩)
 | [],h=>by simp[dU,c7]
 | p::ps,h=>by
  have e:pW (du 1) (Ci (cf [])) [none,none] p h=some (some (.ref h.length),h++[⟨.lst,[]⟩]):=rfl;rw[qm e (Bw (L:=L) (ρ:=ρ) ps _)];simp[c7,fN]
def vk(T:List (List PV))(z:Nat×Ac):List (List PV):=if z.2.w="rest" then T else T.set z.1 (T.getD z.1 []++[qw z])
theorem mK{h:List aj}{n:Nat}{L:List PV}{v:PV}{ρ:List (Option PV)}(e:h[n]?=some ⟨.lst,L⟩)(hl:L.length<=4000):iD (fU kh) (.ref n) [v] ⟨ρ,h⟩=some (.ok .aL,⟨ρ,h.set n ⟨.lst,L++[v]⟩⟩):=by
 have:kh L [v]=some (L++[v]):=if_pos (show L.length<gF from oB hl (by decide))
 show((i8 h (.ref n)).bind λc=>(fU kh c.2 [v]).map λr=>_)=_
 rw[eQ e rfl];show(((kh L [v]).map λqs=>((⟨.lst,qs⟩:aj),PV.aL)).map λr=>_)=_
 rw[this];rfl
theorem qx(c:CT){x0 x1:Option PV}:∀(Z:List (Nat×Ac)) (T:List (List PV)) (g:List aj) (x3:Option PV) (m:Nat),T.length=m->(∀z∈Z,z.1<m)->(∀l∈T,l.length+Z.length<=4000) ->
  ∃y3,gH (du 3) (dM c) (Z.map qw) ⟨[x0,x1,some (.ref m),x3],bt T++⟨.lst,c7 0 m⟩::g⟩=some (.ok .nx,⟨[x0,x1,some (.ref m),y3],bt (Z.foldl vk T)++⟨.lst,c7 0 m⟩::g⟩)
 | [],T,g,x3,m,_,_,_=>⟨x3,rfl⟩
 | z::Z,T,g,x3,m,hT,hz,hl=>by
  have hm:=hz z dj;have h1:(bt T++⟨.lst,c7 0 m⟩::g)[m]?=some ⟨.lst,c7 0 m⟩:=by
   rw[gQ (by simp[bt,hT])]
   simp[bt,hT]
  have h2:(bt T++⟨.lst,c7 0 m⟩::g)[z.1]?=some ⟨.lst,T.getD z.1 []⟩:=by
   rw[fj (by simp[bt,hT];exact hm)]
   simp only[bt,cJ,iJ];rw[dy (by rw[hT];exact hm)]
   rfl
  have hlz:(T.getD z.1 []).length+Z.length+1<=4000:=by
   have:=hl (T.getD z.1 []) (by rw[iJ,dy (by rw[hT];exact hm)];exact yu _)
   rw[cw]at this;lia
  have e1:br (bt T++⟨.lst,c7 0 m⟩::g) (.ref m) (.int (z.1:Int))=some (.ref z.1):=by
   have d:=au h1 rfl;simp only[br,d];exact atI_nat (by rw[xq m 0 z.1 hm,jZ])
  have d2:=au h2 rfl;have e0:∀h,br h (qw z) (.int 0)=some (.int (z.1:Int)):=λh=>rfl
  have e2:=λρ=>mK (ρ:=ρ) (v:=qw z) h2 (by lia)
  have e3:∀h,br h (qw z) (.int 1)=some (.str z.2.w):=λh=>rfl
  have e4:∀h,Ht h (.str z.2.w) (.str "rest")=some (.bl (!(z.2.w=="rest"))):=λh=>rfl
  have hs:(bt T++⟨.lst,c7 0 m⟩::g).set z.1 ⟨.lst,T.getD z.1 []++[qw z]⟩=bt (T.set z.1 (T.getD z.1 []++[qw z]))++⟨.lst,c7 0 m⟩::g:=by
   rw[List.set_append_left _ _ (by simp[bt,hT];exact hm)]
   simp[bt,List.map_set]
  by_cases hw:z.2.w="rest"
  ·obtain⟨y3,ih⟩:=qx c (x0:=x0) (x1:=x1) Z T g (some (qw z)) m hT (λy hy=>hz y (cH _ hy)) (λl h=>by have:=hl l h;simp at this;lia)
   refine⟨y3,?_⟩;have hp:vk T z=T:=if_pos hw;rw[jV,hp,aO];have hq:(z.2.w=="rest")=true:=by rw[hw];rfl
   refine fC (s1:=⟨[x0,x1,some (.ref m),some (qw z)],_⟩) rfl ?_ ih;refine bD ?_
   delta dM iI
   simp only[↓gk,e3,e4,hq,gT]
  ·have hp:vk T z=T.set z.1 (T.getD z.1 []++[qw z]):=if_neg hw;obtain⟨y3,ih⟩:=qx c (x0:=x0) (x1:=x1) Z (T.set z.1 (T.getD z.1 []++[qw z])) g (some (qw z)) m (by simp[hT]) (λy hy=>hz y (cH _ hy)) (λl h=>by
    rcases List.mem_or_eq_of_mem_set h with h | rfl
    ·have:=hl l h;simp at this;lia
    ·rw[bA];simp only[cw,jX];lia)
   refine⟨y3,?_⟩;rw[jV,hp,aO];have hq:(z.2.w=="rest")=false:=eA.mpr hw;refine fC (s1:=⟨[x0,x1,some (.ref m),some (qw z)],_⟩) rfl ?_ ih;refine bD ?_
   delta dM iI
   rw[<-hs];simp only[↓gk,d2,e0,e1,e2,e3,e4,hq,tV]
end bS
set_option maxHeartbeats 2000000
namespace bS
open PySem L2 L2.U
def xN(N:Nm):Nat->List Rw->List (List PV)
 | _,[]=>[]
 | k,r::rs=>(bZ N r).map (fD k)::xN N (k+1) rs
theorem Bx(N:Nm):∀(rs:List Rw) (k:Nat),(xN N k rs).length=rs.length
 | [],_=>rfl
 | r::rs,k=>by show(xN N (k+1) rs).length+1=_;rw[Bx];rfl
theorem GB(N:Nm):∀(rs:List Rw) (k i:Nat) (r:Rw),rs[i]?=some r->(xN N k rs)[i]?=some ((bZ N r).map (fD (k+i)))
 | r::rs,k,0,q,e=>by cases e;rfl
 | r::rs,k,i+1,q,e=>by
  show(xN N (k+1) rs)[i]?=_;rw[GB N rs (k+1) i q (by simpa using e)]
  congr 3
  lia
 | [],_,_,_,e=>by simp at e
theorem xt(k:Nat):∀(A:List Ac) (pre:List (List PV)) (l:List PV) (rest:List (List PV)),pre.length=k->(∀a∈A,a.w≠"rest")->(A.map (λa=>(k,a))).foldl vk (pre++l::rest)=pre++(l++A.map (fD k))::rest
 | [],pre,l,rest,_,_=>by simp
 | a::A,pre,l,rest,hk,ha=>by
  have e:vk (pre++l::rest) (k,a)=pre++(l++[fD k a])::rest:=by
   unfold vk;rw[if_neg (ha a dj)];simp only[iJ];rw[gQ (by lia),List.set_append_right _ _ (by lia),hk]
   simp[qw]
  rw[aO,jV,e,xt k A pre _ rest hk λb hb=>ha b (cH _ hb)]
  simp
theorem C8(N:Nm)(r:Rw):∀a∈bZ N r,a.w≠"rest":=by
 have Ye:∀s,∀a∈vF N s,a.w="read":=λs a h=>by
  cases s
  case i x=>cases x<;>simp[vF,LC]at h<;>(subst h;rfl)
  case j x=>cases x<;>simp[vF,LC]at h<;>(subst h;rfl)
  all_goals cases h
 have hop:∀o,∀a∈nI N o,a.w="read":=λo a h=>by
  cases o with
  | num i=>cases h
  | sp s =>
   rcases dk.mp h with h | h
   ·exact Ye s a h
   ·rw[cj.mp h];rfl
 have Yg:∀s,∀a∈C6 N s,a.w≠"rest":=λs a h=>by
  cases s
  case i x =>
   rcases dk.mp h with h | h
   ·rw[Ye _ a h];decide
   ·rw[cj.mp h];show("turn":Str)≠"rest";decide
  case j x =>
   rcases dk.mp h with h | h
   ·rw[Ye _ a h];decide
   ·rw[cj.mp h];show("turn":Str)≠"rest";decide
  all_goals (rw[cj.mp h];show("fill":Str)≠"rest";decide)
 have Ho:∀o,∀a∈nI N o,a.w≠"rest":=λo a h=>by rw[hop o a h];decide
 intro a h;cases r with
 | put s o =>
  rcases dk.mp h with h | h
  ·exact Ho o a h
  ·exact Yg s a h
 | fill s o =>
  rcases dk.mp h with h | h
  ·exact Ho o a h
  ·exact Yg s a h
 | set s g o p =>
  rcases dk.mp h with h | h
  ·rcases dk.mp h with h | h
   ·exact Ho o a h
   ·exact Ho p a h
  ·exact Yg s a h
 | dH s t =>
  rcases aW.mp h with rfl | h
  ·show("read":Str)≠"rest";decide
  ·rw[cj.mp h];show("fill":Str)≠"rest";decide
 | gp x =>
  rcases aW.mp h with rfl | h
  ·show("empty":Str)≠"rest";decide
  ·rw[cj.mp h];show("fill":Str)≠"rest";decide
 | jj o=>exact Ho o a h
 | ifs o p k =>
  rcases dk.mp h with h | h
  ·exact Ho o a h
  ·exact Ho p a h
 | go k=>cases h
 | cV=>cases h
theorem sQ(N:Nm):∀(rs:List Rw) (k:Nat) (pre:List (List PV)),pre.length=k->(jH k (ku N rs)).foldl vk (pre++List.replicate rs.length [])=pre++xN N k rs
 | [],k,pre,_=>by simp[ku,jH,xN]
 | r::rs,k,pre,hk=>by
  show((GA (bZ N r)).map (λa=>(k,a))++jH (k+1) (ku N rs)).foldl vk (pre++List.replicate (rs.length+1) [])=pre++(bZ N r).map (fD k)::xN N (k+1) rs
  rw[List.foldl_append,fN];have e:((GA (bZ N r)).map (λa=>(k,a))).foldl vk (pre++[]::List.replicate rs.length [])=pre++(bZ N r).map (fD k)::List.replicate rs.length []:=by
   unfold GA;cases h:(bZ N r).isEmpty with
   | true =>
    rw[yx.mp h];rfl
   | false =>
    have:=xt k (bZ N r) pre [] (List.replicate rs.length []) hk (C8 N r);simpa using this
  rw[e];have:=sQ N rs (k+1) (pre++[(bZ N r).map (fD k)]) (by simp[hk])
  simpa using this
noncomputable def Ds(N:Nm)(rs:List Rw):PV:=.lst ((xN N 0 rs).map .lst)
theorem GD:∀(T:List (List Ac)) (k:Nat),∀z∈jH k T,z.1<k+T.length
 | [],_,z,h=>by cases h
 | A::T,k,z,h=>by
  rcases dk.mp h with h | h
  ·obtain⟨a,_,rfl⟩:=dC.mp h;show k<_;simp
  ·have:=GD T (k+1) z h;simp only[cw];lia
theorem By:∀(T:List (List Ac)) (k:Nat),(∀A∈T,A.length<=6)->(jH k T).length<=6*T.length
 | [],_,_=>by simp[jH]
 | A::T,k,h=>by
  have h1:=h A dj;have h2:=By T (k+1) λB hB=>h B (cH _ hB)
  simp only[jH,bA,aQ,cw]
  lia
theorem xu(T:List (List PV))(g:List aj)(hT:∀l∈T,ao l=true):∀(n b:Nat),b+n=T.length->dg (mD (bt T++g) 3) (c7 b n)=some ((T.drop b).map .lst)
 | 0,b,hb=>by rw[show T.drop b=[]from List.drop_eq_nil_of_le (by lia)];rfl
 | n+1,b,hb=>by
  have pO:b<T.length:=by lia
  have h1:(bt T++g)[b]?=some ⟨.lst,T[b]⟩:=by
   rw[fj (by simp[bt];exact pO)]
   simp[bt,pO]
  have e1:mD (bt T++g) 3 (.ref b)=some (.lst T[b]):=by
   show(((bt T++g)[b]?).bind λc=>if live c=true then(dg (mD (bt T++g) 2) c.ps).map (PV.nd c.k)else none)=_
   rw[h1];show(dg (mD (bt T++g) 2) T[b]).map (PV.nd Kd.lst)=_;rw[n8 (hT _ (yu _))];rfl
  show(mD (bt T++g) 3 (.ref b)).bind (λy=>(dg (mD (bt T++g) 3) (c7 (b+1) n)).map λys=>y::ys)=_
  rw[e1,xu T g hT n (b+1) (by lia)]
  rw[xQ pO];rfl
theorem GF(c:Nat){N:Nm}(K:bj N)(F:List Rw)(hl:F.length<=100):∃p h',gM h' p=some (Ds N F)/\run aP (c+14) "acts_by_row" [.aq [fdP N F],.int 0] []=some (.ok p,h'):=by
 have nk:∀z,noRef (qw z)=true:=λz=>by simp[qw,fD,noRef,ao]
 have nl:∀(rs:List Rw) (k:Nat),∀l∈xN N k rs,ao l=true:=λrs=>by
  induction rs with
  | nil=>intro k l h;cases h
  | cons r rs ih =>
   intro k l h;rcases aW.mp h with rfl | h
   ·exact fF (λa=>nk (k,a)) _
   ·exact ih (k+1) l h
 refine⟨.ref F.length,bt (xN N 0 F)++[⟨.lst,c7 0 F.length⟩],?_,?_⟩
 ·have hT:=Bx N F 0;have h1:(bt (xN N 0 F)++[⟨.lst,c7 0 F.length⟩])[F.length]?=some ⟨.lst,c7 0 F.length⟩:=by
   rw[gQ (by simp[bt,hT])]
   simp[bt,hT]
  unfold gM;rw[if_neg (by simp)]
  show(((bt (xN N 0 F)++[⟨.lst,c7 0 F.length⟩])[F.length]?).bind λc=>if live c=true then(dg (mD (bt (xN N 0 F)++[⟨.lst,c7 0 F.length⟩]) 3) c.ps).map (PV.nd c.k)else none)=_
  rw[h1];show(dg (mD (bt (xN N 0 F)++[⟨.lst,c7 0 F.length⟩]) 3) (c7 0 F.length)).map (PV.nd .lst)=_;rw[xu (xN N 0 F) _ (nl F 0) F.length 0 (by lia)]
  rfl
 ·have e1:∀h,br h (.aq [fdP N F]) (.int 0)=some (fdP N F):=λh=>rfl
  have e2:∀h,br h (fdP N F) (.int 4)=some (.aq (F.map (bH N))):=λh=>rfl
  obtain⟨p,h',f1,f2⟩:=Pc c K F hl;have e3:(F.map (bH N)).length<=4000000:=by rw[aQ];lia
  have e4:dU Q2 (F.map (bH N)) []=some (c7 0 F.length,bt (List.replicate F.length [])):=by
   rw[Bw (L:=[]) (ρ:=[])];simp[bt]
  have e5:(bt (List.replicate F.length [])).length=F.length:=by simp[bt]
  have e6:ao [PV.nd .aq [fdP N F],PV.int 0]=true:=by simp[ao,noRef,fF,qr]
  obtain⟨y3,hL⟩:=qx (run aP (c+13)) (x0:=some (.aq [fdP N F])) (x1:=some (.int 0)) (jH 0 (ku N F)) (List.replicate F.length []) [] none F.length (by simp) (λz hz=>by have:=GD _ _ z hz;simpa[ku]using this) (λl h=>by
   rw[ou h];have:=By (ku N F) 0 λA hA=>by
    obtain⟨r,h1,rfl⟩:=dC.mp hA;exact Bv (xp N r)
   simp only[ku,aQ]at this;simp only[jX,ku];lia)
  have hf:=sQ N F 0 [] rfl;rw[fO,fO]at hf;rw[hf]at hL;rw[nH];rw[Gz]
  delta dM iI at hL
  simp only[↓bJ,e1,e2,e3,e4,e5,e6,f1,f2,hL,cm,b6]
end bS
set_option maxHeartbeats 4000000
namespace bS
open PySem L2 L2.U
theorem vm{g:List aj}{c d:aj}:(g++[c]).set g.length d=g++[d]:=by simp
theorem qy{g:List aj}{C f:Str}{ns:List Str}{ps:List PV}{v:PV}{ρ:List (Option PV)}(hc:(fA.contains C&&fB.contains f&&decide (ns.length<900))=true) :
  eW fA fB f (.ref g.length) v ⟨ρ,g++[⟨.ins C ns,ps⟩]⟩=some ⟨ρ,g++[⟨.ins C (ic f v ns ps).1,(ic f v ns ps).2⟩]⟩:=by
 rw[ei dw hc,vm]
theorem GG(k:Nat){g:List aj}{j:Int}{d:Nat}:Gg (run aP k) "Frame" [.ref g.length,.int j,.ref d] (g++[⟨.ins "Frame" [],[]⟩])=some (.ok .aL,g++[zQ j d 0]):=by
 rw[Gh];have e1:∀ρ,eW fA fB "at" (.ref g.length) (.int j) ⟨ρ,g++[⟨.ins "Frame" [],[]⟩]⟩=some ⟨ρ,g++[⟨.ins "Frame" ["at"],[.int j]⟩]⟩:=λρ=>qy (by kernel_rfl)
 have e2:∀ρ,eW fA fB "has" (.ref g.length) (.ref d) ⟨ρ,g++[⟨.ins "Frame" ["at"],[.int j]⟩]⟩=some ⟨ρ,g++[⟨.ins "Frame" ["at","has"],[.int j,.ref d]⟩]⟩:=λρ=>qy (by kernel_rfl)
 have e3:∀ρ,eW fA fB "row" (.ref g.length) (.int 0) ⟨ρ,g++[⟨.ins "Frame" ["at","has"],[.int j,.ref d]⟩]⟩=some ⟨ρ,g++[zQ j d 0]⟩:=λρ=>qy (by kernel_rfl)
 simp only[↓bJ,e1,e2,e3]
structure Vs where
 a:Int
 b:Int
 c:List Int
 d:Int
 n:Int
 s:List Int
def stP(s:List Int):PV:=.aq (s.map .int)
noncomputable def Hn(N:Nm)(n:Nat)(V:Vs):List (Str×Pl):=[(N.a,[(n+1,.int V.a)]),(N.b,[(n+2,.int V.b)]),(N.c,[(n+3,stP V.c)]),(N.d,[(n+4,.int V.d)]),(N.e,[(n+5,.int V.n),(n+6,stP V.s)])]
abbrev mL:aj:=⟨.ins "Places" [],[]⟩
noncomputable abbrev Hz(prog li:PV)(cq:Int):aj:=⟨.ins "Run" ["program","world","numbers","listed","frames","said","count"],[prog,.ref 0,.ref 2,li,.ref 3,.ref 4,.int cq]⟩
structure bI (h:List aj) (N:Nm) (F:List Rw) (fs:List PV) (cq:Int) (bX:List Int):Prop where
 r:h[1]?=some (Hz (.aq [fdP N F]) (.lst [Ds N F]) cq)
 w:h[0]?=some mL
 nu:h[2]?=some ⟨.dt false [mI N.f],[.int 0]⟩
 fl:h[3]?=some ⟨.lst,fs⟩
 sd:h[4]?=some ⟨.lst,bX.map .int⟩
theorem bI.ch{h h':List aj}{A:List Nat}{N:Nm}{F:List Rw}{fs:List PV}{cq:Int}{bX:List Int}(hR:bI h N F fs cq bX)(c:Ch h h' A)(hA:∀m∈A,4<m):bI h' N F fs cq bX :=
 have no:∀m,m<=4->m∉A:=λm h z=>by have:=hA m z;lia
 ⟨c.get hR.r (no 1 (by decide)),c.get hR.w (no 0 (by decide)),c.get hR.nu (no 2 (by decide)),c.get hR.fl (no 3 (by decide)),c.get hR.sd (no 4 (by decide))⟩
theorem bI.app{h:List aj}(g:List aj){N:Nm}{F:List Rw}{fs:List PV}{cq:Int}{bX:List Int}(hR:bI h N F fs cq bX):bI (h++g) N F fs cq bX:=hR.ch (Ch.app h g []) (by simp)
theorem jA{h:List aj}{x:Int}{z:Nat}(z8:z<=8):jG h (.aq [.int x]) (.int (z:Int))=some (stP (List.replicate z x)):=by
 show(if(0<=(z:Int)/\(z:Int)<=1000/\1<=[PV.int x].length/\[PV.int x].length<=100)then some (PV.aq (List.replicate (z:Int).toNat [PV.int x]).flatten)else none)=_
 rw[if_pos ⟨by lia,by lia,by simp,by simp⟩,jR]
 unfold stP
 congr 2
 clear z8;induction z with
 | zero=>rfl
 | succ n ih=>rw[fN,jQ,ih];simp[fN]
def Pd(N:Nm):N5->List PV
 | .c=>[stP (List.replicate N.z 0)]
 | .e=>[.int 0,stP (List.replicate N.y 0)]
 | _=>[.int 0]
theorem Ka(c:Nat){N:Nm}(K:bj N)(x:N5):run aP (c+4) "blank" [nS N x] []=some (.ok (.aq (Pd N x)),[]):=by
 have rz:=λh=>jA (h:=h) (x:=0) K.z8
 have ry:=λh=>jA (h:=h) (x:=0) K.y8
 have l1:∀a:PV,[a].length<=4000000:=λ_=>by simp
 have l2:∀a b:PV,[a,b].length<=4000000:=λ_ _=>by simp
 have ls:∀z:Nat,run aP (c+2) "leaves" [.aq [.str "strip",.int (z:Int)]] []=some (.ok (.aq [.aq [.str "strip",.int (z:Int)]]),[]):=λz=>by
  rw[eN];simp only[↓bJ]
 have ln:run aP (c+2) "leaves" [.aq [.str "num"]] []=some (.ok (.aq [.aq [.str "num"]]),[]):=by
  rw[eN];simp only[↓bJ]
 cases x with
 | c =>
  have lc:run aP (c+3) "leaves" [.aq [.str "strip",.int (N.z:Int)]] []=some (.ok (.aq [.aq [.str "strip",.int (N.z:Int)]]),[]):=by
   rw[eN];simp only[↓bJ]
  rw[mG];simp only[↓bJ,nS,xm,lc,rz,l1];rfl
 | e =>
  have x1:∀ρ a,nB (.ref 0) [.aq [a]] ⟨ρ,[⟨.lst,[]⟩]⟩=some (.ok .aL,⟨ρ,[⟨.lst,[a]⟩]⟩):=λρ a=>rfl
  have x2:∀ρ a b,nB (.ref 0) [.aq [b]] ⟨ρ,[⟨.lst,[a]⟩]⟩=some (.ok .aL,⟨ρ,[⟨.lst,[a,b]⟩]⟩):=λρ a b=>rfl
  have i0:∀h,br h (nS N .e) (.int 0)=some (.str "rec"):=λh=>rfl
  have i1:∀h,br h (nS N .e) (.int 1)=some (.aq [.aq [.str "num"],.aq [.str "strip",.int (N.y:Int)]]):=λh=>rfl
  have le:run aP (c+3) "leaves" [nS N .e] []=some (.ok (.aq [.aq [.str "num"],.aq [.str "strip",.int (N.y:Int)]]),[⟨.lst,[.aq [.str "num"],.aq [.str "strip",.int (N.y:Int)]]⟩]):=by
   have ls:=ls N.y;rw[eN];simp only[↓bJ,ls,ln,i0,i1,x1,x2]
  have fz:gM [⟨.lst,[.aq [.str "num"],.aq [.str "strip",.int (N.y:Int)]]⟩] (.aq [.aq [.str "num"],.aq [.str "strip",.int (N.y:Int)]])=some (.aq [.aq [.str "num"],.aq [.str "strip",.int (N.y:Int)]]):=rfl;rw[mG];simp only[↓bJ,le,fz,ry,l2];rfl
 | _ =>
  rw[mG]
  first
  | have lc:run aP (c+3) "leaves" [.aq [.str "num"]] []=some (.ok (.aq [.aq [.str "num"]]),[]):=by
     rw[eN];simp only[↓bJ]
    simp only[↓bJ,nS,zR,lc,l1];rfl
  | have lc:run aP (c+3) "leaves" [.aq [.str "own"]] []=some (.ok (.aq [.aq [.str "own"]]),[]):=by
     rw[eN];simp only[↓bJ]
    simp only[↓bJ,nS,lc,l1];rfl
theorem jB{h:List aj}{w:Nat}{L:List (Str×(Str×Nat))}{m:Str}(e:h[w]?=some mL):JU L m (.ref w) h=L.lookup ("Places":Str):=by
 unfold JU JT;rw[au e rfl];rfl
theorem GH(c:Nat){h:List aj}{w:Nat}{j:PV}{vs:List PV}(hv:vs.length<=1000):run aP (c+1) "Places.owned" [.ref w,j,.aq vs] h=some (.ok (iG (jM h.length vs)),h++vs.map λv=>fM v .aL):=by
 rw[gO];have e3:vs.length<=4000000:=aJ hv (by decide)
 simp only[↓bJ,e3,xl];rfl
theorem Uj(c:Nat){g:List aj}{w:Nat}{j:Int}{N:Nm}(K:bj N)(x:N5)(e:g[w]?=some mL):run aP (c+6) "Places.let" [.ref w,.int j,nS N x] g=some (.ok (iG (jM g.length (Pd N x))),g++(Pd N x).map λv=>fM v .aL):=by
 rw[qe];have e1:=Ka (c+1) K x;have e2:=n6 (c+3) N x;have e3:=λj=>GH (c+4) (h:=g) (w:=w) (j:=j) (vs:=Pd N x) (by cases x<;>simp[Pd])
 have e4:=λL m=>jB (L:=L) (m:=m) e
 have hE:=hne e;simp only[↓bJ,e1,e2,e3,e4,hE,Br,ao,noRef,cm,b6,oJ]
theorem GI{h L:List aj}{ks:List (bG×List bG)}{ps:List PV}{x:Str}{v:PV}{ρ:List (Option PV)}(hl:ks.length<100)(hd:lg (mI x) ks=false) :
  iE (.ref h.length) (.str x) v ⟨ρ,h++⟨.dt false ks,ps⟩::L⟩=some ⟨ρ,h++⟨.dt false (ks++[mI x]),ps++[v]⟩::L⟩:=by
 have e:(h++⟨.dt false ks,ps⟩::L)[h.length]?=some ⟨.dt false ks,ps⟩:=by simp
 show((i8 (h++⟨.dt false ks,ps⟩::L) (.ref h.length)).bind λc=>match c.2.k with
  | .lst=>(mx (.str x)).bind λi=>(B9 c.2.ps.length i).map λj=>(⟨ρ,(h++⟨.dt false ks,ps⟩::L).set c.1 ⟨.lst,c.2.ps.set j v⟩⟩:bP)
  | .dt t lN=>(eU t (.str x)).bind λk=>if lN.length<gF then some ⟨ρ,(h++⟨.dt false ks,ps⟩::L).set c.1 (ib t k v lN c.2.ps)⟩else none
  | _=>none)=_
 rw[eQ e rfl];show(if ks.length<gF then some (⟨ρ,(h++⟨.dt false ks,ps⟩::L).set h.length (ib false (mI x) v ks ps)⟩:bP)else none)=_
 rw[if_pos (iQ hl (by decide))]
 unfold ib;rw[if_neg (by rw[hd];exact bB)]
 simp
theorem Kb{x:Str}{ys:List Str}(h:∀y∈ys,y≠x):lg (mI x) (ys.map mI)=false:=by
 unfold lg;rw[yo];intro k hk;obtain⟨y,hy,rfl⟩:=dC.mp hk;have:mI y≠mI x:=λz=>h y hy (by unfold mI at z;injection z with z1 _;injection z1)
 simp[this]
theorem Kc(c:Nat){h L:List aj}{w:Nat}{j:PV}{vs:List PV}(hv:vs.length<=1000):run aP (c+1) "Places.owned" [.ref w,j,.lst vs] (h++L)=some (.ok (iG (jM (h.length+L.length) vs)),h++(L++vs.map λv=>fM v .aL)):=by
 rw[J7 c hv,bA,gA]
theorem og(c:Nat){h L:List aj}{w:Nat}{j:Int}{N:Nm}(K:bj N)(x:N5)(e:h[w]?=some mL):run aP (c+6) "Places.let" [.ref w,.int j,nS N x] (h++L)=some (.ok (iG (jM (h.length+L.length) (Pd N x))),h++(L++(Pd N x).map λv=>fM v .aL)):=by
 rw[Uj c K x (dN e),bA,gA]
abbrev lE(es:List (Str×PV)):aj:=⟨.dt false (es.map λe=>mI e.1),es.map (·.2)⟩
theorem GJ{h:List aj}{g:Nat}{es:List (Str×PV)}{x:Str}{v:PV}(e:h[g]?=some (lE es))(hx:gr (mI x) (es.map λe=>mI e.1) (es.map (·.2))=some v):br h (.ref g) (.str x)=some v:=by
 have d:=au e rfl;simp only[br,d];exact hx
theorem Pe{h L:List aj}{n:Nat}{fs:List PV}{v:PV}{ρ:List (Option PV)}(e:h[n]?=some ⟨.lst,fs⟩)(hl:fs.length<=4000):iD (fU kh) (.ref n) [v] ⟨ρ,h++L⟩=some (.ok .aL,⟨ρ,h.set n ⟨.lst,fs++[v]⟩++L⟩):=by
 rw[mK (dN e) hl,List.set_append_left _ _ (vg e)]
theorem lF{h L:List aj}{es:List (Str×PV)}{x:Str}{v:PV}{ρ:List (Option PV)}(hl:es.length<100)(hd:∀e∈es,e.1≠x) :
  iE (.ref h.length) (.str x) v ⟨ρ,h++lE es::L⟩=some ⟨ρ,h++lE (es++[(x,v)])::L⟩:=by
 rw[GI (by simpa using hl) (by
  have:=Kb (x:=x) (ys:=es.map (·.1)) (λy hy=>by obtain⟨e,he,rfl⟩:=dC.mp hy;exact hd e he)
  rw[oN]at this;exact this)]
 simp[lE]
end bS
set_option maxHeartbeats 4000000
namespace bS
open PySem L2 L2.U
noncomputable def lG(N:Nm)(x:Int):Vs:=⟨x,0,List.replicate N.z 0,0,0,List.replicate N.y 0⟩
theorem bj.ne{N:Nm}(K:bj N){x y:N5}(h:x≠y):N.n x≠N.n y:=λe=>h (K.n e)
theorem Ke(c:Nat){h:List aj}{g:Nat}{N:Nm}(K:bj N){F:List Rw}{fs:List PV}{cq:Int}{bX:List Int}{va:Int}{es:List (Str×PV)}
  (hR:bI h N F fs cq bX) (hg:h[g]?=some (lE es)) (ga:gr (mI N.a) (es.map λe=>mI e.1) (es.map (·.2))=some (.lst [.int va])) (hfs:fs.length<=4000) :
  run aP (c+8) "begin" [.ref 1,.int 0,.ref g] h=some (.ok .aL,h.set 3 ⟨.lst,fs++[.ref (h.length+7)]⟩++[qo (Hn N h.length (lG N va)),fM (.int va) .aL,fM (.int 0) .aL,fM (stP (List.replicate N.z 0)) .aL,fM (.int 0) .aL,fM (.int 0) .aL,fM (stP (List.replicate N.y 0)) .aL,zQ 0 h.length 0]):=by
 have e1:=λL=>au (dN (g:=L) hR.r) rfl
 have e2:∀h,br h (.aq [fdP N F]) (.int 0)=some (fdP N F):=λh=>rfl
 have e3:∀h,br h (fdP N F) (.int 1)=some (.aq [rk N .a]):=λh=>rfl
 have e4:∀h,br h (fdP N F) (.int 3)=some (.aq [rk N .b,rk N .c,rk N .d,rk N .e]):=λh=>rfl
 have e5:=jk (c+6) N;have e6:∀L,br (h++L) (.ref g) (.str (N.n .a))=_:=λL=>GJ (dN (g:=L) hg) ga
 have e7:=λL l m=>jB (L:=l) (m:=m) (dN (g:=L) hR.w)
 have hE:∀L,(h++L).isEmpty=false:=λL=>hne (dN hR.w)
 obtain⟨Pa,Yh⟩:∃c,c=fM (.int va) .aL:=⟨_,rfl⟩
 obtain⟨P0,Uk⟩:∃c,c=fM (.int 0) .aL:=⟨_,rfl⟩
 obtain⟨Pz,Yi⟩:∃c,c=fM (stP (List.replicate N.z 0)) .aL:=⟨_,rfl⟩
 obtain⟨Py,Yj⟩:∃c,c=fM (stP (List.replicate N.y 0)) .aL:=⟨_,rfl⟩
 have ne:∀{x y:N5},x≠y->N.n x≠N.n y:=K.ne
 have o1:run aP (c+7) "Places.owned" [.ref 0,.int 0,.lst [.int va]] (h++[⟨.dt false [],[]⟩])=some (.ok (.lst [.ref (h.length+1)]),h++[lE [],Pa]):=by rw[Yh];exact Kc (c+6) (by simp)
 have s1:∀ρ,iE (.ref h.length) (.str (N.n .a)) (.lst [.ref (h.length+1)]) ⟨ρ,h++[lE [],Pa]⟩=some ⟨ρ,h++[lE [(N.a,.lst [.ref (h.length+1)])],Pa]⟩:=λρ=>lF (by simp) (by simp)
 have o2:run aP (c+7) "Places.let" [.ref 0,.int 0,nS N .b] (h++[lE [(N.a,.lst [.ref (h.length+1)])],Pa])=some (.ok (.lst [.ref (h.length+2)]),h++[lE [(N.a,.lst [.ref (h.length+1)])],Pa,P0]):=by rw[Uk];exact og (c+1) K .b hR.w
 have s2:∀ρ,iE (.ref h.length) (.str (N.n .b)) (.lst [.ref (h.length+2)]) ⟨ρ,h++[lE [(N.a,.lst [.ref (h.length+1)])],Pa,P0]⟩=some ⟨ρ,h++[lE [(N.a,.lst [.ref (h.length+1)]),(N.b,.lst [.ref (h.length+2)])],Pa,P0]⟩:=λρ=>lF (by simp) (by simp;exact ne (x:=.a) (y:=.b) (by decide))
 have o3:run aP (c+7) "Places.let" [.ref 0,.int 0,nS N .c] (h++[lE [(N.a,.lst [.ref (h.length+1)]),(N.b,.lst [.ref (h.length+2)])],Pa,P0])=some (.ok (.lst [.ref (h.length+3)]),h++[lE [(N.a,.lst [.ref (h.length+1)]),(N.b,.lst [.ref (h.length+2)])],Pa,P0,Pz]):=by rw[Yi];exact og (c+1) K .c hR.w
 have s3:∀ρ,iE (.ref h.length) (.str (N.n .c)) (.lst [.ref (h.length+3)]) ⟨ρ,h++[lE [(N.a,.lst [.ref (h.length+1)]),(N.b,.lst [.ref (h.length+2)])],Pa,P0,Pz]⟩=some ⟨ρ,h++[lE [(N.a,.lst [.ref (h.length+1)]),(N.b,.lst [.ref (h.length+2)]),(N.c,.lst [.ref (h.length+3)])],Pa,P0,Pz]⟩:=λρ=>lF (by simp) (by simp;exact⟨ne (x:=.a) (y:=.c) (by decide),ne (x:=.b) (y:=.c) (by decide)⟩)
 have o4:run aP (c+7) "Places.let" [.ref 0,.int 0,nS N .d] (h++[lE [(N.a,.lst [.ref (h.length+1)]),(N.b,.lst [.ref (h.length+2)]),(N.c,.lst [.ref (h.length+3)])],Pa,P0,Pz])=some (.ok (.lst [.ref (h.length+4)]),h++[lE [(N.a,.lst [.ref (h.length+1)]),(N.b,.lst [.ref (h.length+2)]),(N.c,.lst [.ref (h.length+3)])],Pa,P0,Pz,P0]):=by rw[Uk];exact og (c+1) K .d hR.w
 have s4:∀ρ,iE (.ref h.length) (.str (N.n .d)) (.lst [.ref (h.length+4)]) ⟨ρ,h++[lE [(N.a,.lst [.ref (h.length+1)]),(N.b,.lst [.ref (h.length+2)]),(N.c,.lst [.ref (h.length+3)])],Pa,P0,Pz,P0]⟩=some ⟨ρ,h++[lE [(N.a,.lst [.ref (h.length+1)]),(N.b,.lst [.ref (h.length+2)]),(N.c,.lst [.ref (h.length+3)]),(N.d,.lst [.ref (h.length+4)])],Pa,P0,Pz,P0]⟩:=λρ=>lF (by simp) (by simp;exact⟨ne (x:=.a) (y:=.d) (by decide),ne (x:=.b) (y:=.d) (by decide),ne (x:=.c) (y:=.d) (by decide)⟩)
 have o5:run aP (c+7) "Places.let" [.ref 0,.int 0,nS N .e] (h++[lE [(N.a,.lst [.ref (h.length+1)]),(N.b,.lst [.ref (h.length+2)]),(N.c,.lst [.ref (h.length+3)]),(N.d,.lst [.ref (h.length+4)])],Pa,P0,Pz,P0])=some (.ok (.lst [.ref (h.length+5),.ref (h.length+6)]),h++[lE [(N.a,.lst [.ref (h.length+1)]),(N.b,.lst [.ref (h.length+2)]),(N.c,.lst [.ref (h.length+3)]),(N.d,.lst [.ref (h.length+4)])],Pa,P0,Pz,P0,P0,Py]):=by rw[Uk,Yj];exact og (c+1) K .e hR.w
 obtain⟨L7,hL⟩:∃L7,L7=[qo (Hn N h.length (lG N va)),Pa,P0,Pz,P0,P0,Py]:=⟨_,rfl⟩
 have s5:∀ρ,iE (.ref h.length) (.str (N.n .e)) (.lst [.ref (h.length+5),.ref (h.length+6)]) ⟨ρ,h++[lE [(N.a,.lst [.ref (h.length+1)]),(N.b,.lst [.ref (h.length+2)]),(N.c,.lst [.ref (h.length+3)]),(N.d,.lst [.ref (h.length+4)])],Pa,P0,Pz,P0,P0,Py]⟩=some ⟨ρ,h++L7⟩:=λρ=>by
  rw[lF (by simp) (by simp;exact⟨ne (x:=.a) (y:=.e) (by decide),ne (x:=.b) (y:=.e) (by decide),ne (x:=.c) (y:=.e) (by decide),ne (x:=.d) (y:=.e) (by decide)⟩),hL]
  rfl
 have Z4:(h++L7).length=h.length+7:=by rw[hL];simp
 have f1:Gg (run aP (c+7)) "Frame" [.ref (h.length+7),.int 0,.ref h.length] ((h++L7)++[⟨.ins "Frame" [],[]⟩])=some (.ok .aL,h++(L7++[zQ 0 h.length 0])):=by rw[<-Z4,GG (c+7) (g:=h++L7),gA]
 have a1:=λρ v=>Pe (L:=L7++[zQ 0 h.length 0]) (ρ:=ρ) (v:=v) hR.fl hfs
 have d1:=λL=>au (dN (g:=L) hR.fl) rfl
 rw[show [qo (Hn N h.length (lG N va)),fM (.int va) .aL,fM (.int 0) .aL,fM (stP (List.replicate N.z 0)) .aL,fM (.int 0) .aL,fM (.int 0) .aL,fM (stP (List.replicate N.y 0)) .aL,zQ 0 h.length 0]=L7++[zQ 0 h.length 0] by rw[hL,Yh,Uk,Yi,Yj];rfl]
 clear Yh Uk Yi Yj hL;rw[CY];simp only[↓bJ,e1,e2,e3,e4,e5,e6,e7,hE,o1,s1,o2,s2,o3,s3,o4,s4,o5,s5,f1,Z4,a1,d1,Br,ao,noRef,cm,b6,oJ]
end bS
set_option maxHeartbeats 2000000
namespace bS
open PySem L2 L2.U
noncomputable def fG(V:Vs):Sp->List Int
 | .i _=>V.c
 | .c=>V.c
 | _=>V.s
def nJ(V:Vs):Sp->PV
 | .a=>.int V.a
 | .b=>.int V.b
 | .d=>.int V.d
 | .n=>.int V.n
 | s=>stP (fG V s)
def HA(V:Vs):Ix->List PV
 | .a=>[.lst [.int V.a]]
 | .b=>[.lst [.int V.b]]
 | _=>[]
def GL(V:Vs):Sp->List PV
 | .i x=>HA V x
 | .j x=>HA V x
 | _=>[]
def xw(V:Vs):Op->List PV
 | .num _=>[]
 | .sp s=>GL V s++[.lst [nJ V s]]
noncomputable def gP(V:Vs)(n:Nat):Ix->Nat
 | .at i=>i
 | .a=>(V.a%(n:Int)).toNat
 | .b=>(V.b%(n:Int)).toNat
def Pf(V:Vs):Sp->Int
 | .a=>V.a
 | .b=>V.b
 | .d=>V.d
 | .n=>V.n
 | .i x=>V.c.getD (gP V V.c.length x) 0
 | .j x=>V.s.getD (gP V V.s.length x) 0
 | _=>0
def opV(V:Vs):Op->Int
 | .num i=>i
 | .sp s=>Pf V s
def GN(V:Vs):Op->Prop
 | .sp (.i (.at i))=>i<V.c.length
 | .sp (.j (.at i))=>i<V.s.length
 | .sp .s=>False
 | .sp .c=>False
 | _=>True
structure Hs (V:Vs):Prop where
 c:1<=V.c.length
 s:1<=V.s.length
theorem oh{h:List aj}{L:List PV}{v:PV}{ρ:List (Option PV)}(hl:L.length<=4000):iD (fU kh) (.ref h.length) [v] ⟨ρ,h++[⟨.lst,L⟩]⟩=some (.ok .aL,⟨ρ,h++[⟨.lst,L++[v]⟩]⟩):=by
 rw[mK dw hl,vm]
theorem jl{L:List Int}{i:Nat}{h:List aj}(hi:i<L.length):br h (stP L) (.int (i:Int))=some (.int (L.getD i 0)):=atI_nat (by rw[cJ,iJ,dy hi];rfl)
theorem lH{L:List Int}{h:List aj}:j8 h [stP L]=some (.int (L.length:Int)):=by
 show some (PV.int ((L.map PV.int).length:Int))=_;rw[aQ]
theorem il{x:Int}{n:Nat}{h:List aj}(hn:1<=n):cu h (.int x) (.int (n:Int))=some (.int (((x%(n:Int)).toNat:Nat):Int)):=by
 show(if decide (0<(n:Int))=true then some (PV.int (x%(n:Int)))else none)=_
 rw[if_pos (dA (by lia)),yi (iO _ (by lia))]
theorem zS{i n:Nat}{h:List aj}(hn:i<n):cu h (.int (i:Int)) (.int (n:Int))=some (.int (i:Int)):=by
 rw[il (by lia)]
 rw[Int.emod_eq_of_lt (by lia) (by lia),jR]
theorem mod_lt{x:Int}{n:Nat}(hn:1<=n):(x%(n:Int)).toNat<n:=by
 have:=oy x (show(0:Int)<n by lia)
 have:=iO x (show(n:Int)≠0 by lia)
 lia
noncomputable def Z5:Op->dE
 | .num _=>.ct
 | _=>.nx
theorem Kf(c:Nat){N:Nm}{V:Vs}{o:Op}{h:List aj}{L:List PV}{r p:PV}{k:Nat}{x4 x5 x6:Option PV}(hs:Hs V)(hL:L.length<=100)(hk:k<=100)(ho:GN V o)
  (hp:∀(i:Nat) v,(xw V o)[i]?=some v->br (h++[⟨.lst,L⟩]) p (.int ((k+i:Nat):Int))=some v) :
  ∃y4 y5 y6,ay (run aP c) ⟨[some r,some p,some (.ref h.length),some (.int (k:Int)),some (gm N o),x5,x6],h++[⟨.lst,L⟩]⟩=some (.ok (Z5 o),⟨[some r,some p,some (.ref h.length),some (.int ((k+(xw V o).length:Nat):Int)),y4,y5,y6],h++[⟨.lst,L++[.int (opV V o)]⟩]⟩):=by
 have a1:=λρ v=>oh (h:=h) (ρ:=ρ) (v:=v) (L:=L) (by lia)
 have d1:cE (h++[⟨.lst,L⟩]) (.ref h.length)=some (.lst,L):=au dw rfl;have ad:∀h (i:Nat),F9 h (.int (i:Int)) (.int 1)=some (.int ((i+1:Nat):Int)):=λh i=>rfl
 cases o with
 | num i =>
  refine⟨some (gm N (.num i)),x5,x6,?_⟩;refine bD ?_
  delta ay iI
  simp only[↓gk,a1,d1,gm];rfl
 | sp s =>
  cases s with
  | s=>exact absurd ho id
  | c=>exact absurd ho id
  | a =>
   have p0:br (h++[⟨.lst,L⟩]) p (.int (k:Int))=some _:=hp 0 _ rfl;refine⟨some (fE N .a),some .aL,some (.int V.a),?_⟩;refine bD ?_
   delta ay iI
   simp only[↓gk,a1,d1,p0,ad,fP];rfl
  | b =>
   have p0:br (h++[⟨.lst,L⟩]) p (.int (k:Int))=some _:=hp 0 _ rfl;refine⟨some (fE N .b),some .aL,some (.int V.b),?_⟩;refine bD ?_
   delta ay iI
   simp only[↓gk,a1,d1,p0,ad,fP];rfl
  | d =>
   have p0:br (h++[⟨.lst,L⟩]) p (.int (k:Int))=some _:=hp 0 _ rfl;refine⟨some (fE N .d),some .aL,some (.int V.d),?_⟩;refine bD ?_
   delta ay iI
   simp only[↓gk,a1,d1,p0,ad,fP];rfl
  | n =>
   have p0:br (h++[⟨.lst,L⟩]) p (.int (k:Int))=some _:=hp 0 _ rfl;refine⟨some (fE N .n),some .aL,some (.int V.n),?_⟩;refine bD ?_
   delta ay iI
   simp only[↓gk,a1,d1,p0,ad,fP];rfl
  | i x =>
   have e3:∀h,j8 h [nJ V (.i x)]=_:=λh=>lH (L:=V.c) (h:=h)
   cases x with
   | «at» i =>
    have p0:br (h++[⟨.lst,L⟩]) p (.int (k:Int))=some _:=hp 0 _ rfl;have e1:∀h,cu h (xo N (.at i)) (.int (V.c.length:Int))=_:=λh=>zS ho
    have e2:∀h,br h (nJ V (.i (.at i))) (.int (i:Int))=_:=λh=>jl (L:=V.c) ho
    refine⟨some (fE N (.i (.at i))),some (.int (i:Int)),some (stP V.c),?_⟩;refine bD ?_
    delta ay iI
    simp only[↓gk,a1,d1,p0,ad,e1,e2,e3,fP];rfl
   | a =>
    have p0:br (h++[⟨.lst,L⟩]) p (.int (k:Int))=some _:=hp 0 _ rfl;have p1:=hp 1 _ rfl;have e1:∀h,cu h (.int V.a) (.int (V.c.length:Int))=_:=λh=>il hs.c
    have e2:∀h,br h (nJ V (.i .a)) (.int ((V.a%(V.c.length:Int)).toNat:Int))=_:=λh=>jl (L:=V.c) (mod_lt hs.c)
    refine⟨some (fE N (.i .a)),some (.int V.a),some (stP V.c),?_⟩;refine bD ?_
    delta ay iI
    simp only[↓gk,a1,d1,p0,p1,ad,e1,e2,e3,fP];rfl
   | b =>
    have p0:br (h++[⟨.lst,L⟩]) p (.int (k:Int))=some _:=hp 0 _ rfl;have p1:=hp 1 _ rfl;have e1:∀h,cu h (.int V.b) (.int (V.c.length:Int))=_:=λh=>il hs.c
    have e2:∀h,br h (nJ V (.i .b)) (.int ((V.b%(V.c.length:Int)).toNat:Int))=_:=λh=>jl (L:=V.c) (mod_lt hs.c)
    refine⟨some (fE N (.i .b)),some (.int V.b),some (stP V.c),?_⟩;refine bD ?_
    delta ay iI
    simp only[↓gk,a1,d1,p0,p1,ad,e1,e2,e3,fP];rfl
  | j x =>
   have e3:∀h,j8 h [nJ V (.j x)]=_:=λh=>lH (L:=V.s) (h:=h)
   cases x with
   | «at» i =>
    have p0:br (h++[⟨.lst,L⟩]) p (.int (k:Int))=some _:=hp 0 _ rfl;have e1:∀h,cu h (xo N (.at i)) (.int (V.s.length:Int))=_:=λh=>zS ho
    have e2:∀h,br h (nJ V (.j (.at i))) (.int (i:Int))=_:=λh=>jl (L:=V.s) ho
    refine⟨some (fE N (.j (.at i))),some (.int (i:Int)),some (stP V.s),?_⟩;refine bD ?_
    delta ay iI
    simp only[↓gk,a1,d1,p0,ad,e1,e2,e3,fP];rfl
   | a =>
    have p0:br (h++[⟨.lst,L⟩]) p (.int (k:Int))=some _:=hp 0 _ rfl;have p1:=hp 1 _ rfl;have e1:∀h,cu h (.int V.a) (.int (V.s.length:Int))=_:=λh=>il hs.s
    have e2:∀h,br h (nJ V (.j .a)) (.int ((V.a%(V.s.length:Int)).toNat:Int))=_:=λh=>jl (L:=V.s) (mod_lt hs.s)
    refine⟨some (fE N (.j .a)),some (.int V.a),some (stP V.s),?_⟩;refine bD ?_
    delta ay iI
    simp only[↓gk,a1,d1,p0,p1,ad,e1,e2,e3,fP];rfl
   | b =>
    have p0:br (h++[⟨.lst,L⟩]) p (.int (k:Int))=some _:=hp 0 _ rfl;have p1:=hp 1 _ rfl;have e1:∀h,cu h (.int V.b) (.int (V.s.length:Int))=_:=λh=>il hs.s
    have e2:∀h,br h (nJ V (.j .b)) (.int ((V.b%(V.s.length:Int)).toNat:Int))=_:=λh=>jl (L:=V.s) (mod_lt hs.s)
    refine⟨some (fE N (.j .b)),some (.int V.b),some (stP V.s),?_⟩;refine bD ?_
    delta ay iI
    simp only[↓gk,a1,d1,p0,p1,ad,e1,e2,e3,fP];rfl
noncomputable def cg:Rw->List Op
 | .put _ o=>[o]
 | .fill _ o=>[o]
 | .set _ _ o p=>[o,p]
 | .jj o=>[o]
 | .ifs o p _=>[o,p]
 | _=>[]
theorem zU(c:Nat){N:Nm}(r:Rw):run aP (c+2) "operands" [bH N r] []=some (.ok (.lst ((cg r).map (gm N))),[]):=by
 cases r<;>kernel_rfl
def ip(V:Vs):List Op->List PV
 | []=>[]
 | o::os=>xw V o++ip V os
theorem Bz(c:Nat){N:Nm}{V:Vs}{h:List aj}{r p:PV}(hs:Hs V)(G:List PV)(hp:∀(i:Nat) v L,G[i]?=some v->br (h++[⟨.lst,L⟩]) p (.int (i:Int))=some v):∀(os:List Op) (L:List PV) (k:Nat) (x4 x5 x6:Option PV),(∀o∈os,GN V o)->L.length+os.length<=100->k+2*os.length<=100->(∃rest,G.drop k=ip V os++rest) ->
  ∃y3 y4 y5 y6,gH (du 4) (ay (run aP c)) (os.map (gm N)) ⟨[some r,some p,some (.ref h.length),some (.int (k:Int)),x4,x5,x6],h++[⟨.lst,L⟩]⟩=some (.ok .nx,⟨[some r,some p,some (.ref h.length),y3,y4,y5,y6],h++[⟨.lst,L++os.map (λo=>.int (opV V o))⟩]⟩)
 | [],L,k,x4,x5,x6,_,_,_,_=>⟨_,x4,x5,x6,by simp;rfl⟩
 | o::os,L,k,x4,x5,x6,ho,hl,hk,⟨rest,hG⟩=>by
  simp only[cw]at hl hk;have fl:(xw V o).length<=2:=by
   cases o with
   | num i=>simp[xw]
   | sp s =>
    cases s
    case i x=>cases x<;>simp[xw,GL,HA]
    case j x=>cases x<;>simp[xw,GL,HA]
    all_goals simp[xw,GL]
  obtain⟨z4,z5,z6,h1⟩:=Kf c (N:=N) (r:=r) (p:=p) (k:=k) (x4:=x4) (x5:=x5) (x6:=x6) (h:=h) (L:=L) hs (by lia) (by lia) (ho o dj) (λi v hi=>hp (k+i) v L (by
   have:(G.drop k)[i]?=some v:=by
    rw[hG];show((xw V o++ip V os)++rest)[i]?=some v;rw[gA,fj (di.mp hi).1];exact hi
   rwa [List.getElem?_drop]at this))
  obtain⟨y3,y4,y5,y6,h2⟩:=Bz c (N:=N) (r:=r) (p:=p) hs G hp os (L++[.int (opV V o)]) (k+(xw V o).length) z4 z5 z6 (λq hq=>ho q (cH _ hq)) (by rw[bA];simp only[cw,jX];lia) (by lia) ⟨rest,by
   rw[<-List.drop_drop,hG];show((xw V o++ip V os)++rest).drop _=_;rw[gA,List.drop_left]⟩
  refine⟨y3,y4,y5,y6,?_⟩;rw[gA]at h2;show bnd (stp (du 4 (gm N o))) (λ_=>bnd (ay (run aP c)) (pP (gH (du 4) (ay (run aP c)) (os.map (gm N))))) _=_
  refine eB (show stp (du 4 (gm N o)) _=some (.ok .nx,⟨[some r,some p,some (.ref h.length),some (.int (k:Int)),some (gm N o),x5,x6],h++[⟨.lst,L⟩]⟩)from rfl) (eB h1 ?_)
  have:pP (gH (du 4) (ay (run aP c)) (os.map (gm N))) (Z5 o)=gH (du 4) (ay (run aP c)) (os.map (gm N)):=by cases o<;>rfl
  rw[this];exact h2
end bS
set_option maxHeartbeats 4000000
namespace bS
open PySem L2 L2.U
def jm(V:Vs)(r:Rw):List PV:=(cg r).map λo=>.int (opV V o)
structure oi (g:List aj) (p:PV) (G:List PV):Prop where
 U8:∀(i:Nat) v L,G[i]?=some v->br (g++L) p (.int (i:Int))=some v
theorem qz(r:Rw):(cg r).length<=2:=by cases r<;>simp[cg]
theorem Ul(c:Nat){N:Nm}{V:Vs}{g:List aj}{p:PV}{G:List PV}{r:Rw}(hs:Hs V)(hp:oi g p G)(ho:∀o∈cg r,GN V o)(hG:∃rest,G=ip V (cg r)++rest) :
  run aP (c+3) "numbers_found" [bH N r,p] g=some (.ok (.ref g.length),g++[⟨.lst,jm V r⟩]):=by
 have l:=qz r;obtain⟨y3,y4,y5,y6,hl⟩:=Bz (c+2) (N:=N) (r:=bH N r) (p:=p) (h:=g) hs G (λi v L=>hp.U8 i v [⟨.lst,L⟩]) (cg r) [] 0 none none none ho (by simp;lia) (by lia) hG
 have e1:=zU c (N:=N) r;have e2:ao [bH N r]=true:=by simp[ao,sN]
 rw[show(((0:Nat):Int))=0 from rfl,fO]at hl
 delta ay iI at hl
 rw[lC];simp only[↓bJ,e1,e2,hl,fO,cm,b6];rfl
noncomputable def qR:Int:=1000000000000000000000000000000
def Ph:Sg->Int->Int->Int
 | .add,x,y=>(x+y)%qR
 | .sub,x,y=>(x-y)%qR
 | .mul,x,y=>x*y%qR
def GO(V:Vs):Rw->Int
 | .put _ o=>opV V o
 | .fill _ o=>opV V o
 | .set _ g o p=>Ph g (opV V o) (opV V p)
 | _=>0
def Bd(x:Int):Prop:=0<=x/\x<qR
theorem GP{h:List aj}:Nr h (.int 10) (.int 30)=some (.int qR):=by kernel_rfl
theorem qA{h:List aj}{x:Int}:cu h (.int x) (.int qR)=some (.int (x%qR)):=by
 show(if decide (0<qR)=true then some (PV.int (x%qR))else none)=_
 rw[if_pos (by decide +kernel)]
theorem GQ{x:Int}(h:Bd x):x.natAbs<Hw:=by
 have h1:=h.1;have h2:=h.2;unfold qR at h2;unfold Hw
 lia
theorem GR{h:List aj}{x y:Int}(hx:Bd x)(hy:Bd y):jG h (.int x) (.int y)=some (.int (x*y)):=if_pos (.inr ⟨GQ hx,GQ hy⟩)
theorem Yk(c:Nat){N:Nm}{V:Vs}{g:List aj}{q:Nat}{G:List PV}{r:Rw}(hs:Hs V)(hp:oi g (.ref q) G)(ho:∀o∈cg r,GN V o)(hb:∀o∈cg r,Bd (opV V o))(hG:∃rest,G=ip V (cg r)++rest)(hE:g.isEmpty=false)(hr:(∃s o,r=.put s o)\/(∃s o,r=.fill s o)\/∃s g o p,r=.set s g o p) :
  run aP (c+4) "number_put" [bH N r,.ref q] g=some (.ok (.int (GO V r)),g++[⟨.lst,jm V r⟩]):=by
 have e1:=Ul c (N:=N) hs hp ho hG;have e2:ao [bH N r,.ref q]=false:=by simp[ao,noRef]
 have e3:=Bu (h:=g++[⟨.lst,jm V r⟩]) N r;have e4:=λh=>GP (h:=h)
 have e5:=λh x=>qA (h:=h) (x:=x)
 have i0:∀v,(jm V r)[0]?=some v->br (g++[⟨.lst,jm V r⟩]) (.ref g.length) (.int 0)=some v:=λv hv=>by
  have d:=au (h:=g++[⟨.lst,jm V r⟩]) dw rfl;simp only[br,d];exact atI_nat (j:=0) hv
 have i1:∀v,(jm V r)[1]?=some v->br (g++[⟨.lst,jm V r⟩]) (.ref g.length) (.int 1)=some v:=λv hv=>by
  have d:=au (h:=g++[⟨.lst,jm V r⟩]) dw rfl;simp only[br,d];exact atI_nat (j:=1) hv
 rw[qh];rcases hr with⟨s,o,rfl⟩ | ⟨s,o,rfl⟩ | ⟨s,w,o,p,rfl⟩
 ·have j0:=i0 _ rfl;simp only[↓bJ,e1,e2,e3,j0,hE,aY,aT];rfl
 ·have j0:=i0 _ rfl;simp only[↓bJ,e1,e2,e3,j0,hE,aY,aT];rfl
 ·have j0:=i0 _ rfl;have j1:=i1 _ rfl;have b0:=hb o (by simp[cg])
  have b1:=hb p (by simp[cg])
  have e6:=λh=>GR (h:=h) b0 b1
  have e7:∀h,br h (bH N (.set s w o p)) (.int 2)=some (.str (Bq w)):=λh=>rfl
  cases w<;>(simp only[↓bJ,e1,e2,e3,e4,e5,e6,e7,Bq,j0,j1,hE,aY,aT];rfl)
end bS
set_option maxHeartbeats 2000000
namespace bS
open PySem L2 L2.U
noncomputable def LD(N:Nm):Sp->Nat
 | .c=>N.z
 | .i _=>N.z
 | _=>N.y
def Qm(N:Nm)(V:Vs)(x:Int):Sp->PV
 | .i i=>stP (V.c.set (gP V V.c.length i) x)
 | .j i=>stP (V.s.set (gP V V.s.length i) x)
 | .c=>stP (List.replicate N.z x)
 | .s=>stP (List.replicate N.y x)
 | _=>.int x
theorem Kg(c:Nat){N:Nm}(K:bj N)(F:List Rw){s:Sp}(h:s=.c\/s=.s):run aP (c+7) "strip_of" [fdP N F,fE N s] []=some (.ok (.aq [.str "strip",.int (LD N s:Int)]),[]):=by
 rw[u7];have e3:=vj (c+5) K F s.x;have e4:=n6 (c+4) N s.x;rcases h with rfl | rfl
 ·have e5:∀h,br h (fE N .c) (.int 0)=some (.str (N.n .c)):=λh=>rfl
  have e3:run aP (c+5+1) "kind_of" [fdP N F,.str (N.n .c)] []=_:=e3;have e4:run aP (c+4+2) "shape_of" [nS N .c] []=_:=e4;simp only[↓bJ,e3,e4,e5];rfl
 ·have e5:∀h,br h (fE N .s) (.int 0)=some (.str (N.n .e)):=λh=>rfl
  have e3:run aP (c+5+1) "kind_of" [fdP N F,.str (N.n .e)] []=_:=e3;have e4:run aP (c+4+2) "shape_of" [nS N .e] []=_:=e4;simp only[↓bJ,e3,e4,e5];rfl
theorem GS(s:List Int)(q:Nat)(hq:q<=s.length):iC (s.map .int) none (some (q:Int))=(s.take q).map .int:=by
 unfold iC;rw[HT.vW,HT.nO,aQ,tP hq,t8];simp
theorem GU(s:List Int)(q:Nat)(hq:q<=s.length):iC (s.map .int) (some (q:Int)) none=(s.drop q).map .int:=by
 unfold iC;rw[HT.vW,HT.nO,aQ,tP hq,ua];rw[xY (by simp)]
theorem vn{h:List aj}{s:List Int}{q:Nat}{x:Int}(hq:q<s.length)(h8:s.length<=8) :
  (fV h (.aq ((s.take q).map .int)) (.aq [.int x]))=some (.aq ((s.take q++[x]).map .int))/\fV h (.aq ((s.take q++[x]).map .int)) (.aq ((s.drop (q+1)).map .int))=some (stP (s.set q x)):=by
 constructor
 ·show L2.U.sizeOk (((s.take q).map PV.int).length+1) (.aq ((s.take q).map PV.int++[.int x]))=_;unfold L2.U.sizeOk;rw[if_pos (aJ (show _<=100 by simp;lia) (by decide))]
  simp
 ·show L2.U.sizeOk (((s.take q++[x]).map PV.int).length+((s.drop (q+1)).map PV.int).length) (.aq ((s.take q++[x]).map PV.int++(s.drop (q+1)).map PV.int))=_;unfold L2.U.sizeOk;rw[if_pos (aJ (show _<=100 by simp;lia) (by decide))]
  unfold stP;rw[<-dZ,List.set_eq_take_append_cons_drop,if_pos hq,gA];rfl
def Pj(V:Vs):Sp->Prop
 | .i (.at i)=>i<V.c.length
 | .j (.at i)=>i<V.s.length
 | .c=>False
 | .s=>False
 | _=>True
structure Vz (N:Nm) (V:Vs):Prop where
 c:V.c.length=N.z
 s:V.s.length=N.y
theorem Vz.h{N:Nm}{V:Vs}(K:bj N)(z:Vz N V):Hs V:=⟨by rw[z.c];exact K.z1,by rw[z.s];exact K.y1⟩
theorem Vz.c8{N:Nm}{V:Vs}(K:bj N)(z:Vz N V):V.c.length<=8:=by rw[z.c];exact K.z8
theorem Vz.s8{N:Nm}{V:Vs}(K:bj N)(z:Vz N V):V.s.length<=8:=by rw[z.s];exact K.y8
theorem LF(c:Nat){N:Nm}{F:List Rw}{g g':List aj}{q:Nat}{r:Rw}{sp:PV}{L:List Int}{V:Vs}{x:Ix}{num:Int}{w:Str}(hw:w="put"\/w="set")(h1:1<=L.length)(h8:L.length<=8)
  (e1:run aP (c+7) "number_put" [bH N r,.ref q] g=some (.ok (.int num),g')) (e3:∀h,br h (bH N r) (.int 0)=some (.str w)) (e5:∀h,br h (bH N r) (.int 1)=some sp) (e6:∀h,br h sp (.int 3)=some (xo N x))
  (hA:∀i,x=.at i->i<L.length) (hl:∀v,HA V x=[v]->br g' (.ref q) (.int (-1))=some v) (hE:g.isEmpty=false) :
  run aP (c+8) "written" [fdP N F,bH N r,.ref q,.lst [stP L]] g=some (.ok (.lst [stP (L.set (gP V L.length x) num)]),g'):=by
 have e2:ao [bH N r,.ref q]=false:=by simp[ao,noRef]
 have e8:∀h,br h (.lst [stP L]) (.int 0)=some (stP L):=λh=>rfl
 have e9:=λh=>lH (L:=L) (h:=h)
 have hI:gP V L.length x<L.length:=by
  cases x with
  | «at» i=>exact hA i rfl
  | a=>exact mod_lt h1
  | b=>exact mod_lt h1
 have c1:∀h,Ck h none (some (gP V L.length x:Int)) (stP L)=some (.aq ((L.take (gP V L.length x)).map .int)):=λh=>by
  show some (PV.aq (iC (L.map .int) none (some (gP V L.length x:Int))))=_;rw[GS _ _ (by lia)]
 have c2:∀h,Ck h (some (((gP V L.length x+1:Nat):Int))) none (stP L)=some (.aq ((L.drop (gP V L.length x+1)).map .int)):=λh=>by
  show some (PV.aq (iC (L.map .int) (some ((gP V L.length x+1:Nat):Int)) none))=_;rw[GU _ _ (by lia)]
 have c3:=λh=>(vn (h:=h) (x:=num) hI h8).1
 have c4:=λh=>(vn (h:=h) (x:=num) hI h8).2
 have ad:∀h,fV h (.int (gP V L.length x:Int)) (.int 1)=some (.int ((gP V L.length x+1:Nat):Int)):=λh=>rfl
 rw[eZ];cases x with
 | «at» i =>
  have m1:∀h,cu h (xo N (.at i)) (.int (L.length:Int))=some (.int ((gP V L.length (.at i):Nat):Int)):=λh=>zS (hA i rfl)
  rcases hw with rfl | rfl<;>(simp only[↓bJ,e1,e2,e3,e5,e6,e8,e9,c1,c2,c3,c4,ad,m1,hE,aY,aT])
 | a =>
  have m1:∀h,cu h (.int V.a) (.int (L.length:Int))=some (.int ((gP V L.length .a:Nat):Int)):=λh=>il h1
  have l1:br g' (.ref q) (.int (-1))=some (.lst [.int V.a]):=hl _ rfl;rcases hw with rfl | rfl<;>(simp only[↓bJ,e1,e2,e3,e5,e6,e8,e9,c1,c2,c3,c4,ad,m1,l1,hE,aY,aT])
 | b =>
  have m1:∀h,cu h (.int V.b) (.int (L.length:Int))=some (.int ((gP V L.length .b:Nat):Int)):=λh=>il h1
  have l1:br g' (.ref q) (.int (-1))=some (.lst [.int V.b]):=hl _ rfl;rcases hw with rfl | rfl<;>(simp only[↓bJ,e1,e2,e3,e5,e6,e8,e9,c1,c2,c3,c4,ad,m1,l1,hE,aY,aT])
theorem vo(c:Nat){N:Nm}{F:List Rw}{g g':List aj}{q:Nat}{r:Rw}{sp u:PV}{num:Int}{w:Str}(hw:w="put"\/w="set")
  (e1:run aP (c+7) "number_put" [bH N r,.ref q] g=some (.ok (.int num),g')) (e3:∀h,br h (bH N r) (.int 0)=some (.str w)) (e5:∀h,br h (bH N r) (.int 1)=some sp) (e6:∀h,br h sp (.int 3)=some .aL) (hE:g.isEmpty=false) :
  run aP (c+8) "written" [fdP N F,bH N r,.ref q,.lst [u]] g=some (.ok (.lst [.int num]),g'):=by
 have e2:ao [bH N r,.ref q]=false:=by simp[ao,noRef]
 rw[eZ];rcases hw with rfl | rfl<;>(simp only[↓bJ,e1,e2,e3,e5,e6,hE,aY,aT])
theorem Kh(c:Nat){N:Nm}(K:bj N){F:List Rw}{g g':List aj}{q:Nat}{s:Sp}{o:Op}{u:PV}{num:Int}(hs:s=.c\/s=.s)
  (e1:run aP (c+7) "number_put" [bH N (.fill s o),.ref q] g=some (.ok (.int num),g')) (hE:g.isEmpty=false) (Um:g'.isEmpty=false) :
  run aP (c+8) "written" [fdP N F,bH N (.fill s o),.ref q,.lst [u]] g=some (.ok (.lst [stP (List.replicate (LD N s) num)]),g'):=by
 have e2:ao [bH N (.fill s o),.ref q]=false:=by simp[ao,noRef]
 have e3:∀h,br h (bH N (.fill s o)) (.int 0)=some (.str "fill"):=λh=>rfl
 have e5:∀h,br h (bH N (.fill s o)) (.int 1)=some (fE N s):=λh=>rfl
 have e6:=Kg c K F hs;have e7:=λh=>jA (h:=h) (x:=num) (z:=LD N s) (by rcases hs with rfl | rfl;exact K.z8;exact K.y8)
 have nr:ao [fdP N F,fE N s]=true:=by simp[ao,qr,Gw]
 rw[eZ];simp only[↓bJ,e1,e2,e3,e5,e6,e7,hE,Um,nr,aY,aT,cm,b6]
theorem Ki(c:Nat){N:Nm}{F:List Rw}{g:List aj}{q:Nat}{s t:Sp}{u v:PV}(h0:br g (.ref q) (.int 0)=some v):run aP (c+8) "written" [fdP N F,bH N (.dH s t),.ref q,u] g=some (.ok v,g):=by
 have e3:∀h,br h (bH N (.dH s t)) (.int 0)=some (.str "copy"):=λh=>rfl
 rw[eZ];simp only[↓bJ,e3,h0]
theorem Kj(c:Nat){N:Nm}{F:List Rw}{g:List aj}{q:Nat}{x:N5}{u v:PV}(h0:br g (.ref q) (.int 0)=some v):run aP (c+8) "written" [fdP N F,bH N (.gp x),.ref q,u] g=some (.ok v,g):=by
 have e3:∀h,br h (bH N (.gp x)) (.int 0)=some (.str "move"):=λh=>rfl
 rw[eZ];simp only[↓bJ,e3,h0]
end bS
set_option maxHeartbeats 4000000
namespace bS
open PySem L2 L2.U
theorem BA(c:Nat)(k:Nat)(a:Ac)(h:a.w="read"\/a.w="fill"\/a.w="turn"\/a.w="empty"):run aP (c+1) "is_lending" [fD k a] []=some (.ok (.bl false),[]):=by
 obtain⟨w,x,t,f,m,tk⟩:=a;have h:w="read"\/w="fill"\/w="turn"\/w="empty":=h;rcases h with rfl | rfl | rfl | rfl<;>kernel_rfl
theorem BB(k:Nat)(a:Ac):noRef (fD k a)=true:=by simp[fD,noRef,ao]
def LG(H:List (Str×Pl))(a:Ac):Prop:=lD H a/\(a.w="read"\/a.w="empty")
theorem Pm(c:Nat){N:Nm}{F:List Rw}{fs:List PV}{cq:Int}{bX:List Int}{h:List aj}{fi d k q:Nat}{j r:Int}{H:List (Str×Pl)}{a:Ac}{row:PV}
  (hR:bI h N F fs cq bX) (hF:mJ h fi d j r H) (ft:lD H a) (ha:a.w="read"\/a.w="empty") :
  run aP (c+3) "do_act" [.ref 1,.ref fi,row,fD k a,.ref q] h=some (.ok (dY (aI H a)),h):=by
 have e1:=BA (c+1) k a (by rcases ha with h | h<;>simp[h])
 have e2:=Bn c (w:=0) (k:=k) hF ft;have e3:=au hR.r rfl;have e4:=λl m=>jB (L:=l) (m:=m) hR.w
 have e5:∀h,Je false h (.str a.w) (.aq [.str "fill",.str "turn"])=some (.bl false):=λh=>by rcases ha with z | z<;>rw[z]<;>rfl
 have hE:=hne hF.f;have nr:ao [fD k a]=true:=by simp[ao,BB]
 rw[qg];simp only[↓bJ,Lz,e1,e2,e3,e4,e5,hE,nr,BB,aY,aT,cm,b6]
theorem mJ.app{h:List aj}(g:List aj){fi d:Nat}{j r:Int}{H:List (Str×Pl)}(F:mJ h fi d j r H):mJ (h++g) fi d j r H :=
 ⟨dN F.f,dN F.d,λe he x hx=>dN (F.p e he x hx),F.l⟩
theorem kx(c:Nat){N:Nm}{F:List Rw}{fs:List PV}{cq:Int}{bX:List Int}{h:List aj}{fi d k:Nat}{j r:Int}{H:List (Str×Pl)}{row so:PV}
  (hR:bI h N F fs cq bX) (hF:mJ h fi d j r H):∀(A:List Ac) (L:List PV) (x5:Option PV),(∀a∈A,LG H a)->L.length+A.length<=1000 ->
  ∃y5,∀rest,gH (du 5) (cO (run aP (c+3))) (A.map (fD k)++rest) ⟨[some (.ref 1),some (.ref fi),some row,some so,some (.ref h.length),x5],h++[⟨.lst,L⟩]⟩=gH (du 5) (cO (run aP (c+3))) rest ⟨[some (.ref 1),some (.ref fi),some row,some so,some (.ref h.length),y5],h++[⟨.lst,L++A.map λa=>dY (aI H a)⟩]⟩
 | [],L,x5,_,_=>⟨x5,λrest=>by simp⟩
 | a::A,L,x5,ha,hl=>by
  simp only[cw]at hl;obtain⟨f1,f2⟩:=ha a dj;have e1:=Pm c (k:=k) (q:=h.length) (row:=row) (hR.app [⟨.lst,L⟩]) (hF.app [⟨.lst,L⟩]) f1 f2;have a1:=λρ v=>oh (h:=h) (ρ:=ρ) (v:=v) (L:=L) (by lia)
  have d1:cE (h++[⟨.lst,L⟩]) (.ref h.length)=some (.lst,L):=au dw rfl;have hE:(h++[(⟨.lst,L⟩:aj)]).isEmpty=false:=hne (dw (h:=h) (c:=⟨.lst,L⟩));have nr:∀l,ao (.ref 1::l)=false:=kr 1
  have b1:cO (run aP (c+3)) ⟨[some (.ref 1),some (.ref fi),some row,some so,some (.ref h.length),some (fD k a)],h++[⟨.lst,L⟩]⟩=some (.ok .nx,⟨[some (.ref 1),some (.ref fi),some row,some so,some (.ref h.length),some (fD k a)],h++[⟨.lst,L++[dY (aI H a)]⟩]⟩):=by
   refine bD ?_
   delta cO iI
   simp only[↓gk,e1,a1,d1,hE,nr,aY,aT]
  obtain⟨y5,ih⟩:=kx c (k:=k) (row:=row) (so:=so) hR hF A (L++[dY (aI H a)]) (some (fD k a)) (λb hb=>ha b (cH _ hb)) (by rw[bA];simp only[cw,jX];lia)
  refine⟨y5,λrest=>?_⟩
  rw[aO,yq];rw[show L++(a::A).map (λa=>dY (aI H a))=L++[dY (aI H a)]++A.map λa=>dY (aI H a) by simp]
  rw[<-ih rest];exact fC (s1:=⟨[some (.ref 1),some (.ref fi),some row,some so,some (.ref h.length),some (fD k a)],_⟩) rfl b1 rfl
theorem Kk(c:Nat){N:Nm}{F:List Rw}{fs:List PV}{cq:Int}{bX:List Int}{h:List aj}{fi d k:Nat}{j r:Int}{H:List (Str×Pl)}{row:PV}
  (hR:bI h N F fs cq bX) (hF:mJ h fi d j r H) (A:List Ac) (ha:∀a∈A,LG H a) (hl:A.length<=100) :
  run aP (c+4) "do_acts" [.ref 1,.ref fi,row,.lst (A.map (fD k))] h=some (.ok (.lst (A.map λa=>dY (aI H a))),h++[CA]):=by
 obtain⟨y5,hL⟩:=kx c (k:=k) (row:=row) (so:=.lst (A.map (fD k))) hR hF A [] none ha (by simp;lia)
 have e1:=hL [];rw[cX,fO]at e1;have e3:=eQ (h:=h++[⟨.lst,A.map λa=>dY (aI H a)⟩]) dw rfl
 have e4:=vm (g:=h) (c:=⟨.lst,A.map λa=>dY (aI H a)⟩) (d:=CA)
 delta cO iI at e1
 rw[mU];simp only[↓bJ,e1,e3,e4]
theorem mJ.ch{h h':List aj}{A:List Nat}{fi d:Nat}{j r:Int}{H:List (Str×Pl)}(F:mJ h fi d j r H)(c:Ch h h' A)(hf:fi∉A)(hd:d∉A)(hp:∀e∈H,∀x∈e.2,x.1∉A):mJ h' fi d j r H :=
 ⟨c.get F.f hf,c.get F.d hd,λe he x hx=>c.get (F.p e he x hx) (hp e he x hx),F.l⟩
theorem xx{α:Type}{xs:List α}{v:α}(h:xs.getLast?=some v):L2.qP xs (-1)=some v:=by
 have hp:0<xs.length:=by cases xs with | nil=>cases h | cons=>simp
 unfold L2.qP L2.B9;rw[if_neg (by lia),if_pos (by lia),iN,show((-1:Int)+xs.length).toNat=xs.length-1 by lia,<-List.getLast?_eq_getElem?]
 exact h
theorem Uo(c:Nat){h:List aj}{fi d k:Nat}{j r:Int}{H:List (Str×Pl)}{a:Ac}{W:List PV}(R:mJ h fi d j r H)(ft:lD H a)(hW:W.length=(aI H a).length) :
  ∃h',run aP (c+2) "Places.store" [.ref 0,.ref fi,fD k a,.lst W] h=some (.ok .aL,h')/\Ch h h' ((aI H a).map (·.1))/\mJ h' fi d j r (stH H (aI H a) W) :=
 ⟨_,J6 c (w:=0) R ft hW,nY _ _ _,R.store (R.pl a) W⟩
end bS
set_option maxHeartbeats 4000000
namespace bS
open PySem L2 L2.U
abbrev rm(h:List aj)(N:Nm)(n r:Nat)(V:Vs):Prop:=mJ h (n+7) n 0 (r:Int) (Hn N n V)
def C9(n:Nat)(V:Vs):N5->Pl
 | .a=>[(n+1,.int V.a)]
 | .b=>[(n+2,.int V.b)]
 | .c=>[(n+3,stP V.c)]
 | .d=>[(n+4,.int V.d)]
 | .e=>[(n+5,.int V.n),(n+6,stP V.s)]
noncomputable def Kl(n:Nat):Sp->Nat
 | .a=>n+1
 | .b=>n+2
 | .c=>n+3
 | .i _=>n+3
 | .d=>n+4
 | .n=>n+5
 | _=>n+6
theorem Up{N:Nm}(K:bj N)(n:Nat)(V:Vs)(x:N5):(Hn N n V).lookup (N.n x)=some (C9 n V x):=by
 have h:∀y:N5,y≠x->(N.n x==N.n y)=false:=λy e=>K.b e.symm
 have ha:=h .a;have hb:=h .b;have hc:=h .c;have hd:=h .d;have q:(N.n x==N.n x)=true:=fu _;cases x
 case a=>simp only[Hn,cW,show(N.n .a==N.a)=true from q];rfl
 case b=>simp only[Hn,cW,show(N.n .b==N.a)=false from ha (by decide),show(N.n .b==N.b)=true from q];rfl
 case c=>simp only[Hn,cW,show(N.n .c==N.a)=false from ha (by decide),show(N.n .c==N.b)=false from hb (by decide),show(N.n .c==N.c)=true from q];rfl
 case d=>simp only[Hn,cW,show(N.n .d==N.a)=false from ha (by decide),show(N.n .d==N.b)=false from hb (by decide),show(N.n .d==N.c)=false from hc (by decide),show(N.n .d==N.d)=true from q];rfl
 case e=>simp only[Hn,cW,show(N.n .e==N.a)=false from ha (by decide),show(N.n .e==N.b)=false from hb (by decide),show(N.n .e==N.c)=false from hc (by decide),show(N.n .e==N.d)=false from hd (by decide),show(N.n .e==N.e)=true from q];rfl
def Yl(V:Vs):N5->List PV
 | .a=>[.int V.a]
 | .b=>[.int V.b]
 | .c=>[stP V.c]
 | .d=>[.int V.d]
 | .e=>[.int V.n,stP V.s]
theorem zV{H:List (Str×Pl)}{a:Ac}{P:Pl}(l:H.lookup a.x=some P):aI H a=(P.drop a.f).take a.m:=by unfold aI;rw[l];rfl
theorem qB{N:Nm}(K:bj N)(n:Nat)(V:Vs)(x:N5)(wd t:Str):aI (Hn N n V) ⟨wd,N.n x,false,0,sO x,t⟩=C9 n V x:=by
 rw[zV (Up K n V x)];cases x<;>rfl
theorem GV(n:Nat)(V:Vs)(x:N5):dY (C9 n V x)=.lst (Yl V x):=by cases x<;>rfl
theorem oj{N:Nm}(K:bj N)(n:Nat)(V:Vs)(s:Sp)(wd t:Str):aI (Hn N n V) ⟨wd,N.n s.x,false,s.f,1,t⟩=[(Kl n s,nJ V s)]:=by
 rw[zV (Up K n V s.x)];cases s<;>rfl
theorem iq{N:Nm}(K:bj N)(n:Nat)(V:Vs)(x:N5)(wd t:Str):lD (Hn N n V) ⟨wd,N.n x,false,0,sO x,t⟩:=⟨_,Up K n V x,by cases x<;>simp[C9,sO]⟩
theorem jC{N:Nm}(K:bj N)(n:Nat)(V:Vs)(s:Sp)(wd t:Str):lD (Hn N n V) ⟨wd,N.n s.x,false,s.f,1,t⟩:=⟨_,Up K n V s.x,by cases s<;>simp[C9,Sp.x,Sp.f]⟩
def qC(N:Nm)(V:Vs)(x:Int):Sp->Vs
 | .a=>{V with a:=x}
 | .b=>{V with b:=x}
 | .d=>{V with d:=x}
 | .n=>{V with n:=x}
 | .c=>{V with c:=List.replicate N.z x}
 | .s=>{V with s:=List.replicate N.y x}
 | .i i=>{V with c:=V.c.set (gP V V.c.length i) x}
 | .j i=>{V with s:=V.s.set (gP V V.s.length i) x}
noncomputable def Du:Sp->Bool
 | .c=>true
 | .s=>true
 | _=>false
noncomputable def BC:Sp->Bool
 | .a=>true
 | .b=>true
 | .d=>true
 | .n=>true
 | _=>false
def Uq(V:Vs)(s t:Sp):Vs:=match s with
 | .a=>{V with a:=Pf V t}
 | .b=>{V with b:=Pf V t}
 | .d=>{V with d:=Pf V t}
 | .n=>{V with n:=Pf V t}
 | .c=>{V with c:=fG V t}
 | .s=>{V with s:=fG V t}
 | _=>V
theorem Pn(N:Nm)(n:Nat)(V:Vs)(s:Sp)(x:Int)(u:PV):stH (Hn N n V) [(Kl n s,u)] [Qm N V x s]=Hn N n (qC N V x s):=by
 cases s<;>simp[stH,Hn,newV,Kl,qC,Qm]<;>lia
theorem Ur(N:Nm)(n:Nat)(V:Vs){s t:Sp}(u:PV)(h:(BC s=true/\BC t=true)\/(Du s=true/\Du t=true)):stH (Hn N n V) [(Kl n s,u)] [nJ V t]=Hn N n (Uq V s t):=by
 have hv:(BC t=true->nJ V t=.int (Pf V t))/\(Du t=true->nJ V t=stP (fG V t)):=by cases t<;>first | exact⟨λ_=>rfl,λ_=>rfl⟩ | exact⟨λ_=>rfl,λz=>absurd z bB⟩ | exact⟨λz=>absurd z bB,λ_=>rfl⟩ | exact⟨λz=>absurd z bB,λz=>absurd z bB⟩
 rcases h with⟨h1,h2⟩ | ⟨h1,h2⟩
 ·rw[hv.1 h2];cases s<;>first | exact absurd h1 bB | (simp[stH,Hn,newV,Kl,Uq]<;>lia)
 ·rw[hv.2 h2];cases s<;>first | exact absurd h1 bB | (simp[stH,Hn,newV,Kl,Uq]<;>lia)
theorem Us(N:Nm)(n:Nat)(V:Vs)(x:N5):stH (Hn N n V) (C9 n V x) ((C9 n V x).map (·.2))=Hn N n V:=by
 cases x<;>simp[stH,Hn,C9,newV]<;>lia
def Qn(N:Nm):Sp->Ac
 | .i x=>vE N "turn" (.i x)
 | .j x=>vE N "turn" (.j x)
 | s=>vE N "fill" s
theorem Po(N:Nm)(s:Sp):∃wd,(wd="fill"\/wd="turn")/\Qn N s=⟨wd,N.n s.x,false,s.f,1,""⟩:=by
 cases s
 case i x=>exact⟨"turn",.inr rfl,rfl⟩
 case j x=>exact⟨"turn",.inr rfl,rfl⟩
 all_goals exact⟨"fill",.inl rfl,rfl⟩
def kz(N:Nm):List Op->List Ac
 | []=>[]
 | o::os=>nI N o++kz N os
noncomputable def xO:Rw->Option Sp
 | .put s _=>some s
 | .fill s _=>some s
 | .set s _ _ _=>some s
 | _=>none
theorem Ut(N:Nm)(s:Sp):C6 N s=vF N s++[Qn N s]:=by cases s<;>rfl
theorem Pp(N:Nm){r:Rw}{s:Sp}(h:xO r=some s):bZ N r=(kz N (cg r)++vF N s)++[Qn N s]:=by
 cases r<;>cases h<;>simp[bZ,kz,cg,Ut]
theorem GW{N:Nm}(K:bj N)(n:Nat)(V:Vs)(s:Sp):(vF N s).map (λa=>dY (aI (Hn N n V) a))=GL V s:=by
 have e:∀x,(LC N x).map (λa=>dY (aI (Hn N n V) a))=HA V x:=λx=>by
  cases x
  case «at» i=>rfl
  case a=>show [dY (aI (Hn N n V) (LB N .a))]=_;rw[show aI (Hn N n V) (LB N .a)=C9 n V .a from qB K n V .a "read" "",GV];rfl
  case b=>show [dY (aI (Hn N n V) (LB N .b))]=_;rw[show aI (Hn N n V) (LB N .b)=C9 n V .b from qB K n V .b "read" "",GV];rfl
 cases s
 case i x=>exact e x
 case j x=>exact e x
 all_goals rfl
theorem Pq{N:Nm}(K:bj N)(n:Nat)(V:Vs)(o:Op):(nI N o).map (λa=>dY (aI (Hn N n V) a))=xw V o:=by
 cases o with
 | num i=>rfl
 | sp s =>
  show(vF N s++[vE N "read" s]).map _=_;rw[dZ,GW K];show _++[dY (aI (Hn N n V) ⟨"read",N.n s.x,false,s.f,1,""⟩)]=_;rw[oj K];rfl
theorem vp{N:Nm}(K:bj N)(n:Nat)(V:Vs):∀os:List Op,(kz N os).map (λa=>dY (aI (Hn N n V) a))=ip V os
 | []=>rfl
 | o::os=>by
  show(nI N o++kz N os).map _=xw V o++ip V os;rw[dZ,Pq K,vp K n V os]
theorem LH{N:Nm}(K:bj N)(n:Nat)(V:Vs)(s:Sp):∀a∈vF N s,LG (Hn N n V) a:=by
 have e:∀x,∀a∈LC N x,LG (Hn N n V) a:=λx a h=>by
  cases x
  case «at» i=>cases h
  case a=>rw[cj.mp h];exact⟨iq K n _ .a "read" "",.inl rfl⟩
  case b=>rw[cj.mp h];exact⟨iq K n _ .b "read" "",.inl rfl⟩
 intro a h;cases s
 case i x=>exact e x a h
 case j x=>exact e x a h
 all_goals cases h
theorem Uu{N:Nm}(K:bj N)(n:Nat)(V:Vs)(s:Sp):LG (Hn N n V) (vE N "read" s):=⟨jC K n _ s "read" "",.inl rfl⟩
theorem Uv{N:Nm}(K:bj N)(n:Nat)(V:Vs)(o:Op):∀a∈nI N o,LG (Hn N n V) a:=by
 intro a h;cases o with
 | num i=>cases h
 | sp s =>
  rcases dk.mp h with h | h
  ·exact LH K n V s a h
  ·rw[cj.mp h];exact Uu K n V s
theorem zW{N:Nm}(K:bj N)(n:Nat)(V:Vs):∀os:List Op,∀a∈kz N os,LG (Hn N n V) a
 | [],a,h=>by cases h
 | o::os,a,h=>by
  rcases dk.mp h with h | h
  ·exact Uv K n V o a h
  ·exact zW K n V os a h
theorem qD(N:Nm):∀os:List Op,(kz N os).length<=2*os.length
 | []=>by simp[kz]
 | o::os=>by
  have:=c6 N o;have:=qD N os;simp only[kz,bA,cw]
  lia
theorem vq{N:Nm}{n:Nat}{V:Vs}:∀e∈Hn N n V,∀x∈e.2,n<x.1/\x.1<n+7:=by
 intro e he;unfold Hn at he;simp at he;rcases he with rfl | rfl | rfl | rfl | rfl<;>simp
theorem rm.lt{h:List aj}{N:Nm}{n r:Nat}{V:Vs}(F:rm h N n r V):n+7<h.length:=vg F.f
theorem rm.ch{h h':List aj}{B:List Nat}{N:Nm}{n r:Nat}{V:Vs}(F:rm h N n r V)(c:Ch h h' B)(hA:∀a∈B,a<n\/n+7<a):rm h' N n r V :=
 mJ.ch F c (λz=>by have:=hA _ z;lia) (λz=>by have:=hA _ z;lia) λe he x hx z=>by
  have:=hA _ z;have:=vq e he x hx
  lia
end bS
set_option maxHeartbeats 4000000
namespace bS
open PySem L2 L2.U
def Uw(V:Vs)(r:Rw)(s:Sp):Prop:=((∃o,r=.put s o)/\Pj V s)\/((∃o,r=.fill s o)/\(s=.c\/s=.s))\/((∃w o p,r=.set s w o p)/\Pj V s)
theorem Dc(c:Nat){N:Nm}(K:bj N)(F:List Rw){V:Vs}{g:List aj}{q:Nat}{r:Rw}{s:Sp}{u:PV}(hu:(∀x,s=.i x->u=stP V.c)/\∀x,s=.j x->u=stP V.s)(hz:Vz N V)(hp:oi g (.ref q) (ip V (cg r)++GL V s))(ho:∀o∈cg r,GN V o)(hb:∀o∈cg r,Bd (opV V o))(hE:g.isEmpty=false)
  (hr:Uw V r s) (hl:∀v,(GL V s).getLast?=some v->∀L,br (g++L) (.ref q) (.int (-1))=some v) :
  run aP (c+8) "written" [fdP N F,bH N r,.ref q,.lst [u]] g=some (.ok (.lst [Qm N V (GO V r) s]),g++[⟨.lst,jm V r⟩]):=by
 have hs:=hz.h K;have e1:=Yk (c+3) (N:=N) hs hp ho hb ⟨_,rfl⟩ hE (by
  rcases hr with⟨⟨o,h⟩,_⟩ | ⟨⟨o,h⟩,_⟩ | ⟨⟨w,o,p,h⟩,_⟩
  ·exact .inl ⟨s,o,h⟩
  ·exact .inr (.inl ⟨s,o,h⟩)
  ·exact .inr (.inr ⟨s,w,o,p,h⟩))
 have Um:(g++[(⟨.lst,jm V r⟩:aj)]).isEmpty=false:=by cases g<;>rfl
 have main:∀w:Str,w="put"\/w="set"->Pj V s->(∀h,br h (bH N r) (.int 0)=some (.str w))->(∀h,br h (bH N r) (.int 1)=some (fE N s))->run aP (c+8) "written" [fdP N F,bH N r,.ref q,.lst [u]] g=some (.ok (.lst [Qm N V (GO V r) s]),g++[⟨.lst,jm V r⟩]):=λw hw hA e3 e5=>by
  cases s with
  | c=>exact absurd hA id
  | s=>exact absurd hA id
  | a=>exact vo c hw e1 e3 e5 (λh=>rfl) hE
  | b=>exact vo c hw e1 e3 e5 (λh=>rfl) hE
  | d=>exact vo c hw e1 e3 e5 (λh=>rfl) hE
  | n=>exact vo c hw e1 e3 e5 (λh=>rfl) hE
  | i x =>
   rw[hu.1 x rfl];exact LF c hw hs.c (hz.c8 K) e1 e3 e5 (λh=>by cases x<;>rfl) (λi e=>by subst e;exact hA) (λv hv=>hl v (by show(HA V x).getLast?=_;rw[hv];rfl) _) hE
  | j x =>
   rw[hu.2 x rfl];exact LF c hw hs.s (hz.s8 K) e1 e3 e5 (λh=>by cases x<;>rfl) (λi e=>by subst e;exact hA) (λv hv=>hl v (by show(HA V x).getLast?=_;rw[hv];rfl) _) hE
 rcases hr with⟨⟨o,rfl⟩,hA⟩ | ⟨⟨o,rfl⟩,h2⟩ | ⟨⟨w,o,p,rfl⟩,hA⟩
 ·exact main "put" (.inl rfl) hA (λh=>rfl) λh=>rfl
 ·rw[Kh c K h2 e1 hE Um];rcases h2 with rfl | rfl<;>rfl
 ·exact main "set" (.inr rfl) hA (λh=>rfl) λh=>rfl
end bS
set_option maxHeartbeats 4000000
namespace bS
open PySem L2 L2.U
theorem Km(c:Nat){N:Nm}{F:List Rw}{fs:List PV}{cq:Int}{bX:List Int}{g X:List aj}{n k q r0:Nat}{V:Vs}{a:Ac}{row:PV}{Wv:List PV}
  (hR:bI g N F fs cq bX) (hB:rm g N n r0 V) (ft:lD (Hn N n V) a) (hw:a.w="fill"\/a.w="turn")
  (Ym:run aP (c+8) "written" [fdP N F,row,.ref q,dY (aI (Hn N n V) a)] g=some (.ok (.lst Wv),g++X)) (Yn:Wv.length=(aI (Hn N n V) a).length) :
  ∃g',run aP (c+9) "do_act" [.ref 1,.ref (n+7),row,fD k a,.ref q] g=some (.ok (dY (aI (Hn N n V) a)),g')/\Ch g g' ((aI (Hn N n V) a).map (·.1))/\mJ g' (n+7) n 0 (r0:Int) (stH (Hn N n V) (aI (Hn N n V) a) Wv):=by
 have e1:=BA (c+7) k a (by rcases hw with h | h<;>simp[h])
 have e2:=Bn (c+6) (w:=0) (k:=k) hB ft;have e3:=au hR.r rfl;have Te:=au (hR.app X).r rfl;have e4:=λl m=>jB (L:=l) (m:=m) hR.w
 have e4':=λl m=>jB (L:=l) (m:=m) (hR.app X).w
 have e5:∀h,Je false h (.str a.w) (.aq [.str "fill",.str "turn"])=some (.bl true):=λh=>by rcases hw with z | z<;>rw[z]<;>rfl
 have e6:=au hB.f rfl;have e7:∀h,br h (.aq [fdP N F]) (.int 0)=some (fdP N F):=λh=>rfl
 have hE:=hne hB.f;have Ux:=hne (hB.app X).f;obtain⟨g2,e9,c9,b9⟩:=Uo (c+6) (k:=k) (W:=Wv) (hB.app X) ft Yn;have nr:ao [fD k a]=true:=by simp[ao,BB]
 have Uy:ao [fdP N F,row,.ref q,dY (aI (Hn N n V) a)]=false:=by simp[ao,noRef]
 refine⟨g2,?_,(Ch.app g X _).tr c9 (λm hm _=>hm),b9⟩
 rw[qg];simp only[↓bJ,Lz,e1,e2,e3,Te,e4,e4',e5,e6,e7,Ym,e9,hE,Ux,nr,Uy,BB,aY,aT,cm,b6]
theorem om{N:Nm}{n:Nat}{V:Vs}{a:Ac}(ft:lD (Hn N n V) a):∀m∈(aI (Hn N n V) a).map (·.1),n<m/\m<n+7:=by
 intro m hm;obtain⟨x,hx,rfl⟩:=dC.mp hm;obtain⟨P,l,_⟩:=ft;rw[zV l]at hx;exact vq _ (vi l) x (yc (yd hx))
theorem mM(c:Nat){N:Nm}{F:List Rw}{fs:List PV}{cq:Int}{bX:List Int}{h X:List aj}{n k r0:Nat}{V:Vs}{r:Rw}{B:List Ac}{a:Ac}{Wv:List PV}
  (hR:bI h N F fs cq bX) (hB:rm h N n r0 V) (hn:5<=n) (Yo:bZ N r=B++[a]) (Al:B.length<=5) (Ho:∀a∈B,LG (Hn N n V) a)
  (ft:lD (Hn N n V) a) (hw:a.w="fill"\/a.w="turn")
  (Ym:∀g1,g1[h.length]?=some ⟨.lst,B.map λa=>dY (aI (Hn N n V) a)⟩->run aP (c+8) "written" [fdP N F,bH N r,.ref h.length,dY (aI (Hn N n V) a)] g1=some (.ok (.lst Wv),g1++X)) (Yn:Wv.length=(aI (Hn N n V) a).length) :
  ∃v h',run aP (c+10) "do_acts" [.ref 1,.ref (n+7),bH N r,.lst ((bZ N r).map (fD k))] h=some (.ok v,h')/\Ch h h' ((aI (Hn N n V) a).map (·.1))/\mJ h' (n+7) n 0 (r0:Int) (stH (Hn N n V) (aI (Hn N n V) a) Wv):=by
 have ln:=rm.lt hB;obtain⟨G,hG⟩:∃G,G=B.map (λa=>dY (aI (Hn N n V) a)):=⟨_,rfl⟩
 have Gl:G.length<=5:=by rw[hG,aQ];exact Al
 obtain⟨y5,hL⟩:=kx (c+6) (k:=k) (row:=bH N r) (so:=.lst ((bZ N r).map (fD k))) hR hB B [] none Ho (by simp;lia)
 have e1:=hL [fD k a];rw[fO,<-hG]at e1;rw[show B.map (fD k)++[fD k a]=(bZ N r).map (fD k) by rw[Yo];simp]at e1
 obtain⟨g1,Uz⟩:∃g1,g1=h++[⟨.lst,G⟩]:=⟨_,rfl⟩
 have c1:Ch h g1 []:=by rw[Uz];exact Ch.app _ _ _
 have q1:g1[h.length]?=some ⟨.lst,G⟩:=by rw[Uz];exact dw
 have R1:bI g1 N F fs cq bX:=by rw[Uz];exact hR.app _
 have B1:rm g1 N n r0 V:=by rw[Uz];exact mJ.app _ hB
 rw[<-Uz]at e1;obtain⟨g2,e2,c2,b2⟩:=Km c (k:=k) (q:=h.length) (row:=bH N r) R1 B1 ft hw (Ym g1 (by rw[<-hG];exact q1)) Yn
 have aa:=om ft;have hnl:h.length∉(aI (Hn N n V) a).map (·.1):=λz=>by have:=aa _ z;lia
 have q2:=c2.get q1 hnl;have d0:=au q1 rfl;have d1:=au q2 rfl;obtain⟨g3,Yp⟩:∃g3,g3=g2.set h.length ⟨.lst,G++[dY (aI (Hn N n V) a)]⟩:=⟨_,rfl⟩
 have q3:g3[h.length]?=some ⟨.lst,G++[dY (aI (Hn N n V) a)]⟩:=by rw[Yp];exact ik q2
 have a1:∀ρ,iD (fU kh) (.ref h.length) [dY (aI (Hn N n V) a)] ⟨ρ,g2⟩=some (.ok .aL,⟨ρ,g3⟩):=λρ=>by rw[Yp];exact mK q2 (by lia)
 have e3:=eQ q3 rfl;have hE:=hne q1;have nr:∀l,ao (.ref 1::l)=false:=kr 1
 have c3:Ch g2 (g3.set h.length CA) [h.length]:=by rw[Yp];exact(Ch.set _).tr (Ch.set _) (λ_ h _=>h)
 refine⟨.lst (G++[dY (aI (Hn N n V) a)]),g3.set h.length CA,?_,?_,?_⟩
 ·have e4:gH (du 5) (cO (run aP (c+9))) [fD k a] ⟨[some (.ref 1),some (.ref (n+7)),some (bH N r),some (.lst ((bZ N r).map (fD k))),some (.ref h.length),y5],g1⟩=some (.ok .nx,⟨[some (.ref 1),some (.ref (n+7)),some (bH N r),some (.lst ((bZ N r).map (fD k))),some (.ref h.length),some (fD k a)],g3⟩):=by
   refine bD ?_
   delta cO iI
   simp only[↓gk,e2,a1,d0,d1,hE,nr,aY,aT]
  have e5:=e1.trans e4
  revert e5
  delta cO iI
  intro e5;rw[mU];simp only[↓bJ,e5,e3]
 ·exact((c1.mono (by simp)).tr c2 (λ_ h _=>h)).tr c3 (λm hm hl=>by rw[cj]at hm;lia)
 ·refine mJ.ch b2 c3 (by simp;lia) (by simp;lia) λe he=>?_
  obtain⟨e0,T8,rfl⟩:=dC.mp he;have:=vq e0 T8;intro x hx;obtain⟨x0,Yc,rfl⟩:=dC.mp hx;have:=this x0 Yc;simp only[cj]
  lia
end bS
set_option maxHeartbeats 4000000
namespace bS
open PySem L2 L2.U
structure Dv (h:List aj) (N:Nm) (F:List Rw) (fs:List PV) (cq:Int) (bX:List Int) (n r0:Nat) (V:Vs) (r:Rw):Prop where
 R:bI h N F (fs++[.ref (n+7)]) cq bX
 B:rm h N n r0 V
 r:F[r0]?=some r
variable {h:List aj} {N:Nm} {F:List Rw} {fs:List PV} {cq:Int} {bX:List Int} {n r0:Nat} {V:Vs} {r:Rw}
theorem xy(c:Nat)(T:Dv h N F fs cq bX n r0 V r):run aP (c+1) "row_of" [.ref 1,.ref (n+7)] h=some (.ok (bH N r),h):=by
 rw[zJ];have e1:=au T.R.r rfl;have e2:=au T.B.f rfl;have e3:∀h,br h (.aq [fdP N F]) (.int 0)=some (fdP N F):=λh=>rfl
 have e4:∀h,br h (fdP N F) (.int 4)=some (.aq (F.map (bH N))):=λh=>rfl
 have e5:∀h,br h (.aq (F.map (bH N))) (.int (r0:Int))=some (bH N r):=λh=>atI_nat (by rw[cJ,T.r];rfl)
 simp only[↓bJ,e1,e2,e3,e4,e5]
theorem sR(c:Nat)(T:Dv h N F fs cq bX n r0 V r):run aP (c+1) "acts_of" [.ref 1,.ref (n+7)] h=some (.ok (.lst ((bZ N r).map (fD r0))),h):=by
 rw[xf];have e1:=au T.R.r rfl;have e2:=au T.B.f rfl;have e3:∀h,br h (.lst [Ds N F]) (.int 0)=some (Ds N F):=λh=>rfl
 have e5:∀h,br h (Ds N F) (.int (r0:Int))=some (.lst ((bZ N r).map (fD r0))):=λh=>atI_nat (by rw[cJ,GB N F 0 r0 r T.r,jZ];rfl)
 simp only[↓bJ,e1,e2,e3,e5]
def xP(V:Vs)(k:Nat):Rw->Nat
 | .go j=>j
 | .ifs o p j=>if opV V o<opV V p then j else k+1
 | _=>k+1
def vt(V:Vs):Rw->List Int
 | .jj o=>[opV V o]
 | _=>[]
theorem BD{ps:List PV}(h:ao ps=true):gM [⟨.lst,ps⟩] (.ref 0)=some (.lst ps):=qu h
theorem Pr(V:Vs)(o:Op):ao (xw V o)=true:=by
 cases o with
 | num i=>rfl
 | sp s =>
  have h1:∀s:List Int,noRef (stP s)=true:=λs=>O2 (fF (λ_=>rfl) s)
  cases s
  case i x=>cases x<;>simp[xw,GL,HA,nJ,ao,noRef,h1]
  case j x=>cases x<;>simp[xw,GL,HA,nJ,ao,noRef,h1]
  all_goals simp[xw,GL,nJ,ao,noRef,h1]
theorem zX{A B:List PV}(h1:ao A=true)(h2:ao B=true):ao (A++B)=true:=by
 induction A with
 | nil=>exact h2
 | cons a A ih =>
  simp only[ao,aF]at h1;rw[yq,ao,h1.1,ih h1.2];rfl
theorem zY(V:Vs):∀os,ao (ip V os)=true
 | []=>rfl
 | o::os=>zX (Pr V o) (zY V os)
theorem LI(c:Nat)(hs:Hs V)(ho:∀o∈cg r,GN V o):run aP (c+3) "numbers_found" [bH N r,.lst (ip V (cg r))] []=some (.ok (.ref 0),[⟨.lst,jm V r⟩]):=by
 have:=Ul c (N:=N) (V:=V) (g:=[]) (p:=.lst (ip V (cg r))) (G:=ip V (cg r)) (r:=r) hs ⟨λi v L hi=>atI_nat hi⟩ ho ⟨[],by simp⟩
 exact this
theorem GX(V:Vs)(r:Rw):ao (jm V r)=true:=fF (λ_=>rfl) _
theorem xA(c:Nat){found:PV}{V0:Vs}(T:Dv h N F fs cq bX n r0 V0 r)(hs:Hs V)(ho:∀o∈cg r,GN V o)(hf:(∃o p k,r=.ifs o p k)->found=.lst (ip V (cg r)))(hg:r≠.cV) :
  run aP (c+4) "row_behind" [.ref (n+7),bH N r,found] h=some (.ok (.int (xP V r0 r:Int)),h):=by
 rw[qf];have e1:=λh=>Bu (h:=h) N r
 have e2:=au T.B.f rfl;have e3:∀h,fV h (.int (r0:Int)) (.int 1)=some (.int ((r0+1:Nat):Int)):=λh=>rfl
 cases r
 case cV=>exact absurd rfl hg
 case go k=>simp only[↓bJ,e1];rfl
 case ifs o p k =>
  have hfo:=hf ⟨o,p,k,rfl⟩;subst hfo;have e4:=LI c (N:=N) hs ho;have nr:ao [bH N (.ifs o p k),.lst (ip V (cg (.ifs o p k)))]=true:=by simp only[ao,sN,qp (zY _ _),oJ]
  have e5:=BD (GX V (.ifs o p k));have i0:∀h,br h (.lst (jm V (.ifs o p k))) (.int 0)=some (.int (opV V o)):=λh=>rfl
  have i1:∀h,br h (.lst (jm V (.ifs o p k))) (.int 1)=some (.int (opV V p)):=λh=>rfl
  have i2:∀h x y,RQ h (.int x) (.int y)=some (.bl (decide (x<y))):=λh x y=>rfl
  by_cases uM:opV V o<opV V p
  ·have hd:=dA uM;simp only[↓bJ,e1,e4,e5,nr,i0,i1,i2,hd,xP,if_pos uM,cm,b6]
  ·have hd:=cL uM;simp only[↓bJ,e1,e2,e3,e4,e5,nr,i0,i1,i2,hd,xP,if_neg uM,cm,b6]
 all_goals (simp only[↓bJ,e1,e2,e3,xP])
theorem BE{h:List aj}{i d:Nat}{j r x:Int}{ρ:List (Option PV)}(e:h[i]?=some (zQ j d r)):eW fA fB "row" (.ref i) (.int x) ⟨ρ,h⟩=some ⟨ρ,h.set i (zQ j d x)⟩:=by
 rw[ei e (by kernel_rfl)]
 rfl
theorem vw{h:List aj}{pr li:PV}{x y:Int}{ρ:List (Option PV)}(e:h[1]?=some (Hz pr li x)):eW fA fB "count" (.ref 1) (.int y) ⟨ρ,h⟩=some ⟨ρ,h.set 1 (Hz pr li y)⟩:=by
 rw[ei e (by kernel_rfl)]
 rfl
theorem rm.row(B:rm h N n r0 V)(k:Nat):rm (h.set (n+7) (zQ 0 n (k:Int))) N n k V :=
 ⟨ik B.f,by rw[bV (by lia)];exact B.d,λe he x hx=>by have:=vq e he x hx;rw[bV (by lia)];exact B.p e he x hx,B.l⟩
theorem bI.mN(hR:bI h N F fs cq bX)(y:Int):bI (h.set 1 (Hz (.aq [fdP N F]) (.lst [Ds N F]) y)) N F fs y bX :=
 ⟨ik hR.r,by rw[bV (by decide)];exact hR.w,by rw[bV (by decide)];exact hR.nu,by rw[bV (by decide)];exact hR.fl,by rw[bV (by decide)];exact hR.sd⟩
theorem BF{h:List aj}{i:Nat}{fs:List PV}{p:PV}(e:h[i]?=some ⟨.lst,fs++[p]⟩):br h (.ref i) (.int (-1))=some p:=by
 have d:=au e rfl;simp only[br,d];exact xx (by simp)
theorem Pt{h:List aj}{n:Nat}{L R:List PV}{ρ:List (Option PV)}(e:h[n]?=some ⟨.lst,L⟩)(hl:L.length+R.length<=1000000):nB (.ref n) [.lst R] ⟨ρ,h⟩=some (.ok .aL,⟨ρ,h.set n ⟨.lst,L++R⟩⟩):=by
 show(iD (fU λps _=>if ps.length+R.length<=gF then some (ps++R)else none) (.ref n) [] ⟨ρ,h⟩)=_
 have e1:(if L.length+R.length<=gF then some (L++R)else none)=some (L++R):=if_pos (aJ hl (by decide))
 show((i8 h (.ref n)).bind λc=>(fU (λps _=>if ps.length+R.length<=gF then some (ps++R)else none) c.2 []).map λr=>_)=_
 rw[eQ e rfl];show(((if L.length+R.length<=gF then some (L++R)else none).map λqs=>((⟨.lst,qs⟩:aj),PV.aL)).map λr=>_)=_
 rw[e1];rfl
def fg(N:Nm)(V:Vs):Rw->Vs
 | .put s o=>qC N V (opV V o) s
 | .fill s o=>qC N V (opV V o) s
 | .set s g o p=>qC N V (Ph g (opV V o) (opV V p)) s
 | .dH s t=>Uq V s t
 | _=>V
structure qE (N:Nm) (V:Vs) (r:Rw):Prop where
 o:∀o∈cg r,GN V o/\Bd (opV V o)
 t:∀s,xO r=some s->Uw V r s
 c:∀s t,r=.dH s t->(BC s=true/\BC t=true)\/(Du s=true/\Du t=true)
 g:r≠.cV
noncomputable def Vv(n:Nat):List Nat:=[n+1,n+2,n+3,n+4,n+5,n+6]
noncomputable def rdR:Rw->Bool
 | .jj _=>true
 | .ifs _ _ _=>true
 | _=>false
def zZ(c:Nat)(h:List aj)(N:Nm)(n r0:Nat)(V' V:Vs)(r:Rw):Prop :=
  ∃v h',run aP (c+10) "do_acts" [.ref 1,.ref (n+7),bH N r,.lst ((bZ N r).map (fD r0))] h=some (.ok v,h')/\Ch h h' (Vv n)/\rm h' N n r0 V'/\(rdR r=true->v=.lst (ip V (cg r)))
theorem z0{n m:Nat}(h:n<m/\m<n+7):m∈Vv n:=by simp only[Vv,aW,cK,cM];omega
theorem GY(N:Nm)(V:Vs){r:Rw}{s:Sp}(h:xO r=some s):fg N V r=qC N V (GO V r) s:=by
 cases r<;>cases h<;>rfl
theorem UA{g:List aj}{q:Nat}{G:List PV}(e:g[q]?=some ⟨.lst,G⟩):oi g (.ref q) G:=⟨λi v L hi=>by
 have d:=au (dN (g:=L) e) rfl;simp only[br,d];exact atI_nat hi⟩
theorem Aa(c:Nat)(K:bj N){V:Vs}(T:Dv h N F fs cq bX n r0 V r)(hn:5<=n)(hz:Vz N V)(ok:qE N V r):zZ c h N n r0 (fg N V r) V r:=by
 have reads:∀(e:bZ N r=kz N (cg r)) (q:fg N V r=V),zZ c h N n r0 (fg N V r) V r:=λe q=>by
  have ol:=qD N (cg r);have ol2:=qz r;have e1:=Kk (c+6) (k:=r0) (row:=bH N r) T.R T.B (kz N (cg r)) (zW K n V _) (by lia)
  rw[vp K]at e1;exact⟨_,_,by rw[e];exact e1,Ch.app _ _ _,by rw[q];exact mJ.app _ T.B,λ_=>rfl⟩
 by_cases ht:∃s,xO r=some s
 ·obtain⟨s,ht⟩:=ht;obtain⟨wd,hwd,ea⟩:=Po N s;have pl:aI (Hn N n V) (Qn N s)=[(Kl n s,nJ V s)]:=by rw[ea];exact oj K n V s wd ""
  have ft:lD (Hn N n V) (Qn N s):=by rw[ea];exact jC K n V s wd ""
  have hv:(kz N (cg r)++vF N s).map (λa=>dY (aI (Hn N n V) a))=ip V (cg r)++GL V s:=by rw[dZ,vp K,GW K]
  obtain⟨v,h',e,c1,b1⟩:=mM c (k:=r0) (V:=V) (X:=[⟨.lst,jm V r⟩]) (B:=kz N (cg r)++vF N s) (a:=Qn N s) (Wv:=[Qm N V (GO V r) s]) T.R T.B hn (Pp N ht) (by
    have:=qD N (cg r);have:=qz r;have:=jy N s;rw[bA];lia) (λa ha=>by
    rcases dk.mp ha with ha | ha
    ·exact zW K n V _ a ha
    ·exact LH K n V s a ha) ft (by rw[ea];rcases hwd with h | h<;>simp[h]) (λg1 hg=>by
    rw[hv]at hg;rw[pl];exact Dc c K F (V:=V) (u:=nJ V s) ⟨λx hx=>by rw[hx];rfl,λx hx=>by rw[hx];rfl⟩ hz (UA hg) (λo ho=>(ok.o o ho).1) (λo ho=>(ok.o o ho).2) (hne hg) (ok.t s ht) (λv hv L=>by
     have d:=au (dN (g:=L) hg) rfl;simp only[br,d];exact xx (by rw[List.getLast?_append,hv];rfl))) (by rw[pl];rfl)
  rw[pl,Pn,<-GY N V ht]at b1;exact⟨v,h',e,c1.mono (λm hm=>z0 (om ft m hm)),b1,λz=>by cases r<;>first | exact absurd z bB | cases ht⟩
 ·cases r with
  | dH s t =>
   have hc:=ok.c s t rfl;have pl:aI (Hn N n V) (vE N "fill" s)=[(Kl n s,nJ V s)]:=oj K n V s "fill" "";have Zz:aI (Hn N n V) (vE N "read" t)=[(Kl n t,nJ V t)]:=oj K n V t "read" "";have ft:lD (Hn N n V) (vE N "fill" s):=jC K n V s "fill" "";obtain⟨v,h',e,c1,b1⟩:=mM c (k:=r0) (V:=V) (X:=[]) (r:=.dH s t) (B:=[vE N "read" t]) (a:=vE N "fill" s) (Wv:=[nJ V t]) T.R T.B hn rfl (by simp) (λa ha=>by
    rw[cj.mp ha];exact⟨jC K n V t "read" "",.inl rfl⟩) ft (.inl rfl) (λg1 hg=>by
    rw[cX];exact Ki c (by
     have d:=au hg rfl;simp only[br,d,aO,dP,Zz];rfl)) (by rw[pl];rfl)
   rw[pl,Ur N n V _ hc]at b1;exact⟨v,h',e,c1.mono (λm hm=>z0 (om ft m hm)),b1,λz=>by cases z⟩
  | gp x =>
   have pl:∀w,aI (Hn N n V) (O3 N w x)=C9 n V x:=λw=>qB K n V x w ""
   have ft:lD (Hn N n V) (O3 N "fill" x):=iq K n V x "fill" "";obtain⟨v,h',e,c1,b1⟩:=mM c (k:=r0) (V:=V) (X:=[]) (r:=.gp x) (B:=[O3 N "empty" x]) (a:=O3 N "fill" x) (Wv:=(C9 n V x).map (·.2)) T.R T.B hn rfl (by simp) (λa ha=>by
    rw[cj.mp ha];exact⟨iq K n V x "empty" "",.inr rfl⟩) ft (.inl rfl) (λg1 hg=>by
    rw[cX];exact Kj c (by
     have d:=au hg rfl;simp only[br,d,aO,dP,pl];rfl)) (by rw[pl,aQ])
   rw[pl,Us]at b1;exact⟨v,h',e,c1.mono (λm hm=>z0 (om ft m hm)),b1,λz=>by cases z⟩
  | jj o=>exact reads (by simp[bZ,kz,cg]) rfl
  | ifs o p k=>exact reads (by simp[bZ,kz,cg]) rfl
  | go k=>exact reads rfl rfl
  | cV=>exact absurd rfl ok.g
  | _=>exact absurd ⟨_,rfl⟩ ht
end bS
set_option maxHeartbeats 4000000
namespace bS
open PySem L2 L2.U
variable {h:List aj} {N:Nm} {F:List Rw} {fs:List PV} {cq:Int} {bX:List Int} {n r0:Nat} {V V':Vs} {r:Rw}
theorem bI.UB(hR:bI h N F fs cq bX)(x:List Int):bI (h.set 4 ⟨.lst,x.map .int⟩) N F fs cq x :=
 ⟨by rw[bV (by decide)];exact hR.r,by rw[bV (by decide)];exact hR.w,by rw[bV (by decide)];exact hR.nu,by rw[bV (by decide)];exact hR.fl,ik hR.sd⟩
theorem vx{h:List aj}{pr li:PV}{x:Int}(e:h[1]?=some (Hz pr li x)):FG "count" (.ref 1) h=some (("Run":Str),PV.int x):=by
 unfold FG;rw[au e rfl];rfl
theorem mO{h:List aj}{pr li:PV}{x:Int}(e:h[1]?=some (Hz pr li x)):p8 h (.ref 1) "Run"=true:=by
 unfold p8;rw[eQ e rfl];rfl
theorem Dd(c:Nat)(K:bj N)(T:Dv h N F fs cq bX n r0 V r)(hn:5<=n)(hz:Vz N V)(ho:∀o∈cg r,GN V o)(hg:r≠.cV)(Yq:zZ c h N n r0 V' V r)(Yr:bX.length<=10000) :
  ∃h',run aP (c+11) "do_row" [.ref 1] h=some (.ok .aL,h')/\bI h' N F (fs++[.ref (n+7)]) (cq+1) (bX++vt V r)/\rm h' N n (xP V r0 r) V':=by
 have hs:=hz.h K;obtain⟨v,h1,e1,c1,b1,v1⟩:=Yq;have R1:bI h1 N F (fs++[.ref (n+7)]) cq bX:=T.R.ch c1 (λm hm=>by simp only[Vv,aW,cK,cM]at hm;omega)
 have T1:Dv h1 N F fs cq bX n r0 V' r:=⟨R1,b1,T.r⟩;have e0:=BF T.R.fl;have e2:=xy (c+9) T;have e3:=sR (c+9) T;have e4:=λh=>Bu (h:=h) N r
 have hd:=au T.R.r rfl;have hE:=hne T.R.r;have nr:∀l,ao (.ref 1::l)=false:=kr 1
 have Z6:∀l,ao (.ref (n+7)::l)=false:=kr (n+7)
 have ad:∀h,F9 h (.int cq) (.int 1)=some (.int (cq+1)):=λh=>rfl
 by_cases xB:∃o,r=.jj o
 ·obtain⟨o,rfl⟩:=xB;have hv1:=v1 rfl;subst hv1;have q1:=LI (c+7) (N:=N) (r:=.jj o) hs ho;have nq:ao [bH N (.jj o),.lst (ip V (cg (.jj o)))]=true:=by simp only[ao,sN,qp (zY _ _),oJ]
  have q2:=BD (GX V (.jj o));have q3:=λρ=>Pt (ρ:=ρ) (R:=[.int (opV V o)]) R1.sd (by rw[aQ];show _+1<=_;lia)
  have Vw:=au R1.r rfl;have hd4:=au R1.sd rfl;have sdE:bX.map PV.int++[.int (opV V o)]=(bX++vt V (.jj o)).map .int:=by rw[dZ];rfl
  rw[sdE]at q3;have R2:=bI.UB R1 (bX++vt V (.jj o));obtain⟨h2,Ys⟩:∃h2,h2=h1.set 4 ⟨.lst,(bX++vt V (.jj o)).map .int⟩:=⟨_,rfl⟩
  rw[<-Ys]at R2;have c2:Ch h1 h2 [4]:=by rw[Ys];exact Ch.set _
  have b2:=rm.ch b1 c2 (by simp <;> lia)
  have T2:Dv h2 N F fs cq (bX++vt V (.jj o)) n r0 V' (.jj o):=⟨R2,b2,T.r⟩;have q4:=xA (c+6) (V:=V) (found:=.lst (ip V (cg (.jj o)))) T2 hs ho (λ⟨_,_,_,z⟩=>by cases z) (λz=>by cases z)
  have q5:=λρ=>BE (ρ:=ρ) (x:=(xP V r0 (.jj o):Int)) b2.f
  have b3:=rm.row b2 (xP V r0 (.jj o));obtain⟨h3,N7⟩:∃h3,h3=h2.set (n+7) (zQ 0 n (xP V r0 (.jj o):Int)):=⟨_,rfl⟩
  have c3:Ch h2 h3 [n+7]:=by rw[N7];exact Ch.set _
  rw[<-N7]at q5 b3;have R3:bI h3 N F (fs++[.ref (n+7)]) cq (bX++vt V (.jj o)):=R2.ch c3 (by simp <;> lia)
  have q6:=λρ=>vw (ρ:=ρ) (y:=cq+1) R3.r
  have q7:=mO R3.r;have q8:=vx R3.r;have Yt:=au R3.r rfl;have R4:=bI.mN R3 (cq+1);have c4:=Ch.set (h:=h3) (n:=1) (Hz (.aq [fdP N F]) (.lst [Ds N F]) (cq+1));have UC:=hne R1.r;have Ux:=hne R2.r;refine⟨_,?_,R4,rm.ch b3 c4 (by simp <;> lia)⟩
  ·rw[ko];rw[<-Ys]at q3;simp only[↓bJ,e0,e1,e2,e3,e4,hd,hE,nr,Z6,ad,q1,nq,q2,q3,q4,q5,q6,q7,q8,Vw,hd4,Yt,UC,Ux,aY,aT,cm,b6]
 ·have w1':∀h,mr h (.str (Hy r)) (.str "call")=some (.bl false):=λh=>by cases r<;>rfl
  have w2:∀h,mr h (.str (Hy r)) (.str "give")=some (.bl false):=λh=>by cases r<;>first | rfl | exact absurd rfl hg
  have w3:∀h,mr h (.str (Hy r)) (.str "say")=some (.bl false):=λh=>by cases r<;>first | rfl | exact absurd ⟨_,rfl⟩ xB
  have sd0:vt V r=[]:=by cases r<;>first | rfl | exact absurd ⟨_,rfl⟩ xB
  rw[sd0,cX];have q4:=xA (c+6) (V:=V) (found:=v) T1 hs ho (by
   rintro⟨o,p,k,z⟩
   subst z;exact v1 rfl) hg
  have q5:=λρ=>BE (ρ:=ρ) (x:=(xP V r0 r:Int)) b1.f
  have b3:=rm.row b1 (xP V r0 r);obtain⟨h3,N7⟩:∃h3,h3=h1.set (n+7) (zQ 0 n (xP V r0 r:Int)):=⟨_,rfl⟩
  have c3:Ch h1 h3 [n+7]:=by rw[N7];exact Ch.set _
  rw[<-N7]at q5 b3;have R3:bI h3 N F (fs++[.ref (n+7)]) cq bX:=R1.ch c3 (by simp <;> lia)
  have q6:=λρ=>vw (ρ:=ρ) (y:=cq+1) R3.r
  have q7:=mO R3.r;have q8:=vx R3.r;have R4:=bI.mN R3 (cq+1);have c4:=Ch.set (h:=h3) (n:=1) (Hz (.aq [fdP N F]) (.lst [Ds N F]) (cq+1));have UC:=hne R1.r;refine⟨_,?_,R4,rm.ch b3 c4 (by simp <;> lia)⟩
  ·rw[ko];simp only[↓bJ,e0,e1,e2,e3,e4,hd,hE,nr,Z6,ad,w1',w2,w3,q4,q5,q6,q7,q8,UC,aY,aT,cm,b6]
end bS
set_option maxHeartbeats 4000000
namespace bS
open PySem L2 L2.U
variable {h:List aj} {N:Nm} {F:List Rw} {fs:List PV} {cq:Int} {bX:List Int} {n r0:Nat} {V:Vs} {r:Rw}
noncomputable def Yu:List N5:=[.a,.b,.c,.d,.e]
theorem Ab(c:Nat)(K:bj N)(T:Dv h N F fs cq bX n r0 V r):run aP (c+2) "owned_by" [.ref 1,.ref (n+7)] h=some (.ok (.lst (Yu.map λx=>iG (C9 n V x))),h):=by
 have e1:=au T.R.r rfl;have e2:=au T.B.f rfl;have e3:∀h,br h (.aq [fdP N F]) (.int 0)=some (fdP N F):=λh=>rfl
 have e5:=jk c N;have hE:=hne T.R.r;have l3:∀a b d e f:PV,[a,b,d,e,f].length<=4000000:=λ_ _ _ _ _=>by simp
 have ixh:=λx=>Gu T.B.d (Up K n V x)
 have i1:∀h,br h (fdP N F) (.int 1)=some (.aq [rk N .a]):=λh=>rfl
 have i3:∀h,br h (fdP N F) (.int 3)=some (.aq [rk N .b,rk N .c,rk N .d,rk N .e]):=λh=>rfl
 rw[u9];simp only[↓bJ,e1,e2,e3,e5,i1,i3,hE,l3,ixh,Br,ao,noRef,cm,b6,oJ];rfl
theorem Kn(c:Nat)(K:bj N)(T:Dv h N F fs cq bX n r0 V .cV):run aP (c+7) "given_back" [.ref 1,.ref (n+7),bH N .cV] h=some (.ok .aL,h):=by
 have e1:=sR (c+5) T;have e4b:=λl m=>jB (L:=l) (m:=m) T.R.w
 have hd:=au T.R.r rfl;have hE:=hne T.R.r;have nr:∀l,ao (.ref 1::l)=false:=kr 1
 have UD:∀l,ao (.ref 0::l)=false:=kr 0
 have e2:=Ab (c+4) K T;have e3:∀p,run aP (c+6) "Places.let_go" [.ref 0,.ref (n+7),p] h=some (.ok .aL,h):=λp=>by
  rw[lA];simp only[↓bJ]
 rw[qi];simp only[↓bJ,e1,e2,e3,e4b,hd,hE,nr,UD,aY,aT]
theorem pop_at{h:List aj}{i:Nat}{fs:List PV}{p:PV}{ρ:List (Option PV)}(e:h[i]?=some ⟨.lst,fs++[p]⟩):iD p9 (.ref i) [] ⟨ρ,h⟩=some (.ok p,⟨ρ,h.set i ⟨.lst,fs⟩⟩):=by
 show((i8 h (.ref i)).bind λc=>(p9 c.2 []).map λr=>_)=_
 rw[eQ e rfl];show((((fs++[p])[(fs++[p]).length-1]?).map λq=>((⟨.lst,(fs++[p]).dropLast⟩:aj),q)).map λr=>_)=_
 rw[show(fs++[p])[(fs++[p]).length-1]?=some p by simp,List.dropLast_concat]
 rfl
theorem vy{h:List aj}{i:Nat}{fs:List PV}(e:h[i]?=some ⟨.lst,fs⟩):nj h (.ref i)=some (!fs.isEmpty):=by
 have d:=au e rfl;simp only[nj,d]
theorem bI.Z7(hR:bI h N F fs cq bX)(gs:List PV):bI (h.set 3 ⟨.lst,gs⟩) N F gs cq bX :=
 ⟨by rw[bV (by decide)];exact hR.r,by rw[bV (by decide)];exact hR.w,by rw[bV (by decide)];exact hR.nu,ik hR.fl,by rw[bV (by decide)];exact hR.sd⟩
theorem xC(c:Nat)(K:bj N)(T:Dv h N F [] cq bX n r0 V .cV) :
  ∃h',run aP (c+11) "do_row" [.ref 1] h=some (.ok .aL,h')/\bI h' N F [] (cq+1) bX:=by
 have e0:=BF T.R.fl;have e2:=xy (c+9) T;have e4:∀h,br h (bH N .cV) (.int 0)=some (.str "give"):=λh=>rfl
 have e1:=Kn (c+2) K T;have hd:=au T.R.r rfl;have Yt:=au T.R.fl rfl;have hE:=hne T.R.r;have nr:∀l,ao (.ref 1::l)=false:=kr 1
 have ad:∀h,F9 h (.int cq) (.int 1)=some (.int (cq+1)):=λh=>rfl
 have p1:=λρ=>pop_at (ρ:=ρ) T.R.fl
 have R1:=bI.Z7 T.R [];obtain⟨h1,hh1⟩:∃h1,h1=h.set 3 ⟨.lst,[]⟩:=⟨_,rfl⟩
 rw[<-hh1]at p1 R1;have Vw:=au R1.r rfl;have hd2:=au R1.fl rfl;have q6:=λρ=>vw (ρ:=ρ) (y:=cq+1) R1.r
 have q7:=mO R1.r;have q8:=vx R1.r;have g1:run aP (c+10) "do_give" [.ref 1,.ref (n+7),bH N .cV] h=some (.ok .aL,h1):=by
  rw[xg];have tr:nj h1 (.ref 3)=some false:=vy R1.fl;simp only[↓bJ,e1,p1,hd,Vw,hd2,Yt,hE,nr,tr,aY,aT]
 refine⟨_,?_,bI.mN R1 (cq+1)⟩;rw[ko];simp only[↓bJ,e0,e2,e4,g1,q6,q7,q8,hd,Vw,hE,nr,ad,aY,aT]
end bS
set_option maxHeartbeats 4000000
namespace bS
open PySem L2 L2.U
structure nK (N:Nm) (V:Vs):Prop where
 z:Vz N V
 a:Bd V.a
 b:Bd V.b
 d:Bd V.d
 n:Bd V.n
 c:∀x∈V.c,Bd x
 s:∀x∈V.s,Bd x
theorem BG{L:List Int}{i:Nat}(h:∀x∈L,Bd x):Bd (L.getD i 0):=by
 rw[iJ];cases e:L[i]? with
 | none=>exact⟨uc _,by decide +kernel⟩
 | some x=>exact h x (tu e)
theorem LJ{N:Nm}{V:Vs}(K:nK N V)(s:Sp):Bd (Pf V s):=by
 cases s with
 | a=>exact K.a
 | b=>exact K.b
 | d=>exact K.d
 | n=>exact K.n
 | i x=>exact BG K.c
 | j x=>exact BG K.s
 | c=>exact⟨uc _,(by decide +kernel:(0:Int)<qR)⟩
 | s=>exact⟨uc _,(by decide +kernel:(0:Int)<qR)⟩
theorem UE(g:Sg)(x y:Int):Bd (Ph g x y):=by
 have m:∀z:Int,Bd (z%qR):=λz=>⟨iO _ (by decide +kernel),oy _ (by decide +kernel)⟩
 cases g<;>exact m _
theorem GZ{L:List Int}{i:Nat}{x:Int}(h:∀y∈L,Bd y)(hx:Bd x):∀y∈L.set i x,Bd y:=λy hy=>by
 rcases List.mem_or_eq_of_mem_set hy with z | z
 ·exact h y z
 ·rw[z];exact hx
theorem ir{N:Nm}{V:Vs}{x:Int}(K:nK N V)(hx:Bd x)(s:Sp):nK N (qC N V x s):=by
 cases s with
 | a=>exact⟨⟨K.z.c,K.z.s⟩,hx,K.b,K.d,K.n,K.c,K.s⟩
 | b=>exact⟨⟨K.z.c,K.z.s⟩,K.a,hx,K.d,K.n,K.c,K.s⟩
 | d=>exact⟨⟨K.z.c,K.z.s⟩,K.a,K.b,hx,K.n,K.c,K.s⟩
 | n=>exact⟨⟨K.z.c,K.z.s⟩,K.a,K.b,K.d,hx,K.c,K.s⟩
 | c=>exact⟨⟨ow,K.z.s⟩,K.a,K.b,K.d,K.n,λy hy=>by rw[ou hy];exact hx,K.s⟩
 | s=>exact⟨⟨K.z.c,ow⟩,K.a,K.b,K.d,K.n,K.c,λy hy=>by rw[ou hy];exact hx⟩
 | i x=>exact⟨⟨(jW).trans K.z.c,K.z.s⟩,K.a,K.b,K.d,K.n,GZ K.c hx,K.s⟩
 | j x=>exact⟨⟨K.z.c,(jW).trans K.z.s⟩,K.a,K.b,K.d,K.n,K.c,GZ K.s hx⟩
def Pu(N:Nm):Rw->Prop
 | .dH s t=>(BC s=true/\BC t=true)\/(Du s=true/\Du t=true/\LD N s=LD N t)
 | _=>True
theorem UG{N:Nm}{V:Vs}(K:nK N V){t:Sp}(h:Du t=true):(fG V t).length=LD N t/\∀x∈fG V t,Bd x:=by
 cases t with
 | c=>exact⟨K.z.c,K.c⟩
 | s=>exact⟨K.z.s,K.s⟩
 | _=>exact absurd h bB
theorem BH{N:Nm}{V:Vs}{r:Rw}(K:nK N V)(ok:qE N V r)(cp:Pu N r):nK N (fg N V r):=by
 cases r with
 | put s o=>exact ir K (ok.o o (by simp[cg])).2 s
 | fill s o=>exact ir K (ok.o o (by simp[cg])).2 s
 | set s g o p=>exact ir K (UE g _ _) s
 | dH s t =>
  rcases cp with⟨h1,h2⟩ | ⟨h1,h2,h3⟩
  ·have hx:=LJ K t;cases s with
   | a=>exact ir K hx .a
   | b=>exact ir K hx .b
   | d=>exact ir K hx .d
   | n=>exact ir K hx .n
   | _=>exact absurd h1 bB
  ·obtain⟨l,hb⟩:=UG K h2;cases s with
   | c=>exact⟨⟨l.trans h3.symm,K.z.s⟩,K.a,K.b,K.d,K.n,hb,K.s⟩
   | s=>exact⟨⟨K.z.c,l.trans h3.symm⟩,K.a,K.b,K.d,K.n,K.c,hb⟩
   | _=>exact absurd h1 bB
 | _=>exact K
structure nE (N:Nm) (F:List Rw):Prop where
 row:∀i r,F[i]?=some r->r≠.cV->(∀V,nK N V->qE N V r)/\Pu N r/\∀V,xP V i r<F.length
structure St (h:List aj) (N:Nm) (F:List Rw) (n cq:Nat) (sd:List Int) (i:Nat) (V:Vs):Prop where
 R:bI h N F [.ref (n+7)] (cq:Int) sd
 B:rm h N n i V
 V:nK N V
theorem Pw(c:Nat){h:List aj}{N:Nm}(K:bj N){F:List Rw}{n cq:Nat}{sd:List Int}{i:Nat}{V:Vs}{r:Rw}(P:nE N F)(S:St h N F n cq sd i V)(hr:F[i]?=some r)(hg:r≠.cV)(hn:5<=n)(hs:sd.length<=10000) :
  ∃h',run aP (c+11) "do_row" [.ref 1] h=some (.ok .aL,h')/\St h' N F n (cq+1) (sd++vt V r) (xP V i r) (fg N V r):=by
 obtain⟨ok,cp,_⟩:=P.row i r hr hg;have Yv:=ok V S.V;have T:Dv h N F [] (cq:Int) sd n i V r:=⟨S.R,S.B,hr⟩;obtain⟨h',e,R',B'⟩:=Dd c K T hn S.V.z (λo ho=>(Yv.o o ho).1) hg (Aa c K T hn S.V.z Yv) hs
 exact⟨h',e,R',B',BH S.V Yv cp⟩
def runN(N:Nm)(F:List Rw):Nat->Nat->Nat->Vs->List Int->Str×List Int×Nat
 | 0,cq,_,_,sd=>("more",sd,cq)
 | k+1,cq,i,V,sd=>match F[i]? with
  | none=>("more",sd,cq)
  | some .cV=>("done",sd,cq+1)
  | some r=>runN N F k (cq+1) (xP V i r) (fg N V r) (sd++vt V r)
theorem qF{N:Nm}{F:List Rw}{k cq i:Nat}{V:Vs}{sd:List Int}{r:Rw}(hr:F[i]?=some r)(hg:r≠.cV):runN N F (k+1) cq i V sd=runN N F k (cq+1) (xP V i r) (fg N V r) (sd++vt V r):=by
 show(match F[i]? with
  | none=>_
  | some .cV=>_
  | some r=>_)=_
 rw[hr];cases r
 case cV=>exact absurd rfl hg
 all_goals rfl
theorem Px{h:List aj}{i:Nat}{fs:List PV}(e:h[i]?=some ⟨.lst,fs⟩):j8 h [.ref i]=some (.int (fs.length:Int)):=by
 have d:=au e rfl;have l:RW h (.ref i)=some fs.length:=by simp only[RW,d]
 show(RW h (.ref i)).map (λn=>PV.int n)=_
 rw[l];rfl
theorem G0(V:Vs)(r:Rw):(vt V r).length<=1:=by cases r<;>simp[vt]
theorem Ko(c:Nat){N:Nm}(K:bj N){F:List Rw}{n:Nat}(P:nE N F)(hn:5<=n){most:Nat}(hm:most<=9000):∀(k cq lI:Nat) (h:List aj) (i:Nat) (V:Vs) (sd:List Int),St h N F n cq sd i V->i<F.length->cq+k=most->sd.length<=cq->k<lI ->
  ∃h' fl w G1 mN q,runN N F k cq i V sd=(w,G1,mN)/\bI h' N F fl (mN:Int) G1/\G1.length<=most/\(q=dE.rt (.str w)\/(q=dE.nx/\w="done")) /\
   j9 (uA Q1) (eO (run aP (c+11))) lI ⟨[some (.ref 1),some (.int (most:Int))],h⟩=some (.ok q,⟨[some (.ref 1),some (.int (most:Int))],h'⟩):=by
 intro k;induction k with
 | zero =>
  intro cq lI h i V sd S hi hc hs hf;obtain⟨lI,rfl⟩:∃m,lI=m+1:=⟨lI-1,by lia⟩
  have hd:=au S.R.r rfl;have tr:nj h (.ref 3)=some true:=vy S.R.fl;have g1:∀h,RR h (.int (cq:Int)) (.int (most:Int))=some (.bl true):=λh=>by
   show some (PV.bl (decide ((cq:Int)>=(most:Int))))=_;rw[dA (by lia)]
  refine⟨h,_,"more",sd,cq,_,rfl,S.R,by lia,.inl rfl,?_⟩
  have Vx:uA Q1 ⟨[some (.ref 1),some (.int (most:Int))],h⟩=some (.ok true,⟨[some (.ref 1),some (.int (most:Int))],h⟩):=by
   refine bD ?_;simp only[↓gk,hd,tr]
  refine eB Vx ?_;rw[if_pos rfl];refine eB (show eO (run aP (c+11)) _=some (.ok (.rt (.str "more")),⟨[some (.ref 1),some (.int (most:Int))],h⟩)from ?_) rfl
  refine bD ?_
  delta eO iI
  simp only[↓gk,hd,g1]
 | succ k ih =>
  intro cq lI h i V sd S hi hc hs hf;obtain⟨lI,rfl⟩:∃m,lI=m+1:=⟨lI-1,by lia⟩
  have hd:=au S.R.r rfl;have tr:nj h (.ref 3)=some true:=vy S.R.fl;have g1:∀h,RR h (.int (cq:Int)) (.int (most:Int))=some (.bl false):=λh=>by
   show some (PV.bl (decide ((cq:Int)>=(most:Int))))=_;rw[cL (by lia)]
  obtain⟨r,hr⟩:∃r,F[i]?=some r:=⟨_,dy hi⟩
  have e3:j8 h [.ref 3]=some (.int 1):=Px S.R.fl;have e5:∀h,mr h (.int 1) (.int 12)=some (.bl false):=λh=>rfl
  have hE:=hne S.R.r;have nr:∀l,ao (.ref 1::l)=false:=kr 1
  have Vx:uA Q1 ⟨[some (.ref 1),some (.int (most:Int))],h⟩=some (.ok true,⟨[some (.ref 1),some (.int (most:Int))],h⟩):=by
   refine bD ?_;simp only[↓gk,hd,tr]
  have Z8:∀h',run aP (c+11) "do_row" [.ref 1] h=some (.ok .aL,h')->eO (run aP (c+11)) ⟨[some (.ref 1),some (.int (most:Int))],h⟩=some (.ok .nx,⟨[some (.ref 1),some (.int (most:Int))],h'⟩):=λh' x1=>by
   refine bD ?_
   delta eO iI
   simp only[↓gk,hd,g1,e3,e5,x1,hE,nr,aY,aT]
  by_cases hg:r=.cV
  ·subst hg;obtain⟨h',x1,R'⟩:=xC c K (⟨S.R,S.B,hr⟩:Dv h N F [] (cq:Int) sd n i V .cV);have Yw:runN N F (k+1) cq i V sd=(("done":Str),sd,cq+1):=by
    show(match F[i]? with
     | none=>_
     | some .cV=>_
     | some r=>_)=_
    rw[hr]
   have Dl:=au R'.r rfl;have tr':nj h' (.ref 3)=some false:=vy R'.fl;have Yx:uA Q1 ⟨[some (.ref 1),some (.int (most:Int))],h'⟩=some (.ok false,⟨[some (.ref 1),some (.int (most:Int))],h'⟩):=by
    refine bD ?_;simp only[↓gk,Dl,tr']
   obtain⟨lI,rfl⟩:∃m,lI=m+1:=⟨lI-1,by lia⟩
   refine⟨h',_,"done",sd,cq+1,.nx,Yw,R',by lia,.inr ⟨rfl,rfl⟩,?_⟩
   refine eB Vx ?_;rw[if_pos rfl];refine eB (Z8 h' x1) ?_;exact eB Yx rfl
  ·obtain⟨h',x1,S'⟩:=Pw c K P S hr hg hn (by lia)
   have hsl:=G0 V r;obtain⟨h2,fl,w,G1,mN,q,y1,y2,y3,y4,y5⟩:=ih (cq+1) lI h' _ _ _ S' ((P.row i r hr hg).2.2 V) (by lia) (by rw[bA];lia) (by lia)
   refine⟨h2,fl,w,G1,mN,q,by rw[qF hr hg];exact y1,y2,y3,y4,?_⟩
   refine eB Vx ?_;rw[if_pos rfl];exact eB (Z8 h' x1) y5
theorem G3(c:Nat){N:Nm}(K:bj N){F:List Rw}{n:Nat}(P:nE N F)(hn:5<=n){most:Nat}(hm:most<=9000){h:List aj}{V:Vs}(S:St h N F n 0 [] 0 V)(h0:0<F.length) :
  ∃h' fl w G1 mN,runN N F most 0 0 V []=(w,G1,mN)/\bI h' N F fl (mN:Int) G1/\G1.length<=most/\run aP (c+12) "run_on" [.ref 1,.int (most:Int)] h=some (.ok (.str w),h'):=by
 obtain⟨h',fl,w,G1,mN,q,y1,y2,y3,y4,y5⟩:=Ko c K P hn hm most 0 8000000 h 0 V [] S h0 (by lia) (by simp) (by lia)
 refine⟨h',fl,w,G1,mN,y1,y2,y3,?_⟩;rw[zK]
 delta eO iI at y5
 rcases y4 with rfl | ⟨rfl,rfl⟩
 ·refine Gp (st':=⟨[some (.ref 1),some (.int (most:Int))],h'⟩) ?_;exact eB y5 rfl
 ·refine Gp (st':=⟨[some (.ref 1),some (.int (most:Int))],h'⟩) ?_;exact eB y5 rfl
end bS
set_option maxHeartbeats 4000000
namespace bS
open PySem L2 L2.U
theorem UH:Bd 0:=⟨uc _,by decide +kernel⟩
theorem G4(N:Nm){x:Int}(hx:Bd x):nK N (lG N x):=⟨⟨ow,ow⟩,hx,UH,UH,UH,λy hy=>by rw[ou hy];exact UH,λy hy=>by rw[ou hy];exact UH⟩
theorem UI{a:Str}{v:PV}:Fo [.aq [.str a,v]]=some (lE [(a,v)]):=rfl
theorem qG{f:Str}{ns:List Str}{ps:List PV}{v:PV}{ρ:List (Option PV)}{L:List aj}(hc:(fA.contains "Run"&&fB.contains f&&decide (ns.length<900))=true):eW fA fB f (.ref 1) v ⟨ρ,mL::⟨.ins "Run" ns,ps⟩::L⟩=some ⟨ρ,mL::⟨.ins "Run" (ic f v ns ps).1,(ic f v ns ps).2⟩::L⟩:=ei (h:=mL::⟨.ins "Run" ns,ps⟩::L) rfl hc
theorem PC(c:Nat){N:Nm}(K:bj N)(F:List Rw)(hl:F.length<=100):Gg (run aP (c+14)) "Run" [.ref 1,.aq [fdP N F],.ref 0] [mL,⟨.ins "Run" [],[]⟩]=some (.ok .aL,[mL,Hz (.aq [fdP N F]) (.lst [Ds N F]) 0,⟨.dt false [mI N.f],[.int 0]⟩,⟨.lst,[]⟩,⟨.lst,[]⟩]):=by
 obtain⟨p0,h0,a0,b0⟩:=GF c K F hl;have dd:=λv=>UI (a:=N.f) (v:=v)
 have en:jL 0 [fdP N F]=[.aq [.int 0,fdP N F]]:=rfl;have l3:∀a:PV,[a].length<=4000000:=λ_=>by simp
 have i0:∀h,br h (fdP N F) (.int 0)=some (.str N.f):=λh=>rfl
 have nr:∀(i:Int),ao [PV.aq [fdP N F],PV.int i]=true:=λi=>by simp[ao,noRef,qr]
 have t1:∀ρ v L,eW fA fB "program" (.ref 1) v ⟨ρ,mL::⟨.ins "Run" [],[]⟩::L⟩=some ⟨ρ,mL::⟨.ins "Run" ["program"],[v]⟩::L⟩:=λρ v L=>qG (by kernel_rfl)
 have t2:∀ρ v L a,eW fA fB "world" (.ref 1) v ⟨ρ,mL::⟨.ins "Run" ["program"],[a]⟩::L⟩=some ⟨ρ,mL::⟨.ins "Run" ["program","world"],[a,v]⟩::L⟩:=λρ v L a=>qG (by kernel_rfl)
 have t3:∀ρ v L a b,eW fA fB "numbers" (.ref 1) v ⟨ρ,mL::⟨.ins "Run" ["program","world"],[a,b]⟩::L⟩=some ⟨ρ,mL::⟨.ins "Run" ["program","world","numbers"],[a,b,v]⟩::L⟩:=λρ v L a b=>qG (by kernel_rfl)
 have t4:∀ρ v L a b d,eW fA fB "listed" (.ref 1) v ⟨ρ,mL::⟨.ins "Run" ["program","world","numbers"],[a,b,d]⟩::L⟩=some ⟨ρ,mL::⟨.ins "Run" ["program","world","numbers","listed"],[a,b,d,v]⟩::L⟩:=λρ v L a b d=>qG (by kernel_rfl)
 have t5:∀ρ v L a b d e,eW fA fB "frames" (.ref 1) v ⟨ρ,mL::⟨.ins "Run" ["program","world","numbers","listed"],[a,b,d,e]⟩::L⟩=some ⟨ρ,mL::⟨.ins "Run" ["program","world","numbers","listed","frames"],[a,b,d,e,v]⟩::L⟩:=λρ v L a b d e=>qG (by kernel_rfl)
 have t6:∀ρ v L a b d e g,eW fA fB "said" (.ref 1) v ⟨ρ,mL::⟨.ins "Run" ["program","world","numbers","listed","frames"],[a,b,d,e,g]⟩::L⟩=some ⟨ρ,mL::⟨.ins "Run" ["program","world","numbers","listed","frames","said"],[a,b,d,e,g,v]⟩::L⟩:=λρ v L a b d e g=>qG (by kernel_rfl)
 have t7:∀ρ v L a b d e g i,eW fA fB "count" (.ref 1) v ⟨ρ,mL::⟨.ins "Run" ["program","world","numbers","listed","frames","said"],[a,b,d,e,g,i]⟩::L⟩=some ⟨ρ,mL::⟨.ins "Run" ["program","world","numbers","listed","frames","said","count"],[a,b,d,e,g,i,v]⟩::L⟩:=λρ v L a b d e g i=>qG (by kernel_rfl)
 have rg:wA [.int 1]=some [.int 0]:=by rfl
 generalize fdP N F=P at *
 have ln:∀h,j8 h [.aq [P]]=some (.int 1):=λh=>rfl
 rw[OZ];simp only[↓bJ,t1,t2,t3,t4,t5,t6,t7,ln,rg,en,dd,l3,i0,nr,a0,b0,cm,b6];rfl
theorem Kp(c:Nat){N:Nm}(K:bj N){F:List Rw}(hl:F.length<=100){x:Int}(hx:Bd x) :
  ∃h',run aP (c+15) "run_from_first" [.aq [fdP N F],.ref 0,.lst [.int x]] [mL]=some (.ok (.ref 1),h')/\St h' N F 6 0 [] 0 (lG N x):=by
 obtain⟨g,hg⟩:∃g:List aj,g=[mL,Hz (.aq [fdP N F]) (.lst [Ds N F]) 0,⟨.dt false [mI N.f],[.int 0]⟩,⟨.lst,[]⟩,⟨.lst,[]⟩]:=⟨_,rfl⟩
 have gl:g.length=5:=by rw[hg];rfl
 have R0:bI g N F [] 0 []:=by rw[hg];exact⟨rfl,rfl,rfl,rfl,rfl⟩
 have e1:Gg (run aP (c+14)) "Run" [.ref [mL].length,.aq [fdP N F],.ref 0] ([mL]++[⟨.ins "Run" [],[]⟩])=some (.ok .aL,g):=by rw[hg];exact PC c K F hl
 have e2:∀h,br h (.aq [fdP N F]) (.int 0)=some (fdP N F):=λh=>rfl
 have e3:∀h,br h (fdP N F) (.int 1)=some (.aq [rk N .a]):=λh=>rfl
 have z1:Ou (.aq [rk N .a]) (.lst [.int x])=some [.aq [rk N .a,.int x]]:=rfl;have l1:∀a:PV,[a].length<=4000000:=λ_=>by simp
 have R1:bI (g++[lE [(N.n .a,.lst [.int x])]]) N F [] 0 []:=R0.app _;have bg:=Ke (c+6) K R1 (g:=5) (va:=x) (es:=[(N.n .a,.lst [.int x])]) (by rw[gQ (by lia),gl];rfl) (by show(if mI N.a=mI N.a then _ else _)=_;rw[if_pos rfl]) (by simp)
 have Z9:(g++[lE [(N.n .a,.lst [.int x])]]).length=6:=by rw[bA,gl];rfl
 rw[Z9]at bg;obtain⟨q,hq⟩:∃q:List aj,q=(g++[lE [(N.n .a,.lst [.int x])]]).set 3 ⟨.lst,[]++[.ref (6+7)]⟩:=⟨_,rfl⟩
 have ql:q.length=6:=by rw[hq,jW,Z9]
 have R2:bI q N F ([]++[.ref (6+7)]) 0 []:=by rw[hq];exact bI.Z7 R1 _
 rw[<-hq]at bg;have hE:(g++[lE [(N.n .a,.lst [.int x])]]).isEmpty=false:=hne R1.r;have nr:∀l,ao (.ref 1::l)=false:=kr 1
 obtain⟨X,hX⟩:∃X,X=[qo (Hn N 6 (lG N x)),fM (.int x) .aL,fM (.int 0) .aL,fM (stP (List.replicate N.z 0)) .aL,fM (.int 0) .aL,fM (.int 0) .aL,fM (stP (List.replicate N.y 0)) .aL,zQ 0 6 0]:=⟨_,rfl⟩
 rw[<-hX]at bg;have bg:run aP (c+14) "begin" [.ref 1,.int 0,.ref 5] (g++[lE [(N.n .a,.lst [.int x])]])=some (.ok .aL,q++X):=bg;have at_:∀j c,X[j]?=some c->(q++X)[6+j]?=some c:=λj c e=>by rw[gQ (by lia),ql,Nat.add_sub_cancel_left];exact e
 refine⟨q++X,?_,⟨R2.app _,⟨at_ 7 _ (by rw[hX];rfl),at_ 0 _ (by rw[hX];rfl),λe he y hy=>?_,λe he=>?_⟩,G4 N hx⟩⟩
 ·have dd:=λv=>UI (a:=N.n .a) (v:=v)
  generalize fdP N F=P at e1 e2 e3 ⊢
  rw[km];simp only[↓bJ,e1,e2,e3,z1,l1,dd,gl,bg,hE,nr,aY,aT]
 ·simp only[Hn,aW,cK,cM]at he;rcases he with rfl | rfl | rfl | rfl | rfl<;>simp only[aW,cK,cM]at hy
  ·subst hy;exact at_ 1 _ (by rw[hX];rfl)
  ·subst hy;exact at_ 2 _ (by rw[hX];rfl)
  ·subst hy;exact at_ 3 _ (by rw[hX];rfl)
  ·subst hy;exact at_ 4 _ (by rw[hX];rfl)
  ·rcases hy with rfl | rfl
   ·exact at_ 5 _ (by rw[hX];rfl)
   ·exact at_ 6 _ (by rw[hX];rfl)
 ·simp only[Hn,aW,cK,cM]at he;rcases he with rfl | rfl | rfl | rfl | rfl<;>simp
def De(N:Nm)(F:List Rw)(most:Nat)(x:Int):PV:=.aq [.str (runN N F most 0 0 (lG N x) []).1,.lst ((runN N F most 0 0 (lG N x) []).2.1.map .int),.int ((runN N F most 0 0 (lG N x) []).2.2:Int)]
theorem G5(c:Nat){N:Nm}(K:bj N){F:List Rw}(P:nE N F)(hl:F.length<=100)(h0:0<F.length){x:Int}(hx:Bd x){most:Nat}(hm:most<=9000) :
  ∃p h',run aP (c+16) "played" [.aq [fdP N F],.lst [.int x],.int (most:Int)] []=some (.ok p,h')/\gM h' p=some (De N F most x):=by
 obtain⟨h1,e1,S⟩:=Kp c K hl hx;obtain⟨h2,fl,w,sd,cq,y1,y2,y3,y4⟩:=G3 (c+3) K P (by decide) hm S h0
 unfold De;rw[y1];have hd:=au y2.r rfl;have UC:=hne S.R.r;have nr:∀l,ao (.ref 1::l)=false:=kr 1
 refine⟨.aq [.str w,.ref 4,.int (cq:Int)],h2,?_,?_⟩
 ·generalize fdP N F=Q at e1 ⊢
  rw[zL];simp only[↓bJ,e1,y4,hd,UC,nr,aY,aT]
 ·have Ux:=hne y2.r;unfold gM;rw[if_neg (by rw[Ux];exact bB)]
  have d4:mD h2 3 (.ref 4)=some (.lst (sd.map .int)):=by
   show((h2[4]?).bind λc=>if live c=true then(dg (mD h2 2) c.ps).map (PV.nd c.k)else none)=_
   rw[y2.sd];show(dg (mD h2 2) (sd.map .int)).map (PV.nd Kd.lst)=_;rw[n8 (fF (λ_=>rfl) sd)]
   rfl
  show((some (PV.str w)).bind λa=>((mD h2 3 (.ref 4)).bind λb=>((some (PV.int (cq:Int))).bind λd=>(some []).map λr=>d::r).map λr=>b::r).map λr=>a::r).map (PV.nd Kd.aq)=_
  rw[d4];rfl
end bS
set_option maxHeartbeats 4000000
namespace bS
open PySem L2 L2.U
noncomputable def kK(N:Nm):Sp->bG×List bG
 | .a=>(.inr N.a,[])
 | .b=>(.inr N.b,[])
 | .c=>(.inr N.c,[])
 | .i _=>(.inr N.c,[])
 | .d=>(.inr N.d,[])
 | .n=>(.inr N.e,[.inl 0])
 | _=>(.inr N.e,[.inl 1])
def G6:Sp->PV
 | .n=>.aq [.int 0]
 | .s=>.aq [.int 1]
 | .j _=>.aq [.int 1]
 | _=>.aq []
def pK(N:Nm)(s:Sp):PV:=.aq [.str (N.n s.x),G6 s]
theorem kA(N:Nm)(s:Sp):eU true (pK N s)=some (kK N s):=by cases s<;>rfl
def Qo(V:Vs):Sp->PV
 | .a=>.int V.a
 | .b=>.int V.b
 | .d=>.int V.d
 | .n=>.int V.n
 | s=>stP (fG V s)
def BI(N:Nm)(V:Vs):aj:=⟨.dt true [kK N .a,kK N .b,kK N .c,kK N .d,kK N .n,kK N .s],[.int V.a,.int V.b,stP V.c,.int V.d,.int V.n,stP V.s]⟩
theorem lJ{h:List aj}{d:Nat}{N:Nm}(K:bj N){V:Vs}(e:h[d]?=some (BI N V))(s:Sp):br h (.ref d) (pK N s)=some (Qo V s):=by
 have d1:=au (k:=.dt true [kK N .a,kK N .b,kK N .c,kK N .d,kK N .n,kK N .s]) (ps:=[.int V.a,.int V.b,stP V.c,.int V.d,.int V.n,stP V.s]) e rfl;have nq:∀{x y:N5} {p q:List bG},x≠y->¬((.inr (N.n x),p):bG×List bG)=(.inr (N.n y),q):=λhx z=>by
  injection z with z1 _
  injection z1 with z2
  exact hx (K.n z2)
 have ab:=λp q=>nq (p:=p) (q:=q) (show N5.a≠.b by decide)
 have ac:=λp q=>nq (p:=p) (q:=q) (show N5.a≠.c by decide)
 have ad:=λp q=>nq (p:=p) (q:=q) (show N5.a≠.d by decide)
 have ae:=λp q=>nq (p:=p) (q:=q) (show N5.a≠.e by decide)
 have bc:=λp q=>nq (p:=p) (q:=q) (show N5.b≠.c by decide)
 have bd:=λp q=>nq (p:=p) (q:=q) (show N5.b≠.d by decide)
 have be:=λp q=>nq (p:=p) (q:=q) (show N5.b≠.e by decide)
 have cd:=λp q=>nq (p:=p) (q:=q) (show N5.c≠.d by decide)
 have ce:=λp q=>nq (p:=p) (q:=q) (show N5.c≠.e by decide)
 have de:=λp q=>nq (p:=p) (q:=q) (show N5.d≠.e by decide)
 have Vy:¬((.inr N.e,[.inl 0]):bG×List bG)=(.inr N.e,[.inl 1]):=λz=>by
  injection z with _ z
  injection z with z _
  injection z with z
  cases z
 have go:gr (kK N s) [kK N .a,kK N .b,kK N .c,kK N .d,kK N .n,kK N .s] [.int V.a,.int V.b,stP V.c,.int V.d,.int V.n,stP V.s]=some (Qo V s):=by
  simp only[Nm.n]at ab ac ad ae bc bd be cd ce de;cases s<;>simp only[gr,kK,ab,ac,ad,ae,bc,bd,be,cd,ce,de,Vy,d5,cD,Qo,fG]
 simp only[br,d1,kA];exact go
end bS
set_option maxHeartbeats 4000000
namespace bS
open PySem L2 L2.U
structure Ra where
 a:PV
 b:PV
 c:PV
 d:PV
 n:PV
 s:PV
def G7(V:Vs):Ra:=⟨.int V.a,.int V.b,stP V.c,.int V.d,.int V.n,stP V.s⟩
noncomputable def gh(A:Ra)(v:PV):Sp->Ra
 | .a=>{A with a:=v}
 | .b=>{A with b:=v}
 | .d=>{A with d:=v}
 | .n=>{A with n:=v}
 | .c=>{A with c:=v}
 | .i _=>{A with c:=v}
 | _=>{A with s:=v}
theorem oo(N:Nm)(V:Vs)(s:Sp)(x:Int):gh (G7 V) (Qm N V x s) s=G7 (qC N V x s):=by cases s<;>rfl
theorem PD(V:Vs){s t:Sp}(h:(BC s=true/\BC t=true)\/(Du s=true/\Du t=true)):gh (G7 V) (nJ V t) s=G7 (Uq V s t):=by
 rcases h with⟨h1,h2⟩ | ⟨h1,h2⟩<;>cases s<;>cases t<;>(first | rfl | exact absurd h1 bB | exact absurd h2 bB)
def LK(N:Nm)(A:Ra):aj:=⟨.dt true [kK N .a,kK N .b,kK N .c,kK N .d,kK N .n,kK N .s],[A.a,A.b,A.c,A.d,A.n,A.s]⟩
theorem qH(N:Nm)(V:Vs):BI N V=LK N (G7 V):=rfl
theorem PF{h:List aj}{d:Nat}{N:Nm}(K:bj N){A:Ra}{v:PV}{ρ:List (Option PV)}(e:h[d]?=some (LK N A))(s:Sp):iE (.ref d) (pK N s) v ⟨ρ,h⟩=some ⟨ρ,h.set d (LK N (gh A v s))⟩:=by
 have nq:∀{x y:N5} {p q:List bG},x≠y->¬((.inr (N.n x),p):bG×List bG)=(.inr (N.n y),q):=λhx z=>by
  injection z with z1 _
  injection z1 with z2
  exact hx (K.n z2)
 have ab:=λp q=>nq (p:=p) (q:=q) (show N5.a≠.b by decide)
 have ac:=λp q=>nq (p:=p) (q:=q) (show N5.a≠.c by decide)
 have ad:=λp q=>nq (p:=p) (q:=q) (show N5.a≠.d by decide)
 have ae:=λp q=>nq (p:=p) (q:=q) (show N5.a≠.e by decide)
 have bc:=λp q=>nq (p:=p) (q:=q) (show N5.b≠.c by decide)
 have bd:=λp q=>nq (p:=p) (q:=q) (show N5.b≠.d by decide)
 have be:=λp q=>nq (p:=p) (q:=q) (show N5.b≠.e by decide)
 have cd:=λp q=>nq (p:=p) (q:=q) (show N5.c≠.d by decide)
 have ce:=λp q=>nq (p:=p) (q:=q) (show N5.c≠.e by decide)
 have de:=λp q=>nq (p:=p) (q:=q) (show N5.d≠.e by decide)
 have Vy:¬((.inr N.e,[.inl 0]):bG×List bG)=(.inr N.e,[.inl 1]):=λz=>by
  injection z with _ z
  injection z with z _
  injection z with z
  cases z
 have hs:lg (kK N s) [kK N .a,kK N .b,kK N .c,kK N .d,kK N .n,kK N .s]=true:=by
  unfold lg;rw[List.any_eq_true];cases s
  case a=>exact⟨kK N .a,by simp,by simp⟩
  case b=>exact⟨kK N .b,by simp,by simp⟩
  case c=>exact⟨kK N .c,by simp,by simp⟩
  case i x=>exact⟨kK N .c,by simp,by simp[kK]⟩
  case d=>exact⟨kK N .d,by simp,by simp⟩
  case n=>exact⟨kK N .n,by simp,by simp⟩
  case s=>exact⟨kK N .s,by simp,by simp⟩
  case j x=>exact⟨kK N .s,by simp,by simp[kK]⟩
 have go:qW (kK N s) v [kK N .a,kK N .b,kK N .c,kK N .d,kK N .n,kK N .s] [A.a,A.b,A.c,A.d,A.n,A.s]=[(gh A v s).a,(gh A v s).b,(gh A v s).c,(gh A v s).d,(gh A v s).n,(gh A v s).s]:=by
  have n10:¬((.inr N.e,[.inl 1]):bG×List bG)=(.inr N.e,[.inl 0]):=λz=>Vy z.symm
  have ba:=λp q=>nq (p:=p) (q:=q) (show N5.b≠.a by decide)
  have ca:=λp q=>nq (p:=p) (q:=q) (show N5.c≠.a by decide)
  have da:=λp q=>nq (p:=p) (q:=q) (show N5.d≠.a by decide)
  have ea:=λp q=>nq (p:=p) (q:=q) (show N5.e≠.a by decide)
  have cb:=λp q=>nq (p:=p) (q:=q) (show N5.c≠.b by decide)
  have db:=λp q=>nq (p:=p) (q:=q) (show N5.d≠.b by decide)
  have eb:=λp q=>nq (p:=p) (q:=q) (show N5.e≠.b by decide)
  have dc:=λp q=>nq (p:=p) (q:=q) (show N5.d≠.c by decide)
  have ec:=λp q=>nq (p:=p) (q:=q) (show N5.e≠.c by decide)
  have ed:=λp q=>nq (p:=p) (q:=q) (show N5.e≠.d by decide)
  simp only[Nm.n]at ab ac ad ae bc bd be cd ce de ba ca da ea cb db eb dc ec ed;cases s<;>simp only[qW,pU,kK,ab,ac,ad,ae,bc,bd,be,cd,ce,de,ba,ca,da,ea,cb,db,eb,dc,ec,ed,Vy,n10,d5,cD,gh]
 show((i8 h (.ref d)).bind λc=>match c.2.k with
  | .lst=>(mx (pK N s)).bind λi=>(B9 c.2.ps.length i).map λj=>(⟨ρ,h.set c.1 ⟨.lst,c.2.ps.set j v⟩⟩:bP)
  | .dt t lN=>(eU t (pK N s)).bind λk=>if lN.length<gF then some ⟨ρ,h.set c.1 (ib t k v lN c.2.ps)⟩else none
  | _=>none)=_
 rw[eQ e rfl];show((eU true (pK N s)).bind λk=>if [kK N .a,kK N .b,kK N .c,kK N .d,kK N .n,kK N .s].length<gF then some (⟨ρ,h.set d (ib true k v [kK N .a,kK N .b,kK N .c,kK N .d,kK N .n,kK N .s] [A.a,A.b,A.c,A.d,A.n,A.s])⟩:bP)else none)=_
 rw[kA];show(if [kK N .a,kK N .b,kK N .c,kK N .d,kK N .n,kK N .s].length<gF then some (⟨ρ,h.set d (ib true (kK N s) v [kK N .a,kK N .b,kK N .c,kK N .d,kK N .n,kK N .s] [A.a,A.b,A.c,A.d,A.n,A.s])⟩:bP)else none)=_
 rw[if_pos (by show 6<gF;decide)]
 unfold ib;rw[if_pos hs,go];rfl
end bS
set_option maxHeartbeats 4000000
namespace bS
open PySem L2 L2.U
theorem lK(c:Nat){N:Nm}(K:bj N){h:List aj}{d:Nat}{V:Vs}(e:h[d]?=some (BI N V))(x:Ix){m:Nat}(hm:1<=m):run aP (c+1) "_law_place" [.ref d,xo N x,.int (m:Int)] h=some (.ok (.int (gP V m x:Int)),h):=by
 have ka:br h (.ref d) (.aq [.str N.a,.aq []])=some (.int V.a):=lJ K e .a;have kb:br h (.ref d) (.aq [.str N.b,.aq []])=some (.int V.b):=lJ K e .b;have ma:∀h,cu h (.int V.a) (.int (m:Int))=_:=λh=>il hm
 have mb:∀h,cu h (.int V.b) (.int (m:Int))=_:=λh=>il hm
 rw[zP];cases x with
 | «at» i=>simp only[↓bJ,xo];rfl
 | a=>simp only[↓bJ,xo,ka,ma];rfl
 | b=>simp only[↓bJ,xo,kb,mb];rfl
theorem G8(c:Nat){N:Nm}(K:bj N){h:List aj}{d:Nat}{V:Vs}(e:h[d]?=some (BI N V))(hs:Hs V){o:Op}(ho:GN V o):run aP (c+2) "_law_number" [.ref d,gm N o] h=some (.ok (.int (opV V o)),h):=by
 have ka:br h (.ref d) (.aq [.str N.a,.aq []])=some (.int V.a):=lJ K e .a;have kb:br h (.ref d) (.aq [.str N.b,.aq []])=some (.int V.b):=lJ K e .b;have kc:br h (.ref d) (.aq [.str N.c,.aq []])=some (stP V.c):=lJ K e .c;have kd:br h (.ref d) (.aq [.str N.d,.aq []])=some (.int V.d):=lJ K e .d;have kn:br h (.ref d) (.aq [.str N.e,.aq [.int 0]])=some (.int V.n):=lJ K e .n;have ks:br h (.ref d) (.aq [.str N.e,.aq [.int 1]])=some (stP V.s):=lJ K e .s;have hE:h.isEmpty=false:=hne e;have nr:∀l,ao (.ref d::l)=false:=kr d
 have e9:=λh L=>lH (L:=L) (h:=h)
 have pc:=λx=>lK c K e x hs.c
 have ps:=λx=>lK c K e x hs.s
 have nn:∀x,wc (xo N x)=false:=λx=>by cases x<;>rfl
 have lt:∀(L:List Int) x,1<=L.length->(∀i,x=Ix.at i->i<L.length)->gP V L.length x<L.length:=λL x h1 h2=>by
  cases x with
  | «at» i=>exact h2 i rfl
  | a=>exact mod_lt h1
  | b=>exact mod_lt h1
 rw[mV];cases o with
 | num i=>simp only[↓bJ,gm];rfl
 | sp s =>
  cases s with
  | s=>exact absurd ho id
  | c=>exact absurd ho id
  | a=>simp only[↓bJ,gm,fE,ka];rfl
  | b=>simp only[↓bJ,gm,fE,kb];rfl
  | d=>simp only[↓bJ,gm,fE,kd];rfl
  | n=>simp only[↓bJ,gm,fE,kn];rfl
  | i x =>
   have e2:∀h,br h (stP V.c) (.int (gP V V.c.length x:Int))=_:=λh=>jl (lt V.c x hs.c λi hi=>by rw[hi]at ho;exact ho)
   have px:=pc x;simp only[↓bJ,gm,fE,kc,nn,e9,px,e2,hE,nr,aY,aT];rfl
  | j x =>
   have e2:∀h,br h (stP V.s) (.int (gP V V.s.length x:Int))=_:=λh=>jl (lt V.s x hs.s λi hi=>by rw[hi]at ho;exact ho)
   have px:=ps x;simp only[↓bJ,gm,fE,ks,nn,e9,px,e2,hE,nr,aY,aT];rfl
theorem Df(c:Nat){g:Sg}{x y:Int}(hx:Bd x)(hy:Bd y):run aP (c+1) "_law_reckon" [.str (Bq g),.int x,.int y] []=some (.ok (.int (Ph g x y)),[]):=by
 have e4:=λh=>GP (h:=h)
 have e5:=λh x=>qA (h:=h) (x:=x)
 have e6:=λh=>GR (h:=h) hx hy
 rw[xi];cases g<;>(simp only[↓bJ,e4,e5,e6,Bq];rfl)
end bS
set_option maxHeartbeats 4000000
namespace bS
open PySem L2 L2.U
noncomputable def LL:Sp->Bool
 | .i _=>false
 | .j _=>false
 | _=>true
noncomputable def sS:Sp->Ix
 | .i x=>x
 | .j x=>x
 | _=>.a
theorem xD(N:Nm){s:Sp}(h:LL s=true):fE N s=.aq [.str (N.n s.x),.bl false,G6 s,.aL]:=by cases s<;>first | rfl | cases h
theorem LM(N:Nm){s:Sp}(h:LL s=false):fE N s=.aq [.str (N.n s.x),.bl false,G6 s,xo N (sS s)]:=by cases s<;>first | rfl | cases h
theorem Kq(c:Nat){N:Nm}(K:bj N){h:List aj}{d:Nat}{V:Vs}(e:h[d]?=some (BI N V))(hz:Vz N V){r:Rw}(ok:qE N V r)(hr:xO r≠none\/∃s t,r=.dH s t) :
  run aP (c+3) "_law_done" [.ref d,bH N r] h=some (.ok .aL,h.set d (BI N (fg N V r))):=by
 have hs:=hz.h K;have hE:h.isEmpty=false:=hne e;have nr:∀l,ao (.ref d::l)=false:=kr d
 have nm:=λo ho=>G8 c K e hs (o:=o) ho
 have ke:=λs=>lJ K e s
 have sk:∀s v ρ,iE (.ref d) (pK N s) v ⟨ρ,h⟩=some ⟨ρ,h.set d (LK N (gh (G7 V) v s))⟩:=λs v ρ=>PF K (A:=G7 V) e s
 have nn:∀x,wc (xo N x)=false:=λx=>by cases x<;>rfl
 have UJ:∀s x,BC s=true->LK N (gh (G7 V) (.int x) s)=BI N (qC N V x s):=λs x hn=>by
  rw[qH,<-oo];cases s<;>first | rfl | cases hn
 have UK:∀s x,LL s=false->LK N (gh (G7 V) (stP ((fG V s).set (gP V (fG V s).length (sS s)) x)) s)=BI N (qC N V x s):=λs x hn=>by
  rw[qH,<-oo];cases s<;>first | rfl | cases hn
 have spn:∀s,Pj V s->(BC s=true/\LL s=true)\/(LL s=false/\1<=(fG V s).length/\(fG V s).length<=8/\gP V (fG V s).length (sS s)<(fG V s).length/\Qo V s=stP (fG V s)):=λs h=>by
  have lt:∀(L:List Int) x,1<=L.length->(∀i,x=Ix.at i->i<L.length)->gP V L.length x<L.length:=λL x h1 h2=>by
   cases x with
   | «at» i=>exact h2 i rfl
   | a=>exact mod_lt h1
   | b=>exact mod_lt h1
  cases s with
  | a=>exact .inl ⟨rfl,rfl⟩
  | b=>exact .inl ⟨rfl,rfl⟩
  | d=>exact .inl ⟨rfl,rfl⟩
  | n=>exact .inl ⟨rfl,rfl⟩
  | c=>exact absurd h id
  | s=>exact absurd h id
  | i x=>exact .inr ⟨rfl,hs.c,hz.c8 K,lt V.c x hs.c λi hi=>by rw[hi]at h;exact h,rfl⟩
  | j x=>exact .inr ⟨rfl,hs.s,hz.s8 K,lt V.s x hs.s λi hi=>by rw[hi]at h;exact h,rfl⟩
 have K5:∀s x,(fG V s).length<=8->gP V (fG V s).length (sS s)<(fG V s).length->(∀h,Ck h none (some (gP V (fG V s).length (sS s):Int)) (stP (fG V s))=some (.aq (((fG V s).take (gP V (fG V s).length (sS s))).map .int)))/\(∀h,Ck h (some ((gP V (fG V s).length (sS s)+1:Nat):Int)) none (stP (fG V s))=some (.aq (((fG V s).drop (gP V (fG V s).length (sS s)+1)).map .int)))/\(∀h,fV h (.aq (((fG V s).take (gP V (fG V s).length (sS s))).map .int)) (.aq [.int x])=some (.aq (((fG V s).take (gP V (fG V s).length (sS s))++[x]).map .int)))/\(∀h,fV h (.aq (((fG V s).take (gP V (fG V s).length (sS s))++[x]).map .int)) (.aq (((fG V s).drop (gP V (fG V s).length (sS s)+1)).map .int))=some (stP ((fG V s).set (gP V (fG V s).length (sS s)) x)))/\∀h,fV h (.int (gP V (fG V s).length (sS s):Int)) (.int 1)=some (.int ((gP V (fG V s).length (sS s)+1:Nat):Int)):=λs x i3 i4=>by
  refine⟨λh=>?_,λh=>?_,λh=>(vn i4 i3).1,λh=>(vn i4 i3).2,λh=>rfl⟩
  ·show some (PV.aq (iC ((fG V s).map .int) none _))=_;rw[GS _ _ (by lia)]
  ·show some (PV.aq (iC ((fG V s).map .int) (some ((gP V (fG V s).length (sS s)+1:Nat):Int)) none))=_;rw[GU _ _ (by lia)]
 have e9:=λh L=>lH (L:=L) (h:=h)
 rw[C0];cases r with
 | dH s t =>
  have hc:=ok.c s t rfl;have p1:LL s=true/\LL t=true/\Qo V t=nJ V t:=by
   rcases hc with⟨h1,h2⟩ | ⟨h1,h2⟩<;>cases s<;>cases t<;>first | exact⟨rfl,rfl,rfl⟩ | exact absurd h1 bB | exact absurd h2 bB
  have kt:=ke t;have ks:=sk s (nJ V t);rw[p1.2.2]at kt;have jr:LK N (gh (G7 V) (nJ V t) s)=BI N (fg N V (.dH s t)):=by
   rw[qH,PD V hc];rfl
  rw[jr]at ks;unfold pK at kt ks;simp only[↓bJ,bH,xD N p1.1,xD N p1.2.1,kt,ks,hE,nr,aY,aT]
 | put s o =>
  have n0:=nm o (ok.o o (by simp[cg])).1
  have sp:Pj V s:=by
   rcases ok.t s rfl with⟨_,h⟩ | ⟨⟨o,h⟩,_⟩ | ⟨⟨g,o,p,h⟩,_⟩
   ·exact h
   ·cases h
   ·cases h
  rcases spn s sp with⟨i1,i2⟩ | ⟨i1,i2,i3,i4,i5⟩
  ·have ks:=sk s (.int (opV V o));rw[UJ s _ i1]at ks;unfold pK at ks;simp only[↓bJ,bH,xD N i2,n0,ks,hE,nr,aY,aT];rfl
  ·have kt:=ke s;rw[i5]at kt;have ks:=sk s (stP ((fG V s).set (gP V (fG V s).length (sS s)) (opV V o)));rw[UK s _ i1]at ks;unfold pK at kt ks;have px:=lK (c+1) K e (sS s) i2;obtain⟨c1,c2,c3,c4,ad⟩:=K5 s (opV V o) i3 i4;simp only[↓bJ,bH,LM N i1,nn,n0,kt,e9,px,c1,c2,c3,c4,ad,ks,hE,nr,aY,aT];rfl
 | fill s o =>
  have n0:=nm o (ok.o o (by simp[cg])).1
  have sp:LL s=true/\Qo V s=stP (fG V s)/\LK N (gh (G7 V) (stP (List.replicate (fG V s).length (opV V o))) s)=BI N (qC N V (opV V o) s)/\(fG V s).length<=8:=by
   rcases ok.t s rfl with⟨⟨o,h⟩,_⟩ | ⟨_,h⟩ | ⟨⟨g,o,p,h⟩,_⟩
   ·cases h
   ·rcases h with rfl | rfl
    ·refine⟨rfl,rfl,?_,hz.c8 K⟩;rw[qH,<-oo,show(fG V .c).length=N.z from hz.c]
     rfl
    ·refine⟨rfl,rfl,?_,hz.s8 K⟩;rw[qH,<-oo,show(fG V .s).length=N.y from hz.s]
     rfl
   ·cases h
  obtain⟨i1,i2,i3,i4⟩:=sp;have kt:=ke s;rw[i2]at kt;have ks:=sk s (stP (List.replicate (fG V s).length (opV V o)));rw[i3]at ks;unfold pK at kt ks;have rep:=λh=>jA (h:=h) (x:=opV V o) i4
  simp only[↓bJ,bH,xD N i1,n0,kt,e9,rep,ks,hE,nr,aY,aT];rfl
 | set s g o p =>
  have n0:=nm o (ok.o o (by simp[cg])).1
  have n1:=nm p (ok.o p (by simp[cg])).1
  have nk:=Df (c+1) (g:=g) (ok.o o (by simp[cg])).2 (ok.o p (by simp[cg])).2
  have n2:run aP (c+2) "_law_number" [.ref d,.str (Bq g)] h=some (.ok (.str (Bq g)),h):=by
   rw[mV];simp only[↓bJ]
  have nr3:ao [.str (Bq g),.int (opV V o),.int (opV V p)]=true:=rfl;have sp:Pj V s:=by
   rcases ok.t s rfl with⟨⟨o,h⟩,_⟩ | ⟨⟨o,h⟩,_⟩ | ⟨_,h⟩
   ·cases h
   ·cases h
   ·exact h
  rcases spn s sp with⟨i1,i2⟩ | ⟨i1,i2,i3,i4,i5⟩
  ·have ks:=sk s (.int (Ph g (opV V o) (opV V p)));rw[UJ s _ i1]at ks;unfold pK at ks;simp only[↓bJ,bH,xD N i2,n0,n1,n2,nk,nr3,ks,hE,nr,aY,aT,cm,b6];rfl
  ·have kt:=ke s;rw[i5]at kt;have ks:=sk s (stP ((fG V s).set (gP V (fG V s).length (sS s)) (Ph g (opV V o) (opV V p))));rw[UK s _ i1]at ks;unfold pK at kt ks;have px:=lK (c+1) K e (sS s) i2;obtain⟨c1,c2,c3,c4,ad⟩:=K5 s (Ph g (opV V o) (opV V p)) i3 i4;simp only[↓bJ,bH,LM N i1,nn,n0,n1,n2,nk,nr3,kt,e9,px,c1,c2,c3,c4,ad,ks,hE,nr,aY,aT,cm,b6];rfl
 | _ =>
  rcases hr with h | ⟨s,t,h⟩
  ·exact absurd rfl h
  ·cases h
end bS
set_option maxHeartbeats 4000000
namespace bS
open PySem L2 L2.U
theorem qI{h:List aj}{d:Nat}{ks:List (bG×List bG)}{ps:List PV}{pk v:PV}{k:bG×List bG}{ρ:List (Option PV)}(e:h[d]?=some ⟨.dt true ks,ps⟩)(hk:eU true pk=some k)(hn:lg k ks=false)(hl:ks.length<100) :
  iE (.ref d) pk v ⟨ρ,h⟩=some ⟨ρ,h.set d ⟨.dt true (ks++[k]),ps++[v]⟩⟩:=by
 show((i8 h (.ref d)).bind λc=>match c.2.k with
  | .lst=>(mx pk).bind λi=>(B9 c.2.ps.length i).map λj=>(⟨ρ,h.set c.1 ⟨.lst,c.2.ps.set j v⟩⟩:bP)
  | .dt t lN=>(eU t pk).bind λk=>if lN.length<gF then some ⟨ρ,h.set c.1 (ib t k v lN c.2.ps)⟩else none
  | _=>none)=_
 rw[eQ e rfl];show((eU true pk).bind λk=>if ks.length<gF then some (⟨ρ,h.set d (ib true k v ks ps)⟩:bP)else none)=_
 rw[hk];refine(if_pos (iQ hl (by decide))).trans ?_
 unfold ib;rw[hn];rfl
theorem G9(c:Nat){N:Nm}(K:bj N){F:List Rw}{x:Int}:run aP (c+1) "_law_begin" [.aq [fdP N F],.int x] []=some (.ok (.ref 0),[BI N (lG N x)]):=by
 have nq:∀{x y:N5} {p q:List bG},x≠y->¬((.inr (N.n x),p):bG×List bG)=(.inr (N.n y),q):=λhx z=>by
  injection z with z1 _
  injection z1 with z2
  exact hx (K.n z2)
 have nh:∀(y:N5) (p:List bG) (L:List (N5×List bG)),(∀z∈L,y≠z.1\/p≠z.2)->lg (.inr (N.n y),p) (L.map λz=>(.inr (N.n z.1),z.2))=false:=λy p L hL=>by
  unfold lg;rw[yo];intro k hk;obtain⟨z,hz,rfl⟩:=dC.mp hk;rcases hL z hz with h | h
  ·simp[nq (p:=p) (q:=z.2) h];intro h2;exact absurd (K.n h2).symm h
  ·simp;intro _ h2;exact absurd h2.symm h
 have sb:∀ρ u v,iE (.ref 0) (.aq [.str (N.n .b),.aq []]) v ⟨ρ,[⟨.dt true (List.append [] [(.inr (N.n .a),[])]),[u]⟩]⟩=some ⟨ρ,[⟨.dt true [kK N .a,kK N .b],[u,v]⟩]⟩:=λρ u v=>qI (h:=[⟨.dt true [kK N .a],[u]⟩]) (d:=0) (ks:=[kK N .a]) rfl (kA N .b) (nh .b [] [(.a,[])] (by simp)) (by simp)
 have sc:∀ρ u v w,iE (.ref 0) (.aq [.str (N.n .c),.aq []]) w ⟨ρ,[⟨.dt true [kK N .a,kK N .b],[u,v]⟩]⟩=some ⟨ρ,[⟨.dt true [kK N .a,kK N .b,kK N .c],[u,v,w]⟩]⟩:=λρ u v w=>qI (h:=[⟨.dt true [kK N .a,kK N .b],[u,v]⟩]) (d:=0) (ks:=[kK N .a,kK N .b]) rfl (kA N .c) (nh .c [] [(.a,[]),(.b,[])] (by simp)) (by simp)
 have sd:∀ρ u v w y,iE (.ref 0) (.aq [.str (N.n .d),.aq []]) y ⟨ρ,[⟨.dt true [kK N .a,kK N .b,kK N .c],[u,v,w]⟩]⟩=some ⟨ρ,[⟨.dt true [kK N .a,kK N .b,kK N .c,kK N .d],[u,v,w,y]⟩]⟩:=λρ u v w y=>qI (h:=[⟨.dt true [kK N .a,kK N .b,kK N .c],[u,v,w]⟩]) (d:=0) (ks:=[kK N .a,kK N .b,kK N .c]) rfl (kA N .d) (nh .d [] [(.a,[]),(.b,[]),(.c,[])] (by simp)) (by simp)
 have sn:∀ρ u v w y z,iE (.ref 0) (.aq [.str (N.n .e),.aq [.int 0]]) z ⟨ρ,[⟨.dt true [kK N .a,kK N .b,kK N .c,kK N .d],[u,v,w,y]⟩]⟩=some ⟨ρ,[⟨.dt true [kK N .a,kK N .b,kK N .c,kK N .d,kK N .n],[u,v,w,y,z]⟩]⟩:=λρ u v w y z=>qI (h:=[⟨.dt true [kK N .a,kK N .b,kK N .c,kK N .d],[u,v,w,y]⟩]) (d:=0) (ks:=[kK N .a,kK N .b,kK N .c,kK N .d]) rfl (kA N .n) (nh .e [.inl 0] [(.a,[]),(.b,[]),(.c,[]),(.d,[])] (by simp)) (by simp)
 have ss:∀ρ u v w y z t,iE (.ref 0) (.aq [.str (N.n .e),.aq [.int 1]]) t ⟨ρ,[⟨.dt true [kK N .a,kK N .b,kK N .c,kK N .d,kK N .n],[u,v,w,y,z]⟩]⟩=some ⟨ρ,[⟨.dt true [kK N .a,kK N .b,kK N .c,kK N .d,kK N .n,kK N .s],[u,v,w,y,z,t]⟩]⟩:=λρ u v w y z t=>qI (h:=[⟨.dt true [kK N .a,kK N .b,kK N .c,kK N .d,kK N .n],[u,v,w,y,z]⟩]) (d:=0) (ks:=[kK N .a,kK N .b,kK N .c,kK N .d,kK N .n]) rfl (kA N .s) (nh .e [.inl 1] [(.a,[]),(.b,[]),(.c,[]),(.d,[]),(.e,[.inl 0])] (by simp)) (by simp)
 have sa:∀ρ v,FJ (.ref 0) (.aq [.str (N.n .a),.aq []]) v ⟨ρ,[⟨.dt true [],[]⟩]⟩=some ⟨ρ,[⟨.dt true [kK N .a],[v]⟩]⟩:=λρ v=>rfl
 have rz:=λh=>jA (h:=h) (x:=0) K.z8
 have ry:=λh=>jA (h:=h) (x:=0) K.y8
 rw[zO];simp only[↓bJ,fdP,rk,nS,zR,xm,J8,aO,dP,sa,sb,sc,sd,sn,ss,rz,ry];rfl
end bS
set_option maxHeartbeats 4000000
namespace bS
open PySem L2 L2.U
def K6(N:Nm):Ix->Tr
 | .at i=>.int (i:Int)
 | .a=>.str N.a
 | .b=>.str N.b
def Ha:Sp->Tr
 | .n=>.aq [.int 0]
 | .s=>.aq [.int 1]
 | .j _=>.aq [.int 1]
 | _=>.aq []
def wT(N:Nm):Sp->Tr
 | .i x=>K6 N x
 | .j x=>K6 N x
 | _=>.aL
def spT(N:Nm)(s:Sp):Tr:=.aq [.str (N.n s.x),.bl false,Ha s,wT N s]
theorem toT_sp(N:Nm)(s:Sp)(h:List aj):toT h gB (.aq [fE N s])=some (.aq [spT N s]):=by
 cases s with
 | i x=>cases x<;>rfl
 | j x=>cases x<;>rfl
 | _=>rfl
def Yy(N:Nm):Op->Tr
 | .num i=>.int i
 | .sp s=>spT N s
theorem toT_op(N:Nm)(k:Nat)(o:Op)(h:List aj):toT h (k+3) (gm N o)=some (Yy N o):=by
 cases o with
 | num i=>rfl
 | sp s=>cases s with
  | i x=>cases x<;>rfl
  | j x=>cases x<;>rfl
  | _=>rfl
theorem LN{N:Nm}(K:bj N){s t:Sp}(h:eqT (.aq [spT N s]) (.aq [spT N t])=true):s=t:=by
 have h:(((N.n s.x==N.n t.x)&&(true&&(eqT (Ha s) (Ha t)&&(eqT (wT N s) (wT N t)&&true))))&&true)=true:=h;simp only[b6,ub,aF,gX]at h;obtain⟨h1,h2,h3⟩:=h;have hx:=K.n h1;have ix:∀x y,eqT (K6 N x) (K6 N y)=true->x=y:=λx y h=>by
  cases x with
  | «at» i=>cases y with
   | «at» j =>
    have:((i:Int)==(j:Int))=true:=h;have:=gX.mp this;exact dm _ (by lia)
   | _=>cases h
  | a=>cases y with
   | a=>rfl
   | b=>cases K.n (x:=.a) (y:=.b) (gX.mp (show(N.a==N.b)=true from h))
   | «at» j=>cases h
  | b=>cases y with
   | b=>rfl
   | a=>cases K.n (x:=.b) (y:=.a) (gX.mp (show(N.b==N.a)=true from h))
   | «at» j=>cases h
 have nx:∀x,¬eqT .aL (K6 N x)=true:=λx z=>by cases x<;>cases z
 have xn:∀x,¬eqT (K6 N x) .aL=true:=λx z=>by cases x<;>cases z
 cases s<;>cases t<;>first | rfl | exact absurd hx (by decide) | exact absurd h2 bB | exact absurd h3 (nx _) | exact absurd h3 (xn _) | exact dm _ (ix _ _ h3)
theorem xE(L:List Int)(i:Nat):L.set i (L.getD i 0)=L:=by
 apply List.ext_getElem (by simp)
 intro j h1 h2;rw[List.getElem_set];split
 ·rename_i e;subst e;rw[iJ,dy h2];rfl
 ·rfl
theorem PH{N:Nm}(K:bj N){V:Vs}{r:Rw}(ok:qE N V r)(hr:xO r≠none\/(∃s t,r=.dH s t)\/∃x,r=.gp x) :
  ∃p q b,(∀h,Ck h (some 2) none (bH N r)=some p)/\(∀h,Ck h (some 1) (some 2) (bH N r)=some q)/\(∀h,Ht h p q=some (.bl b))/\(b=false->fg N V r=V)/\(b=true->xO r≠none\/∃s t,r=.dH s t):=by
 have ne:∀{p q:PV} {x y:Tr},(∀h,toT h gB p=some x)->(∀h,toT h gB q=some y)->∀h,Ht h p q=some (.bl !(eqT x y)):=λh1 h2 h=>by
  simp[Ht,RU,h1,h2]
 have one:∀(s:Sp) (o:Op),∃b,(∀h,Ht h (.aq [gm N o]) (.aq [fE N s])=some (.bl b))/\(b=false->o=.sp s):=λs o=>by
  cases o with
  | num i=>exact⟨_,ne (x:=.aq [.int i]) (λh=>rfl) (toT_sp N s),λh=>by cases h⟩
  | sp t=>exact⟨_,ne (toT_sp N t) (toT_sp N s),λh=>dm Op.sp (LN K (by simpa using h))⟩
 cases r with
 | put s o =>
  obtain⟨b,h1,h2⟩:=one s o;refine⟨_,_,b,λh=>rfl,λh=>rfl,h1,λh=>?_,λ_=>.inl (by simp[xO])⟩
  cases h2 h;have ha:=(ok.o _ (cj.mpr rfl)).1;cases s with
  | c=>exact absurd ha id
  | s=>exact absurd ha id
  | i x=>show {V with c:=V.c.set _ (V.c.getD _ 0)}=V;rw[xE]
  | j x=>show {V with s:=V.s.set _ (V.s.getD _ 0)}=V;rw[xE]
  | _=>rfl
 | fill s o =>
  obtain⟨b,h1,h2⟩:=one s o;refine⟨_,_,b,λh=>rfl,λh=>rfl,h1,λh=>?_,λ_=>.inl (by simp[xO])⟩
  cases h2 h;have ha:=(ok.o _ (cj.mpr rfl)).1;rcases ok.t s rfl with⟨⟨_,h⟩,_⟩ | ⟨_,h⟩ | ⟨⟨_,_,_,h⟩,_⟩
  ·cases h
  ·rcases h with rfl | rfl<;>exact absurd ha id
  ·cases h
 | set s g o p =>
  refine⟨.aq [.str (Bq g),gm N o,gm N p],.aq [fE N s],true,λh=>rfl,λh=>rfl,λh=>?_,(λh=>by cases h),λ_=>.inl (by simp[xO])⟩
  have e:toT h gB (.aq [.str (Bq g),gm N o,gm N p])=some (.aq [.str (Bq g),Yy N o,Yy N p]):=by
   show(dg (toT h (996+3)) [.str (Bq g),gm N o,gm N p]).bind (Hr .aq)=_;show(((some (Tr.str (Bq g))).bind λx=>((toT h (996+3) (gm N o)).bind λy=>((toT h (996+3) (gm N p)).bind λz=>(some []).map λr=>z::r).map λr=>y::r).map λr=>x::r)).bind (Hr .aq)=_
   rw[toT_op,toT_op];rfl
  simp[Ht,RU,e,toT_sp,eqT,uD]
 | dH s t =>
  refine⟨_,_,_,λh=>rfl,λh=>rfl,ne (toT_sp N t) (toT_sp N s),λh=>?_,λ_=>.inr ⟨s,t,rfl⟩⟩
  have e:=LN K (by simpa using h)
  subst e;cases t<;>rfl
 | gp x =>
  obtain⟨T,hT⟩:∃T,∀h,toT h gB (.aq [Ql N x])=some T:=⟨_,λh=>rfl⟩
  refine⟨_,_,false,λh=>rfl,λh=>rfl,λh=>?_,λ_=>rfl,(λh=>by cases h)⟩
  exact(ne hT hT h).trans (by rw[gI];rfl)
 | _ =>
  rcases hr with h | ⟨s,t,h⟩ | ⟨x,h⟩
  ·exact absurd rfl h
  ·cases h
  ·cases h
end bS
set_option maxHeartbeats 4000000
namespace bS
open PySem L2 L2.U
theorem Ad{h:List aj}{a b:Int}:mr h (.int a) (.int b)=some (.bl (a==b)):=rfl
theorem UL{f g:Gx dE}{st s1:bP}{r:Option (Rs dE×bP)}(h1:f st=some (.ok .nx,s1))(h2:g s1=r):pM f g st=r:=eB h1 h2
def Dg(N:Nm)(V:Vs)(sd:List Int)(E:List aj):List aj:=BI N V::⟨.lst,sd.map .int⟩::E
theorem Kr(c:Nat){N:Nm}(K:bj N){F:List Rw}{V:Vs}{r:Rw}{k most:Nat}{sd:List Int}{E E':List aj}{x0 x1 x3 x7 PJ x9:Option PV}(hr:F[k]?=some r)(hz:Vz N V)(ok:qE N V r)(hk:xO r≠none\/(∃s t,r=.dH s t)\/(∃x,r=.gp x)\/∃o,r=.jj o)(hs:sd.length<=4000)
  (hA:(k=most/\PJ=some (.ref (E.length+2))/\E'=E++[⟨.lst,sd.map .int⟩])\/(k≠most/\PJ=x7/\E'=E)) :
  nX (run aP (c+4)) ⟨[x0,x1,some (.aq (F.map (bH N))),x3,some (.int (most:Int)),some (.ref 0),some (.ref 1),x7,some (.int (k:Int)),x9],Dg N V sd E⟩=some (.ok .nx,⟨[x0,x1,some (.aq (F.map (bH N))),x3,some (.int (most:Int)),some (.ref 0),some (.ref 1),PJ,some (.int (k:Int)),x9],Dg N (fg N V r) (sd++vt V r) E'⟩):=by
 have pk:∀h,br h (.aq (F.map (bH N))) (.int (k:Int))=some (bH N r):=λh=>atI_nat (by rw[cJ,hr];rfl)
 delta nX iI
 refine UL (s1:=⟨[x0,x1,some (.aq (F.map (bH N))),x3,some (.int (most:Int)),some (.ref 0),some (.ref 1),PJ,some (.int (k:Int)),x9],Dg N V sd E'⟩) (bD ?_) (bD ?_)
 ·obtain⟨h,hh⟩:∃h,Dg N V sd E=h:=⟨_,rfl⟩
  have lb:Ti h (.ref 1)=some (sd.map .int):=by rw[<-hh];rfl
  have hl:h.length=E.length+2:=by rw[<-hh];rfl
  rcases hA with⟨e,e1,e2⟩ | ⟨e,e1,e2⟩
  ·have q:∀h,mr h (.int (k:Int)) (.int (most:Int))=some (.bl true):=λh=>by rw[Ad,e,fu]
   have hn:Dg N V sd E'=h++[⟨.lst,sd.map .int⟩]:=by rw[<-hh,e2];rfl
   rw[hh,hn,e1,<-hl];simp only[↓gk,q,lb]
  ·have q:∀h,mr h (.int (k:Int)) (.int (most:Int))=some (.bl false):=λh=>by rw[Ad,eA.mpr (by lia)]
   rw[e1,e2,hh];simp only[↓gk,q]
 ·obtain⟨h,hh⟩:∃h,Dg N V sd E'=h:=⟨_,rfl⟩
  obtain⟨h',VA⟩:∃h,Dg N (fg N V r) (sd++vt V r) E'=h:=⟨_,rfl⟩
  have e0:h[0]?=some (BI N V):=by rw[<-hh];rfl
  have d1:=au (show h[1]?=some ⟨.lst,sd.map .int⟩ by rw[<-hh];rfl) rfl
  have hE:h.isEmpty=false:=hne e0;have nr:∀l,ao (.ref 0::l)=false:=kr 0
  rw[hh,VA];have w0:∀h,br h (bH N r) (.int 0)=some (.str (Hy r)):=λh=>by cases r<;>rfl
  by_cases xB:∃o,r=.jj o
  ·obtain⟨o,rfl⟩:=xB;have n0:=G8 (c+2) K e0 (hz.h K) (ok.o o (by simp[cg])).1
   have ap:∀ρ,iD (fU kh) (.ref 1) [.int (opV V o)] ⟨ρ,h⟩=some (.ok .aL,⟨ρ,h'⟩):=λρ=>by
    rw[mK (h:=h) (n:=1) (L:=sd.map .int) (by rw[<-hh];rfl) (by rw[aQ];lia),<-hh,<-VA]
    simp[Dg,vt,fg]
   simp only[↓gk,pk,bH,n0,d1,ap,hE,nr,aY,aT]
  ·have hk:xO r≠none\/(∃s t,r=.dH s t)\/∃x,r=.gp x:=by
    rcases hk with h | h | h | h
    ·exact .inl h
    ·exact .inr (.inl h)
    ·exact .inr (.inr h)
    ·exact absurd h xB
   obtain⟨p,q,b,s1,s2,s3,s4,s5⟩:=PH K ok hk;have Yr:vt V r=[]:=by
    cases r<;>first | rfl | exact absurd ⟨_,rfl⟩ xB
   have t2:∀h,mr h (.str (Hy r)) (.str "say")=some (.bl false):=λh=>by
    cases r<;>first | rfl | exact absurd ⟨_,rfl⟩ xB
   cases b with
   | false =>
    have hv:=s4 rfl;have:h'=h:=by rw[<-VA,<-hh,hv,Yr,cX]
    rw[this];simp only[↓gk,pk,w0,t2,s1,s2,s3]
   | true =>
    have dn:run aP (c+4) "_law_done" [.ref 0,bH N r] h=some (.ok .aL,h'):=by
     rw[Kq (c+1) K e0 hz ok (s5 rfl),<-hh,<-VA,Yr,cX];rfl
    simp only[↓gk,pk,w0,t2,s1,s2,s3,dn,hE,nr,aY,aT]
end bS
set_option maxHeartbeats 4000000
namespace bS
open PySem L2 L2.U
def stN(N:Nm)(F:List Rw)(x:Int):Nat->Vs×List Int
 | 0=>(lG N x,[])
 | k+1=>match F[k]? with
  | some r=>(fg N (stN N F x k).1 r,(stN N F x k).2++vt (stN N F x k).1 r)
  | none=>stN N F x k
def Yz(r:Rw):Prop:=xO r≠none\/(∃s t,r=.dH s t)\/(∃x,r=.gp x)\/∃o,r=.jj o
structure vz (F:List Rw) (L:Nat):Prop where
 len:F.length=L+1
 last:F[L]?=some .cV
 mid:∀k,k<L->∃r,F[k]?=some r/\Yz r
section
variable {N:Nm} {F:List Rw} {x:Int} {L:Nat}
theorem xF{r:Rw}(h:Yz r)(V:Vs)(i:Nat):xP V i r=i+1/\r≠.cV:=by
 cases r
 case go j=>rcases h with h | ⟨s,t,h⟩ | ⟨x,h⟩ | ⟨o,h⟩<;>first | exact absurd rfl h | cases h
 case ifs o p j=>rcases h with h | ⟨s,t,h⟩ | ⟨x,h⟩ | ⟨o,h⟩<;>first | exact absurd rfl h | cases h
 case cV=>rcases h with h | ⟨s,t,h⟩ | ⟨x,h⟩ | ⟨o,h⟩<;>first | exact absurd rfl h | cases h
 all_goals exact⟨rfl,λz=>by cases z⟩
theorem lL{k:Nat}{r:Rw}(h:F[k]?=some r):stN N F x (k+1)=(fg N (stN N F x k).1 r,(stN N F x k).2++vt (stN N F x k).1 r):=by
 show(match F[k]? with
  | some r=>_
  | none=>_)=_
 rw[h]
theorem Ae(W:vz F L):∀k,k<=L->(stN N F x k).2.length<=k
 | 0,_=>az _
 | k+1,h=>by
  obtain⟨r,hr,_⟩:=W.mid k h;have:=Ae W k (by lia)
  have:=G0 (stN N F x k).1 r;rw[lL hr,bA]
  lia
theorem Hb(P:nE N F)(W:vz F L)(hx:Bd x):∀k,k<=L->nK N (stN N F x k).1
 | 0,_=>G4 N hx
 | k+1,h=>by
  obtain⟨r,hr,hl⟩:=W.mid k h;have hV:=Hb P W hx k (by lia)
  obtain⟨ok,cp,_⟩:=P.row k r hr (xF hl (stN N F x k).1 k).2;rw[lL hr];exact BH hV (ok _ hV) cp
theorem xG(W:vz F L):∀j i,i+j<=L->runN N F j i i (stN N F x i).1 (stN N F x i).2=(("more":Str),(stN N F x (i+j)).2,i+j)
 | 0,i,_=>rfl
 | j+1,i,h=>by
  obtain⟨r,hr,hl⟩:=W.mid i (by lia)
  obtain⟨h1,h2⟩:=xF hl (stN N F x i).1 i;rw[qF hr h2,h1];have:=xG W j (i+1) (by lia)
  rw[lL hr]at this;rw[this,show i+1+j=i+(j+1) by lia]
theorem xH(W:vz F L)(e:Nat):∀j i,i+j=L->runN N F (j+1+e) i i (stN N F x i).1 (stN N F x i).2=(("done":Str),(stN N F x L).2,L+1)
 | 0,i,h=>by
  have h:i=L:=by lia
  subst h;rw[show 0+1+e=e+1 by lia]
  show(match F[i]? with
   | none=>_
   | some .cV=>_
   | some r=>_)=_
  rw[W.last]
 | j+1,i,h=>by
  obtain⟨r,hr,hl⟩:=W.mid i (by lia)
  obtain⟨h1,h2⟩:=xF hl (stN N F x i).1 i;rw[show j+1+1+e=(j+1+e)+1 by lia,qF hr h2,h1]
  have:=xH W e j (i+1) (by lia)
  rw[lL hr]at this;exact this
theorem xI(W:vz F L){most:Nat}(h:most<=L):De N F most x=.aq [.str "more",.lst ((stN N F x most).2.map .int),.int (most:Int)]:=by
 unfold De;rw[show lG N x=(stN N F x 0).1 from rfl,show([]:List Int)=(stN N F x 0).2 from rfl,xG W most 0 (by lia),jZ]
theorem xJ(W:vz F L){most:Nat}(h:L<most):De N F most x=.aq [.str "done",.lst ((stN N F x L).2.map .int),.int ((L+1:Nat):Int)]:=by
 unfold De;rw[show lG N x=(stN N F x 0).1 from rfl,show([]:List Int)=(stN N F x 0).2 from rfl,show most=L+1+(most-L-1) by lia,xH W _ L 0 (by lia)]
def Dw(N:Nm)(F:List Rw)(x:Int)(most k:Nat):List aj:=if most<k then [⟨.lst,[]⟩,⟨.lst,(stN N F x most).2.map .int⟩]else [⟨.lst,[]⟩]
def Ks(most k:Nat):Nat:=if most<k then 3 else 2
theorem BJ(c:Nat)(K:bj N)(P:nE N F)(W:vz F L)(hL:L<=4000)(hx:Bd x){most:Nat}{x0 x1 x3 x9:Option PV}:∀(j k:Nat) (x8:Option PV),k+j=L->∃Dh,gH (du 8) (nX (run aP (c+4))) ((List.range' k j).map λm:Nat=>.int (m:Int)) ⟨[x0,x1,some (.aq (F.map (bH N))),x3,some (.int (most:Int)),some (.ref 0),some (.ref 1),some (.ref (Ks most k)),x8,x9],Dg N (stN N F x k).1 (stN N F x k).2 (Dw N F x most k)⟩=some (.ok .nx,⟨[x0,x1,some (.aq (F.map (bH N))),x3,some (.int (most:Int)),some (.ref 0),some (.ref 1),some (.ref (Ks most L)),Dh,x9],Dg N (stN N F x L).1 (stN N F x L).2 (Dw N F x most L)⟩)
 | 0,k,x8,h=>by
  have h:k=L:=by lia
  subst h;exact⟨x8,rfl⟩
 | j+1,k,x8,h=>by
  obtain⟨r,hr,hl⟩:=W.mid k (by lia)
  have hV:=Hb P W hx k (by lia)
  obtain⟨ok,cp,_⟩:=P.row k r hr (xF hl (stN N F x k).1 k).2;obtain⟨Dh,e2⟩:=BJ c K P W hL hx (most:=most) (x0:=x0) (x1:=x1) (x3:=x3) (x9:=x9) j (k+1) (some (.int (k:Int))) (by lia)
  have e1:=Kr c K (most:=most) (E:=Dw N F x most k) (E':=Dw N F x most (k+1)) (x0:=x0) (x1:=x1) (x3:=x3) (x7:=some (.ref (Ks most k))) (PJ:=some (.ref (Ks most (k+1)))) (x9:=x9) hr hV.z (ok _ hV) hl (aJ (Ae W k (by lia)) (by lia)) (by
   by_cases e:k=most
   ·subst e;refine .inl ⟨rfl,?_,?_⟩
    ·unfold Ks Dw;rw[if_pos (by lia),if_neg (by lia)]
     rfl
    ·unfold Dw;rw[if_pos (by lia),if_neg (by lia)]
     rfl
   ·refine .inr ⟨e,?_,?_⟩
    ·unfold Ks;by_cases h:most<k
     ·rw[if_pos h,if_pos (by lia)]
     ·rw[if_neg h,if_neg (by lia)]
    ·unfold Dw;by_cases h:most<k
     ·rw[if_pos h,if_pos (by lia)]
     ·rw[if_neg h,if_neg (by lia)])
  have es:=lL (N:=N) (x:=x) hr;rw[show fg N (stN N F x k).1 r=(stN N F x (k+1)).1 by rw[es],show(stN N F x k).2++vt (stN N F x k).1 r=(stN N F x (k+1)).2 by rw[es]]at e1
  refine⟨Dh,?_⟩;rw[List.range'_succ,aO];exact fC (s1:=⟨[x0,x1,some (.aq (F.map (bH N))),x3,some (.int (most:Int)),some (.ref 0),some (.ref 1),some (.ref (Ks most k)),some (.int (k:Int)),x9],Dg N (stN N F x k).1 (stN N F x k).2 (Dw N F x most k)⟩) rfl e1 e2
end
end bS
set_option maxHeartbeats 4000000
namespace bS
open PySem L2 L2.U
theorem Kt{n:Nat}(hn:n<=4000000):wA [.int n]=some ((List.range n).map λm:Nat=>.int (m:Int)):=by
 show(if NP 0 n=true then some (EZ 0 ((n:Int)).toNat)else none)=_
 rw[if_pos (by unfold NP;exact dA (by lia))]
 unfold EZ;simp
theorem Hc(c:Nat)(x:Int):run aP (c+1) "_law_whole" [.int x] []=some (.ok (.bl true),[]):=by
 rw[zM];simp only[↓bJ];rfl
theorem toT_ints(h:List aj)(n:Nat):∀l:List Int,dg (toT h (n+1)) (l.map PV.int)=some (l.map Tr.int)
 | []=>rfl
 | x::l=>by
  show(some (Tr.int x)).bind (λy=>(dg (toT h (n+1)) (l.map PV.int)).map λr=>y::r)=_
  rw[toT_ints h n l];rfl
theorem sT{bd:PV->List aj->Option (Option PV×List aj)}{h:List aj}(H:∀x:Int,bd (.int x) h=some (none,h)):∀l:List Int,dU bd (l.map PV.int) h=some ([],h)
 | []=>rfl
 | x::l=>by
  show(bd (.int x) h).bind (λr=>(dU bd (l.map PV.int) r.2).map λs=>(r.1.toList++s.1,s.2))=_
  rw[H x];show(dU bd (l.map PV.int) h).map _=_;rw[sT H l];rfl
theorem Ku(w:Str)(l:List Int)(n:Int){h:List aj}{i:Nat}(e:h[i]?=some ⟨.lst,l.map .int⟩):mr h (.aq [.str w,.lst (l.map .int),.int n]) (.aq [.str w,.ref i,.int n])=some (.bl true):=by
 obtain⟨m,hm⟩:∃m,gB=m+3:=⟨_,rfl⟩
 have e1:toT h (m+2) (.lst (l.map .int))=some (.lst (l.map Tr.int)):=by
  show(dg (toT h (m+1)) (l.map PV.int)).bind (Hr .lst)=_;rw[toT_ints];rfl
 have e2:toT h (m+2) (.ref i)=some (.lst (l.map Tr.int)):=by
  show((cE h (.ref i)).bind λq=>(dg (toT h (m+1)) q.snd).bind (Hr q.fst))=_
  rw[au e rfl];show(dg (toT h (m+1)) (l.map PV.int)).bind (Hr .lst)=_;rw[toT_ints];rfl
 have t:∀p,toT h (m+2) p=some (.lst (l.map Tr.int))->toT h gB (.aq [.str w,p,.int n])=some (.aq [.str w,.lst (l.map Tr.int),.int n]):=λp hp=>by
  rw[hm];show(((some (Tr.str w)).bind λx=>((toT h (m+2) p).bind λy=>((some (Tr.int n)).bind λz=>(some []).map λr=>z::r).map λr=>y::r).map λr=>x::r)).bind (Hr .aq)=_
  rw[hp];rfl
 show(((toT h gB _).bind λx=>(toT h gB _).map λy=>eqT x y).map PV.bl)=_
 rw[t _ e1,t _ e2];show some (PV.bl (eqT _ _))=_;rw[gI]
theorem Kv(c:Nat)(w:Str){l:List Int}(hl:l.length<=9000)(n:Int){h:List aj}{i:Nat}(e:h[i]?=some ⟨.lst,l.map .int⟩):run aP (c+2) "_law_told" [.aq [.str w,.lst (l.map .int),.int n],.str w,.ref i,.int n] h=some (.ok (.bl true),h):=by
 have e1:=λx=>Hc c x
 have e2:=Ku w l n e;have e3:∀h,Ht h (.lst []) (.lst [])=some (.bl false):=λh=>rfl
 have hl':l.length<=4000000:=aJ hl (by decide)
 have nw:∀x:Int,ao [.int x]=true:=λ_=>rfl
 have cp:=λx1:Option PV=>sT (bd:=wx (du 1) (IL (uA (bnd (jK (rd 1) (cf [])) (lz 0 1 (run aP (c+1) "_law_whole"))))) (rd 1) [none,x1]) (h:=h) (λx=>e2F (La:=[none,some (.int x)]) (h1:=h) rfl (by
  refine bD ?_;simp only[↓gk,e1,nw,cm,b6];rfl)) l
 rw[C1];simp only[↓bJ,e1,e2,e3,cp,hl',nw,aQ,cm,b6]
end bS
set_option maxHeartbeats 4000000
namespace bS
open PySem L2 L2.U
theorem fH{h:List aj}{i j:Int}(hj:0<j):cu h (.int i) (.int j)=some (.int (i%j)):=if_pos (dA hj)
theorem nL{h:List aj}{i j:Int}(hj:0<j/\j<1073741824):fW h (.int i) (.int j)=some (.int (i/j)):=if_pos (dA hj)
theorem LO{h:List aj}{i j:Int}(hj:(-nz<i/\i<nz)\/(-nz<j/\j<nz)):jG h (.int i) (.int j)=some (.int (i*j)):=if_pos (.inl hj)
theorem YA{ρ:List (Option PV)}{F:List PV}{v:PV}(h:F.length<=4000):iD (fU kh) (.ref 0) [v] ⟨ρ,[⟨.lst,F⟩]⟩=some (.ok .aL,⟨ρ,[⟨.lst,F++[v]⟩]⟩):=mK (h:=[⟨.lst,F⟩]) rfl h
noncomputable def cp(n:Int):Nat:=97+(n%26).toNat
def lt(n:Int):Str:=⟨#[cp n]⟩
def strOf(l:List Nat):Str:=⟨l.toArray⟩
theorem sU{a b:List Nat}(h:strOf a=strOf b):a=b:=by
 have:a.toArray=b.toArray:=dm Str.cps h;simpa using this
theorem Af(a b:List Nat):strOf a++strOf b=strOf (a++b):=by
 show Str.append _ _=_;unfold Str.append strOf;simp
theorem BK:(Str.ofString "")=strOf []:=by decide +kernel
theorem BL(l:List Nat):(strOf l).length=l.length:=by
 unfold strOf Str.length;simp
theorem Ag:∀m:Fin 26,L2.qP (Str.ofString "abcdefghijklmnopqrstuvwxyz").cps.toList ((m:Nat):Int)=some (97+(m:Nat)):=by decide +kernel
theorem sV{h:List aj}{n:Int}:br h (.str "abcdefghijklmnopqrstuvwxyz") (.int (n%26))=some (.str (lt n)):=by
 have h0:=iO n (show(26:Int)≠0 by decide)
 obtain⟨m,hm⟩:=Int.eq_ofNat_of_zero_le h0;have:=Ag ⟨m,by lia⟩
 show(if(Str.ofString "abcdefghijklmnopqrstuvwxyz").length<=gF then(L2.qP (Str.ofString "abcdefghijklmnopqrstuvwxyz").cps.toList (n%26)).map λc=>PV.str ⟨#[c]⟩else none)=_
 rw[if_pos (by decide +kernel),hm,this]
 show some (PV.str ⟨#[97+m]⟩)=some (PV.str ⟨#[cp n]⟩);unfold cp;rw[hm,jR]
theorem PK{a b:Int}(h:cp a=cp b):a%26=b%26:=by
 unfold cp at h
 lia
theorem Hd{l:List Nat}{n:Int}{h:List aj}(hl:l.length<=100):fV h (.str (strOf l)) (.str (lt n))=some (.str (strOf (l++[cp n]))):=by
 have e:fV h (.str (strOf l)) (.str (lt n))=U.sizeOk ((strOf l).length+(lt n).length) (.str (strOf l++lt n)):=rfl;rw[e,show lt n=strOf [cp n]from rfl,Af,BL,BL]
 exact if_pos (show l.length+1<=gF by have:gF=4000000:=rfl;lia)
noncomputable abbrev PL:PV:=.str "abcdefghijklmnopqrstuvwxyz"
def PM(B:List Int)(a q i:Nat):Nat:=cp (B.getD i 0+(q:Int)*(if i=a then 1 else 0))
theorem mW(c:CT){x0 x1 x6:Option PV}{h0:List aj}(B:List Int)(a q:Nat)(hB:B.length<=50):∀(VB pre:List Nat) (x8:Option PV),List.range B.length=pre++VB->∃Dh,gH (du 8) (qk c) (VB.map λn:Nat=>.int (n:Int)) ⟨[x0,x1,some PL,some (.int q),some (.lst (B.map .int)),some (.int a),x6,some (.str (strOf (pre.map (PM B a q)))),x8],h0⟩=some (.ok .nx,⟨[x0,x1,some PL,some (.int q),some (.lst (B.map .int)),some (.int a),x6,some (.str (strOf ((List.range B.length).map (PM B a q)))),Dh],h0⟩)
 | [],pre,x8,e=>⟨x8,by rw[e,cX];rfl⟩
 | i::VB,pre,x8,e=>by
  have hi:i<B.length:=tW.mp (by rw[e];simp)
  have hp:pre.length<=B.length:=by
   have:=dm List.length e;rw[oC,bA]at this
   lia
  obtain⟨Dh,h⟩:=mW c (x0:=x0) (x1:=x1) (x6:=x6) (h0:=h0) B a q hB VB (pre++[i]) (some (.int i)) (by rw[e];simp)
  simp only[dZ,aO,dP,PM]at h;refine⟨Dh,?_⟩;have hb:∀h,br h (.lst (B.map PV.int)) (.int (i:Int))=some (.int (B.getD i 0)):=λ_=>atI_nat (by rw[cJ,iJ,dy hi];rfl)
  have he:∀h,EJ h [.bl ((i:Int)==(a:Int))]=some (.int (if i=a then 1 else 0)):=λh=>by
   by_cases hh:i=a
   ·rw[if_pos hh,hh,fu];rfl
   ·rw[if_neg hh,show((i:Int)==(a:Int))=false by rw[eA];lia];rfl
  have hm:∀h,jG h (.int (q:Int)) (.int (if i=a then 1 else 0))=some (.int ((q:Int)*(if i=a then 1 else 0))):=λh=>LO (.inr (by split<;>decide))
  have hl:(pre.map (PM B a q)).length<=100:=by rw[aQ];lia
  rw[aO];refine bD ?_;simp only[↓gk,hb,he,hm,Ad,sV,Hd hl,h]
def vG(C:Int)(B:List Int)(a q:Nat):List Nat:=(List.range B.length).map (PM B a q)++(if C/49%2==1&&(q:Int)%2==1 then [cp (C/98)]else [])
theorem Di(c:CT){x1:Option PV}{C:Int}(B:List Int)(a q:Nat)(hB:B.length<=50){F:List PV}(hF:F.length<=100)(x7 x8:Option PV):∃Dh,kq c ⟨[some (.int C),x1,some PL,some (.int q),some (.lst (B.map .int)),some (.int a),some (.ref 0),x7,x8],[⟨.lst,F⟩]⟩=some (.ok .nx,⟨[some (.int C),x1,some PL,some (.int q),some (.lst (B.map .int)),some (.int a),some (.ref 0),some (.str (strOf (vG C B a q))),Dh],[⟨.lst,F++[.str (strOf (vG C B a q))]⟩]⟩):=by
 obtain⟨Dh,h⟩:=mW c (x0:=some (.int C)) (x1:=x1) (x6:=some (.ref 0)) (h0:=[⟨.lst,F⟩]) B a q hB (List.range B.length) [] x8 rfl;obtain⟨l,hl⟩:∃l,l=(List.range B.length).map (PM B a q):=⟨_,rfl⟩
 have ll:l.length<=100:=by rw[hl];simp;lia
 rw[<-hl]at h
 delta qk iI at h
 refine⟨Dh,?_⟩;have e1:j8 [⟨.lst,F⟩] [.lst (B.map .int)]=some (.int (B.length:Nat)):=by show some (PV.int (((B.map PV.int).length:Nat):Int))=_;rw[aQ]
 have e2:=Kt (n:=B.length) (by lia)
 have hF:=λρ v=>@YA ρ F v (aJ hF (by decide))
 simp only[dP,<-BK]at h;refine bD ?_;unfold vG;rw[<-hl];cases h1:C/49%2==1
 ·simp only[↓gk,h,e1,e2,Ad,h1,hF,Bool.false_and,dO,cD,cX]
 ·cases h2:(q:Int)%2==1
  ·simp only[↓gk,h,e1,e2,Ad,h1,h2,hF,ub,dO,cD,cX]
  ·simp only[↓gk,h,e1,e2,Ad,h1,h2,hF,ub,d5,sV,Hd ll]
theorem qJ(c:CT){x1:Option PV}{C:Int}(B:List Int)(a:Nat)(hB:B.length<=50):∀(qs:List Nat) (F:List PV) (x3 x7 x8:Option PV),F.length+qs.length<=100->∃x3' PJ Dh,gH (du 3) (kq c) (qs.map λn:Nat=>.int (n:Int)) ⟨[some (.int C),x1,some PL,x3,some (.lst (B.map .int)),some (.int a),some (.ref 0),x7,x8],[⟨.lst,F⟩]⟩=some (.ok .nx,⟨[some (.int C),x1,some PL,x3',some (.lst (B.map .int)),some (.int a),some (.ref 0),PJ,Dh],[⟨.lst,F++qs.map λq=>.str (strOf (vG C B a q))⟩]⟩)
 | [],F,x3,x7,x8,_=>⟨x3,x7,x8,by simp;rfl⟩
 | q::qs,F,x3,x7,x8,hz=>by
  rw[cw]at hz;obtain⟨y8,h⟩:=Di c (x1:=x1) (C:=C) B a q hB (F:=F) (by lia) x7 x8
  obtain⟨z3,z7,z8,h2⟩:=qJ c (x1:=x1) (C:=C) B a hB qs (F++[.str (strOf (vG C B a q))]) (some (.int q)) (some (.str (strOf (vG C B a q)))) y8 (by simp;lia)
  refine⟨z3,z7,z8,?_⟩;rw[aO,aO,show F++PV.str (strOf (vG C B a q))::qs.map (λq=>PV.str (strOf (vG C B a q)))=F++[PV.str (strOf (vG C B a q))]++qs.map (λq=>PV.str (strOf (vG C B a q))) by simp]
  exact fC (s1:=⟨[some (.int C),x1,some PL,some (.int q),some (.lst (B.map .int)),some (.int a),some (.ref 0),x7,x8],[⟨.lst,F⟩]⟩) rfl h h2
theorem Kw{C:Int}{B:List Int}{a q q':Nat}(hp:a<B.length)(h1:q<26)(h2:q'<26)(h:strOf (vG C B a q)=strOf (vG C B a q')):q=q':=by
 have h:=sU h;have at_:∀q:Nat,(vG C B a q)[a]?=some (cp (B.getD a 0+(q:Int))):=λq=>by
  unfold vG;rw[fj (by simp;lia),cJ,yf hp]
  simp[PM]
 have e:=dm (λl=>l[a]?) h
 simp only[at_]at e;have:=PK (bC e)
 lia
theorem PN{C:Int}{B:List Int}{a q:Nat}(h1:1<=B.length):strOf (vG C B a q)≠"":=λh=>by
 have h:strOf (vG C B a q)=strOf []:=h.trans BK;have:=dm List.length (sU h);unfold vG at this;rw[bA,aQ,oC]at this;have:B.length+_=0:=this
 lia
noncomputable def nmX(N:Nat->Str):List Str:=(List.range 6).map N
theorem Kx(k:Nat)(C:Int):∃N:Nat->Str,(∀i j,i<6->j<6->N i=N j->i=j)/\(∀i,N i≠"")/\run aP (k+1) "_law_names" [.int C,.int 6] []=some (.ok (.ref 0),[⟨.lst,(nmX N).map .str⟩]):=by
 obtain⟨ln,Qe⟩:∃ln:Nat,1+C%7=(ln:Int):=⟨(1+C%7).toNat,by lia⟩
 obtain⟨B,hB⟩:∃B:List Int,B=(List.range ln).map λi:Nat=>(C/7/((i:Int)*i+1)+5*(i:Int))%26:=⟨_,rfl⟩
 have Bl:B.length=ln:=by rw[hB];simp
 obtain⟨a,ha⟩:∃a:Nat,C/7%(ln:Int)=(a:Int):=⟨(C/7%(ln:Int)).toNat,(yi (iO _ (by lia))).symm⟩
 have hal:a<B.length:=by
  have:=oy (C/7) (show(0:Int)<(ln:Int) by lia)
  lia
 obtain⟨x3,x7,x8,h⟩:=qJ (run aP k) (x1:=some (.int 6)) (C:=C) B a (by lia) (List.range 6) [] none none none (by simp)
 refine⟨λq=>strOf (vG C B a q),λi j hi hj e=>Kw hal (by lia) (by lia) e,λi=>PN (by lia),?_⟩
 have e1:=Kt (n:=ln) (by lia)
 have e2:∀i∈List.range ln,∀h,jG h (.int (i:Int)) (.int (i:Int))=some (.int ((i:Int)*i)):=λi hi h=>LO (.inl (by have:=tW.mp hi;have:(nz:Int)=18446744073709551616:=rfl;lia))
 have e3:∀i∈List.range ln,∀h (a:Int),fW h (.int a) (.int ((i:Int)*i+1))=some (.int (a/((i:Int)*i+1))):=λi hi h a=>by
  have hi:=tW.mp hi;have i0:(0:Int)<=(i:Int)*i:=Int.mul_nonneg (by lia) (by lia)
  have i49:(i:Int)*i<=49:=by
   rcases i with _ | _ | _ | _ | _ | _ | _ | _<;>first | lia | decide
  exact nL (by lia)
 have e4:∀i∈List.range ln,∀h,jG h (.int 5) (.int (i:Int))=some (.int (5*(i:Int))):=λi hi h=>LO (.inl (by decide))
 have e5:(List.range ln).length<=4000000:=by rw[oC];lia
 have e6:(List.range ln).map (λi:Nat=>PV.int ((C/7/((i:Int)*i+1)+5*(i:Int))%26))=B.map .int:=by rw[hB,oN];rfl
 have e7:∀h,cu h (.int (C/7)) (.int (ln:Int))=some (.int (a:Int)):=λh'=>by rw[fH (by lia),ha]
 have e8:∀(f:Nat->PV) h,j8 h [.lst ((List.range ln).map f)]=some (.int (ln:Int)):=λf h'=>by show some (PV.int ((((List.range ln).map f).length:Nat):Int))=_;rw[aQ,oC]
 have e9:wA [.int 6]=some ((List.range 6).map λm:Nat=>.int (m:Int)):=Kt (n:=6) (by decide)
 delta kq iI at h
 rw[fO,<-e6]at h;rw[zN];simp only[↓bJ,Qe,e1,e2,e3,e4,e5,e7,e8,e9,h,aQ];rfl
end bS
set_option maxHeartbeats 4000000
namespace bS
open PySem L2 L2.U
noncomputable def fJ(N:Nat->Str)(z y:Nat):Nm:=⟨N 0,N 1,N 2,N 3,N 4,N 5,z,y⟩
def iH(N:Nat->Str):PV:=.lst [.str (N 0),.str (N 1),.str (N 2),.str (N 3),.str (N 4),.str (N 5)]
def oq(z y:Nat):PV:=.lst [.int (z:Int),.int (y:Int)]
def HB(M:Nm):Sp->Prop
 | .i (.at i)=>i<M.z
 | .j (.at i)=>i<M.y
 | .c=>False
 | .s=>False
 | _=>True
def LP(M:Nm):Op->Prop
 | .num i=>Bd i
 | .sp s=>HB M s
theorem qK(x:Int):Bd (x%qR):=⟨iO _ (by decide +kernel),oy _ (by decide +kernel)⟩
theorem HB.a{M:Nm}{V:Vs}(z:Vz M V){s:Sp}(h:HB M s):Pj V s:=by
 cases s with
 | i x=>cases x with
  | «at» i=>exact(show i<V.c.length by rw[z.c];exact h)
  | _=>trivial
 | j x=>cases x with
  | «at» i=>exact(show i<V.s.length by rw[z.s];exact h)
  | _=>trivial
 | c=>exact h
 | s=>exact h
 | _=>trivial
theorem LP.a{M:Nm}{V:Vs}(K:nK M V){o:Op}(h:LP M o):GN V o/\Bd (opV V o):=by
 cases o with
 | num i=>exact⟨trivial,h⟩
 | sp s =>
  refine⟨?_,LJ K s⟩;have:=HB.a K.z h;cases s with
  | i x=>cases x<;>exact this
  | j x=>cases x<;>exact this
  | c=>exact this
  | s=>exact this
  | _=>trivial
theorem He(k:Int){n:Nat}(hn:0<n):∃p:Nat,k%(n:Int)=(p:Int)/\p<n:=⟨(k%(n:Int)).toNat,(yi (iO _ (by lia))).symm,by have:=oy k (show(0:Int)<n by lia);have:=iO k (show(n:Int)≠0 by lia);lia⟩
theorem eR{f g:Gx dE}{n:Nat}{ps qs:List PV}{h:List aj}(e:f ⟨fy n ps,h⟩=some (.ok .nx,⟨fy n qs,h⟩)):gj (pM f g) n ps h=gj g n qs h:=by
 show(pM f g _).bind Lf=_;rw[show pM f g _=_ from eB e rfl]
 rfl
theorem BM(c:Nat){N:Nat->Str}{z y:Nat}(K:bj (fJ N z y))(k:Int):∃s,HB (fJ N z y) s/\run aP (c+1) "_law_spot" [iH N,oq z y,.int k] []=some (.ok (fE (fJ N z y) s),[]):=by
 have z1:1<=z:=K.z1;have y1:1<=y:=K.y1;obtain⟨m,hm⟩:∃m,k/6%8=m:=⟨_,rfl⟩
 obtain⟨p,hp,hpz⟩:=He m (n:=z) (by lia)
 obtain⟨q,hq,hqy⟩:=He m (n:=y) (by lia)
 have e1:∀h,fW h (.int k) (.int 6)=some (.int (k/6)):=λh=>nL (by decide)
 have e2:∀h,cu h (.int (k/6)) (.int 8)=some (.int m):=λh=>by rw[fH (by decide),hm]
 have e3:∀h,fW h (.int k) (.int 48)=some (.int (k/48)):=λh=>nL (by decide)
 have e4:∀h,cu h (.int m) (.int (z:Int))=some (.int (p:Int)):=λh=>by rw[fH (by lia),hp]
 have e5:∀h,cu h (.int m) (.int (y:Int))=some (.int (q:Int)):=λh=>by rw[fH (by lia),hq]
 have n1:∀h,mr h .aL (.int m)=some (.bl false):=λh=>rfl
 have n2:∀h s,mr h (.str s) (.int m)=some (.bl false):=λh s=>rfl
 have n3:∀h,mr h (.int m) (.int m)=some (.bl true):=λh=>by rw[Ad,fu]
 have n4:∀h,mr h (.str (N 2)) (.str (N 4))=some (.bl false):=λh=>by rw[nZ,show(N 2==N 4)=false from K.b (x:=.c) (y:=.e) (by decide)]
 have n5:∀h,mr h (.str (N 4)) (.str (N 4))=some (.bl true):=λh=>by rw[nZ,fu]
 have l3:∀a b d:PV,[a,b,d].length<=4000000:=λ_ _ _=>by simp
 have l6:∀a b d e f g:PV,[a,b,d,e,f,g].length<=4000000:=λ_ _ _ _ _ _=>by simp
 have K5:∀h a b d e,Ck h none (some 3) (.aq [a,b,d,e])=some (.aq [a,b,d]):=λh a b d e=>rfl
 obtain⟨x,w,i,h3,e6,hw⟩:∃(x:Ix) (w:PV) (i:Int),k/48%3=i/\(∀h,br h (.lst [.int m,.str (N 0),.str (N 1)]) (.int i)=some w)/\((w=.int m)\/(∃s,w=.str s)/\w=xo (fJ N z y) x/\HB (fJ N z y) (.i x)/\HB (fJ N z y) (.j x)):=by
  rcases(by lia : k/48%3=0\/k/48%3=1\/k/48%3=2)with h | h | h
  ·exact⟨.a,_,_,h,λ_=>rfl,.inl rfl⟩
  ·exact⟨.a,_,_,h,λ_=>rfl,.inr ⟨⟨_,rfl⟩,rfl,trivial,trivial⟩⟩
  ·exact⟨.b,_,_,h,λ_=>rfl,.inr ⟨⟨_,rfl⟩,rfl,trivial,trivial⟩⟩
 have e7:∀h,cu h (.int (k/48)) (.int 3)=some (.int i):=λh=>by rw[fH (by decide),h3]
 obtain⟨S3,HC⟩:∃S:List PV,S=[.aq [.str (N 0),.bl false,.aq [],.aL],.aq [.str (N 1),.bl false,.aq [],.aL],.aq [.str (N 2),.bl false,.aq [],w]]:=⟨_,rfl⟩
 obtain⟨S6,PQ⟩:∃S:List PV,S=S3++[.aq [.str (N 3),.bl false,.aq [],.aL],.aq [.str (N 4),.bl false,.aq [.int 0],.aL],.aq [.str (N 4),.bl false,.aq [.int 1],w]]:=⟨_,rfl⟩
 rw[CZ,eR (qs:=[iH N,oq z y,.int k,w]),eR (qs:=[iH N,oq z y,.int k,w,.lst S3]),eR (qs:=[iH N,oq z y,.int k,w,.lst S6])]
 rotate_left
 ·rw[PQ,HC];exact bD (by simp only[↓gk,iH,l3];rfl)
 ·rw[HC];exact bD (by simp only[↓gk,iH,l3];rfl)
 ·exact bD (by simp only[↓gk,iH,e1,e2,e3,e6,e7,l3];rfl)
 have UM:(∃(s:Sp) (X:Str) (P:PV) (t:Int),HB (fJ N z y) s/\k%6=t/\(∀h,br h (.lst S6) (.int t)=some (.aq [.str X,.bl false,P,.aL]))/\fE (fJ N z y) s=.aq [.str X,.bl false,P,.aL])\/k%6=2\/k%6=5:=by
  rcases(by lia : k%6=0\/k%6=1\/k%6=2\/k%6=3\/k%6=4\/k%6=5)with h | h | h | h | h | h
  ·exact .inl ⟨.a,_,_,_,trivial,h,λg=>by rw[PQ,HC];rfl,rfl⟩
  ·exact .inl ⟨.b,_,_,_,trivial,h,λg=>by rw[PQ,HC];rfl,rfl⟩
  ·exact .inr (.inl h)
  ·exact .inl ⟨.d,_,_,_,trivial,h,λg=>by rw[PQ,HC];rfl,rfl⟩
  ·exact .inl ⟨.n,_,_,_,trivial,h,λg=>by rw[PQ,HC];rfl,rfl⟩
  ·exact .inr (.inr h)
 rcases UM with⟨s,X,P,t,hs,h1,h2,h3⟩ | h | h
 ·have e8:∀g,cu g (.int k) (.int 6)=_:=λg=>by rw[fH (by decide),h1]
  refine⟨s,hs,?_⟩;rw[h3];simp only[↓bJ,e1,e2,e8,h2,n1]
 ·have e8:∀g,cu g (.int k) (.int 6)=_:=λg=>by rw[fH (by decide),h]
  have e9:∀g,br g (.lst S6) (.int 2)=some (.aq [.str (N 2),.bl false,.aq [],w]):=λg=>by rw[PQ,HC];rfl
  rcases hw with rfl | ⟨⟨s,rfl⟩,hx,w1,w2⟩
  ·exact⟨.i (.at p),hpz,by simp only[↓bJ,iH,oq,e1,e2,e4,e8,e9,n3,n4,K5];rfl⟩
  ·refine⟨.i x,w1,?_⟩;rw[show fE (fJ N z y) (.i x)=.aq [.str (N 2),.bl false,.aq [],.str s] by rw[hx];rfl]
   simp only[↓bJ,e1,e2,e8,e9,n2]
 ·have e8:∀g,cu g (.int k) (.int 6)=_:=λg=>by rw[fH (by decide),h]
  have e9:∀g,br g (.lst S6) (.int 5)=some (.aq [.str (N 4),.bl false,.aq [.int 1],w]):=λg=>by rw[PQ,HC];rfl
  rcases hw with rfl | ⟨⟨s,rfl⟩,hx,w1,w2⟩
  ·exact⟨.j (.at q),hqy,by simp only[↓bJ,iH,oq,e1,e2,e5,e8,e9,n3,n5,K5];rfl⟩
  ·refine⟨.j x,w2,?_⟩;rw[show fE (fJ N z y) (.j x)=.aq [.str (N 4),.bl false,.aq [.int 1],.str s] by rw[hx];rfl]
   simp only[↓bJ,e1,e2,e8,e9,n2]
theorem qL(c:Nat){N:Nat->Str}{z y:Nat}(K:bj (fJ N z y))(k q:Int):∃o,LP (fJ N z y) o/\run aP (c+2) "_law_operand" [iH N,oq z y,.int k,.int q] []=some (.ok (gm (fJ N z y) o),[]):=by
 have e4:=λh=>GP (h:=h)
 have e5:=λh x=>qA (h:=h) (x:=x)
 have e1:∀h,jG h (.int q) (.int 982451653)=some (.int (q*982451653)):=λh=>LO (.inr (by decide))
 have e3:∀h,fW h (.int k) (.int 3)=some (.int (k/3)):=λh=>nL (by decide)
 have m3:∀h x,cu h (.int x) (.int 3)=some (.int (x%3)):=λh x=>fH (by decide)
 have q0:∀h x,mr h (.int x) (.int 0)=some (.bl (x==0)):=λh x=>rfl
 obtain⟨s,hs,e7⟩:=BM c K (k/3);have nr:∀x:Int,ao [iH N,oq z y,.int x]=true:=λ_=>rfl
 rw[vd];cases h1:k%3==0
 ·exact⟨.sp s,hs,by simp only[↓bJ,e1,e3,e4,e5,m3,q0,h1,e7,nr,cm,b6];rfl⟩
 ·exact⟨.num _,qK _,by simp only[↓bJ,e1,e3,e4,e5,m3,q0,h1];rfl⟩
end bS
set_option maxHeartbeats 4000000
namespace bS
open PySem L2 L2.U
def Ky(M:Nm):Rw->Prop
 | .put s o=>HB M s/\LP M o
 | .fill s o=>(s=.c\/s=.s)/\LP M o
 | .set s _ o p=>HB M s/\LP M o/\LP M p
 | .dH s t=>(BC s=true/\BC t=true)\/(Du s=true/\Du t=true/\LD M s=LD M t)
 | .gp _=>True
 | .jj o=>LP M o
 | _=>False
theorem YB(k:Int):k%2=0\/k%2=1:=by lia
theorem Kz(k:Int):k%3=0\/k%3=1\/k%3=2:=by lia
theorem Hf(N:Nat->Str)(z y:Nat)(k:Int):∃i s,k%2=i/\(s=.c\/s=.s)/\∀h,br h (.lst [.aq [.str (N 2),.bl false,.aq [],.aL],.aq [.str (N 4),.bl false,.aq [.int 1],.aL]]) (.int i)=some (fE (fJ N z y) s):=by
 rcases YB k with h | h
 ·exact⟨_,.c,h,.inl rfl,λ_=>rfl⟩
 ·exact⟨_,.s,h,.inr rfl,λ_=>rfl⟩
theorem LQ(N:Nat->Str)(z y:Nat)(k:Int):∃i s,k%3=i/\BC s=true/\∀h,br h (.lst [.aq [.str (N 0),.bl false,.aq [],.aL],.aq [.str (N 1),.bl false,.aq [],.aL],.aq [.str (N 4),.bl false,.aq [.int 0],.aL]]) (.int i)=some (fE (fJ N z y) s):=by
 rcases Kz k with h | h | h
 ·exact⟨_,.a,h,rfl,λ_=>rfl⟩
 ·exact⟨_,.b,h,rfl,λ_=>rfl⟩
 ·exact⟨_,.n,h,rfl,λ_=>rfl⟩
theorem Dj(c:Nat){N:Nat->Str}{z y:Nat}(k:Int):∃r,Ky (fJ N z y) r/\run aP (c+1) "_law_copied" [iH N,oq z y,.int k] []=some (.ok (bH (fJ N z y) r),[]):=by
 have d3:∀h,fW h (.int k) (.int 3)=some (.int (k/3)):=λh=>nL (by decide)
 have d6:∀h,fW h (.int k) (.int 6)=some (.int (k/6)):=λh=>nL (by decide)
 have d9:∀h,fW h (.int k) (.int 9)=some (.int (k/9)):=λh=>nL (by decide)
 obtain⟨i1,s1,h1,q1,e1⟩:=Hf N z y (k/3);obtain⟨i2,s2,h2,q2,e2⟩:=Hf N z y (k/6);obtain⟨i3,s3,h3,q3,e3⟩:=LQ N z y (k/3);obtain⟨i4,s4,h4,q4,e4⟩:=LQ N z y (k/9);have f1:∀h,cu h (.int (k/3)) (.int 2)=some (.int i1):=λh=>by rw[fH (by decide),h1]
 have f2:∀h,cu h (.int (k/6)) (.int 2)=some (.int i2):=λh=>by rw[fH (by decide),h2]
 have f3:∀h,cu h (.int (k/3)) (.int 3)=some (.int i3):=λh=>by rw[fH (by decide),h3]
 have f4:∀h,cu h (.int (k/9)) (.int 3)=some (.int i4):=λh=>by rw[fH (by decide),h4]
 have i3b:∃x:N5,∀h,(fV h (.int 2) (.int i3)).bind (λj=>br h (iH N) j)=some (.str ((fJ N z y).n x)):=by
  rcases Kz (k/3)with h | h | h<;>(rw[h]at h3;subst h3)
  ·exact⟨.c,λ_=>rfl⟩
  ·exact⟨.d,λ_=>rfl⟩
  ·exact⟨.e,λ_=>rfl⟩
 obtain⟨x,e5⟩:=i3b;have e5:∃j,(∀h,fV h (.int 2) (.int i3)=some (.int j))/\∀h,br h (iH N) (.int j)=some (.str ((fJ N z y).n x)):=⟨2+i3,λ_=>rfl,λh=>e5 h⟩
 obtain⟨j,e5,e6⟩:=e5;have e7:∀h,br h (iH N) (.int 0)=some (.str (N 0)):=λ_=>rfl
 have e8:∀h,br h (iH N) (.int 1)=some (.str (N 1)):=λ_=>rfl
 have e9:∀h,br h (iH N) (.int 2)=some (.str (N 2)):=λ_=>rfl
 have e10:∀h,br h (iH N) (.int 4)=some (.str (N 4)):=λ_=>rfl
 have l2:∀a b:PV,[a,b].length<=4000000:=λ_ _=>by simp
 have l3:∀a b d:PV,[a,b,d].length<=4000000:=λ_ _ _=>by simp
 have q0:∀h,mr h (.int (z:Int)) (.int (y:Int))=some (.bl ((z:Int)==(y:Int))):=λh=>rfl
 have t0:∀h,mr h (.int (0:Int)) (.int 0)=some (.bl true):=λh=>rfl
 rw[xh];rcases Kz k with h | h | h
 all_goals have m3:∀g,cu g (.int k) (.int 3)=_:=λg=>by rw[fH (by decide),h]
 ·cases YC:(z:Int)==(y:Int)
  ·exact⟨.dH s3 s4,.inl ⟨q3,q4⟩,by simp only[↓bJ,oq,d3,d9,f3,f4,m3,e3,e4,e7,e8,e9,e10,l2,l3,q0,YC];rfl⟩
  ·have UN:z=y:=by have:=gX.mp YC;lia
   refine⟨.dH s1 s2,.inr ⟨by rcases q1 with rfl | rfl<;>rfl,by rcases q2 with rfl | rfl<;>rfl,by rcases q1 with rfl | rfl<;>rcases q2 with rfl | rfl<;>first | rfl | exact UN | exact UN.symm⟩,by simp only[↓bJ,oq,d3,d6,f1,f2,m3,e1,e2,e7,e8,e9,e10,l2,l3,q0,YC];rfl⟩
 ·exact⟨.gp x,trivial,by simp only[↓bJ,oq,d3,f3,m3,e5,e6,e7,e8,e9,e10,l2,l3,q0];rfl⟩
 ·exact⟨.dH s3 s4,.inl ⟨q3,q4⟩,by simp only[↓bJ,oq,d3,d9,f3,f4,m3,e3,e4,e7,e8,e9,e10,l2,l3,q0];rfl⟩
end bS
set_option maxHeartbeats 4000000
namespace bS
open PySem L2 L2.U
theorem PR(c:Nat){N:Nat->Str}{z y:Nat}(K:bj (fJ N z y))(k:Int):∃r,Ky (fJ N z y) r/\run aP (c+3) "_law_row" [iH N,oq z y,.int k] []=some (.ok (bH (fJ N z y) r),[]):=by
 have w1:∀h,jG h (.int k) (.int 48271)=some (.int (k*48271)):=λh=>LO (.inr (by decide))
 have w2:∀h,jG h (.int k) (.int 69621)=some (.int (k*69621)):=λh=>LO (.inr (by decide))
 have w3:∀h,jG h (.int k) (.int 16807)=some (.int (k*16807)):=λh=>LO (.inr (by decide))
 obtain⟨c0,hc0⟩:∃c0,k*48271%2147483647=c0:=⟨_,rfl⟩
 obtain⟨c1,W4⟩:∃c0,k*69621%2147483629=c0:=⟨_,rfl⟩
 obtain⟨c2,MW⟩:∃c0,k*16807%2147483587=c0:=⟨_,rfl⟩
 have v1:∀h,cu h (.int (k*48271)) (.int 2147483647)=some (.int c0):=λh=>by rw[fH (by decide),hc0]
 have v2:∀h,cu h (.int (k*69621)) (.int 2147483629)=some (.int c1):=λh=>by rw[fH (by decide),W4]
 have v3:∀h,cu h (.int (k*16807)) (.int 2147483587)=some (.int c2):=λh=>by rw[fH (by decide),MW]
 obtain⟨o,ho,eo⟩:=qL c K c1 k;obtain⟨p,hp,ep⟩:=qL c K c2 (k+1);obtain⟨s,hs,es⟩:=BM (c+1) K c0;obtain⟨r,hr,ec⟩:=Dj (c+1) (N:=N) (z:=z) (y:=y) c0;have l3:∀a b d:PV,[a,b,d].length<=4000000:=λ_ _ _=>by simp
 have nr1:∀x y':Int,ao [iH N,oq z y,.int x,.int y']=true:=λ_ _=>rfl
 have Uy:∀x:Int,ao [iH N,oq z y,.int x]=true:=λ_=>rfl
 obtain⟨n,hn,n0,n9⟩:∃n,k%9=n/\0<=n/\n<9:=⟨_,rfl,by lia,by lia⟩
 have v9:∀h,cu h (.int k) (.int 9)=some (.int n):=λh=>by rw[fH (by decide),hn]
 have qq:∀h (j:Int),mr h (.int n) (.int j)=some (.bl (n==j)):=λh j=>rfl
 have tt:∀h (j:Int),RQ h (.int n) (.int j)=some (.bl (decide (n<j))):=λh j=>rfl
 have d9:∀h,fW h (.int k) (.int 9)=some (.int (k/9)):=λh=>nL (by decide)
 obtain⟨g,i,hi,eg⟩:∃g i,k/9%3=i/\∀h,br h (.str "+-*") (.int i)=some (.str (Bq g)):=by
  rcases Kz (k/9)with h | h | h
  ·exact⟨.add,_,h,λ_=>rfl⟩
  ·exact⟨.sub,_,h,λ_=>rfl⟩
  ·exact⟨.mul,_,h,λ_=>rfl⟩
 have m3:∀h,cu h (.int (k/9)) (.int 3)=some (.int i):=λh=>by rw[fH (by decide),hi]
 obtain⟨i2,s2,h2,q2,e2⟩:=Hf N z y c0;have m2:∀h,cu h (.int c0) (.int 2)=some (.int i2):=λh=>by rw[fH (by decide),h2]
 have e9:∀h,br h (iH N) (.int 2)=some (.str (N 2)):=λ_=>rfl
 have e10:∀h,br h (iH N) (.int 4)=some (.str (N 4)):=λ_=>rfl
 have l2:∀a b:PV,[a,b].length<=4000000:=λ_ _=>by simp
 have ad:∀h,fV h (.int k) (.int 1)=some (.int (k+1)):=λh=>rfl
 rw[Gn,eR (qs:=[iH N,oq z y,.int k,.lst [.int c0,.int c1,.int c2]]),eR (qs:=[iH N,oq z y,.int k,.lst [.int c0,.int c1,.int c2],gm (fJ N z y) o])]
 rotate_left
 ·exact bD (by simp only[↓gk,eo,nr1];rfl)
 ·exact bD (by simp only[↓gk,w1,w2,w3,v1,v2,v3,l3];rfl)
 rcases(by lia : (n=0\/n=1)\/(n=2\/n=3\/n=4)\/n=5\/n=6\/(n=7\/n=8))with h | h | rfl | rfl | h
 ·have b1:decide (n<2)=true:=by rcases h with rfl | rfl<;>rfl
  exact⟨.put s o,⟨hs,ho⟩,by simp only[↓bJ,v9,tt,b1,es,Uy];rfl⟩
 ·have b1:decide (n<2)=false:=by rcases h with rfl | rfl | rfl<;>rfl
  have b2:decide (n<5)=true:=by rcases h with rfl | rfl | rfl<;>rfl
  exact⟨.set s g o p,⟨hs,ho,hp⟩,by simp only[↓bJ,v9,tt,b1,b2,es,ep,nr1,Uy,ad,eg,m3,d9];rfl⟩
 ·exact⟨.fill s2 o,⟨q2,ho⟩,by simp only[↓bJ,v9,m2,e2,e9,e10,l2];rfl⟩
 ·exact⟨r,hr,by simp only[↓bJ,v9,ec,Uy]⟩
 ·have b1:decide (n<2)=false:=by rcases h with rfl | rfl<;>rfl
  have b2:decide (n<5)=false:=by rcases h with rfl | rfl<;>rfl
  have b3:(n==5)=false:=by rcases h with rfl | rfl<;>rfl
  have b4:(n==6)=false:=by rcases h with rfl | rfl<;>rfl
  exact⟨.jj o,ho,by simp only[↓bJ,v9,qq,tt,b1,b2,b3,b4];rfl⟩
end bS
set_option maxHeartbeats 4000000
namespace bS
open PySem L2 L2.U
noncomputable def cell(ns:List Int)(i:Nat):Int:=ns.getD i 0
theorem qM(k:Nat)(ns:List Int)(i:Nat):run aP (k+1) "_law_cell_at" [nW ns,.int (i:Int)] []=some (.ok (.int (cell ns i)),[]):=by
 rw[vc];have ln:j8 [] [nW ns]=some (.int (ns.length:Int)):=by
  show some (PV.int (((ns.map PV.int).length:Nat):Int))=_;rw[aQ]
 unfold cell;rw[iJ];by_cases hi:i<ns.length
 ·have e:br [] (nW ns) (.int (i:Int))=some (.int ns[i]):=atI_nat (by rw[cJ,dy hi];rfl)
  simp only[↓bJ,ln,e,dA (show(i:Int)<(ns.length:Int) by lia),dy hi,Option.getD_some]
 ·simp only[↓bJ,ln,cL (show ¬(i:Int)<(ns.length:Int) by lia),td (yr hi),yt]
theorem PU{ns:List Int}(hl:ns.length<=63):∃ms:List Int,ms.length<=63/\∀h,Ck h (some 5) (some 25) (nW ns)=some (.lst (ms.map .int)):=by
 refine⟨(ns.drop (HT.dF ns.length 0 (some 5))).take (HT.dF ns.length ns.length (some 25)-HT.dF ns.length 0 (some 5)),?_,λh=>?_⟩
 ·rw[lU,tK]
  lia
 show some (PV.lst (iC (ns.map PV.int) (some 5) (some 25)))=_;unfold iC;rw[aQ,t8,ua]
def Hg(x y w:Int):List Rw:=[.put .b (.num x),.fill .c (.num y),.put .d (.num w),.put .n (.sp .a),.fill .s (.sp .a)]
def nM(t:Nat)(x y w:Int):List Rw:=(Hg x y w).drop t++(Hg x y w).take t
theorem BN{t:Nat}(ht:t<5){x y w:Int}:(nM t x y w).length=5:=by
 rcases(by lia : t=0\/t=1\/t=2\/t=3\/t=4)with rfl | rfl | rfl | rfl | rfl<;>rfl
theorem LR{M:Nm}{r:Rw}(h:Ky M r):Yz r:=by
 cases r with
 | put s o=>exact .inl (by simp[xO])
 | fill s o=>exact .inl (by simp[xO])
 | set s g o p=>exact .inl (by simp[xO])
 | dH s t=>exact .inr (.inl ⟨s,t,rfl⟩)
 | gp x=>exact .inr (.inr (.inl ⟨x,rfl⟩))
 | jj o=>exact .inr (.inr (.inr ⟨o,rfl⟩))
 | _=>exact absurd h id
theorem PX{M:Nm}{r:Rw}(hm:Ky M r):(∀V,nK M V->qE M V r)/\Pu M r:=by
 cases r with
 | put s o=>exact⟨λV K=>⟨λp hp=>by rw[cj.mp hp];exact hm.2.a K,(λt ht=>by cases ht;exact .inl ⟨⟨_,rfl⟩,hm.1.a K.z⟩),(λ_ _ z=>by cases z),(λz=>by cases z)⟩,trivial⟩
 | fill s o=>exact⟨λV K=>⟨λp hp=>by rw[cj.mp hp];exact hm.2.a K,(λt ht=>by cases ht;exact .inr (.inl ⟨⟨_,rfl⟩,hm.1⟩)),(λ_ _ z=>by cases z),(λz=>by cases z)⟩,trivial⟩
 | set s g o p=>exact⟨λV K=>⟨λq hq=>by
    simp only[cg,aW,cK,cM]at hq;rcases hq with rfl | rfl
    ·exact hm.2.1.a K
    ·exact hm.2.2.a K,(λt ht=>by cases ht;exact .inr (.inr ⟨⟨_,_,_,rfl⟩,hm.1.a K.z⟩)),(λ_ _ z=>by cases z),(λz=>by cases z)⟩,trivial⟩
 | dH s t=>exact⟨λV K=>⟨(λp hp=>by cases hp),(λt ht=>by cases ht),(λa b z=>by cases z;exact hm.imp id λh=>⟨h.1,h.2.1⟩),(λz=>by cases z)⟩,hm⟩
 | gp x=>exact⟨λV K=>⟨(λp hp=>by cases hp),(λt ht=>by cases ht),(λ_ _ z=>by cases z),(λz=>by cases z)⟩,trivial⟩
 | jj o=>exact⟨λV K=>⟨λp hp=>by rw[cj.mp hp];exact hm.a K,(λt ht=>by cases ht),(λ_ _ z=>by cases z),(λz=>by cases z)⟩,trivial⟩
 | _=>exact absurd hm id
theorem Ga{M:Nm}{R:List Rw}{x y w:Int}{t:Nat}(ht:t<5)(hx:Bd x)(hy:Bd y)(hw:Bd w)(hR:∀r∈R,Ky M r):nE M (nM t x y w++R++[Rw.cV])/\vz (nM t x y w++R++[Rw.cV]) (R.length+5):=by
 have hl:=BN ht (x:=x) (y:=y) (w:=w);have len:(nM t x y w++R++[Rw.cV]).length=R.length+5+1:=by simp[hl];lia
 have hF:∀r∈nM t x y w++R,Ky M r:=λr hr=>by
  rcases dk.mp hr with hr | hr
  ·have hr:r∈Hg x y w:=by
    rcases dk.mp hr with hr | hr
    ·exact yc hr
    ·exact yd hr
   simp only[Hg,aW,cK,cM]at hr;rcases hr with rfl | rfl | rfl | rfl | rfl
   ·exact⟨trivial,hx⟩
   ·exact⟨.inl rfl,hy⟩
   ·exact⟨trivial,hw⟩
   ·exact⟨trivial,trivial⟩
   ·exact⟨.inr rfl,trivial⟩
  ·exact hR r hr
 have at_:∀k,k<R.length+5->∃r,(nM t x y w++R++[Rw.cV])[k]?=some r/\Ky M r:=λk hk=>by
  have h:k<(nM t x y w++R).length:=by rw[bA,hl];lia
  exact⟨(nM t x y w++R)[k],by rw[fj h,dy h],hF _ (yu h)⟩
 refine⟨⟨λi r hr hg=>?_⟩,len,?_,λk hk=>?_⟩
 ·have hi:i<R.length+5:=by
   by_cases h:i<R.length+5
   ·exact h
   ·rw[gQ (by rw[bA,hl];lia)]at hr
    cases cj.mp (tu hr);exact absurd rfl hg
  obtain⟨r',hr',hm⟩:=at_ i hi;cases hr.symm.trans hr';obtain⟨h1,h2⟩:=PX hm;exact⟨h1,h2,λV=>by rw[(xF (LR hm) V i).1,len];lia⟩
 ·rw[gQ (by rw[bA,hl];lia),bA,hl,show R.length+5-(5+R.length)=0 by lia]
  rfl
 ·obtain⟨r,h1,h2⟩:=at_ k hk;exact⟨r,h1,LR h2⟩
end bS
set_option maxHeartbeats 4000000
namespace bS
open PySem L2 L2.U
theorem BO(l:List Int):ao (l.map PV.int)=true:=fF (λ_=>rfl) l
theorem xK(c:Nat){N:Nat->Str}{z y:Nat}(K:bj (fJ N z y)){x0 x2 x4 x5 x6 x8:Option PV}{h0:List aj}(h4:h0.length=5):∀(L:List Int) (F:List PV) (x9:Option PV),F.length+L.length<=100 ->
  ∃(R:List Rw) (YD:Option PV),(∀r∈R,Ky (fJ N z y) r)/\R.length=L.length/\gH (du 9) (ij (run aP (c+3))) (L.map .int) ⟨[x0,some (iH N),x2,some (oq z y),x4,x5,x6,some (.ref 5),x8,x9],h0++[⟨.lst,F⟩]⟩=some (.ok .nx,⟨[x0,some (iH N),x2,some (oq z y),x4,x5,x6,some (.ref 5),x8,YD],h0++[⟨.lst,F++R.map (bH (fJ N z y))⟩]⟩)
 | [],F,x9,_=>⟨[],x9,(λ_ h=>by cases h),rfl,by rw[dP,dP,cX];rfl⟩
 | k::L,F,x9,hl=>by
  rw[cw]at hl;obtain⟨r,hr,er⟩:=PR c K k;obtain⟨R,YD,h1,h2,h3⟩:=xK c K h4 (x0:=x0) (x2:=x2) (x4:=x4) (x5:=x5) (x6:=x6) (x8:=x8) L (F++[bH (fJ N z y) r]) (some (.int k)) (by simp;lia)
  refine⟨r::R,YD,?_,by simp[h2],?_⟩
  ·intro q hq;rcases aW.mp hq with rfl | hq
   ·exact hr
   ·exact h1 q hq
  have ap:∀ρ v,iD (fU kh) (.ref 5) [v] ⟨ρ,h0++[⟨.lst,F⟩]⟩=some (.ok .aL,⟨ρ,h0++[⟨.lst,F++[v]⟩]⟩):=λρ v=>by
   have:=oh (h:=h0) (L:=F) (v:=v) (ρ:=ρ) (by lia)
   rw[h4]at this;exact this
  have d1:cE (h0++[⟨.lst,F⟩]) (.ref 5)=some (.lst,F):=au (by rw[<-h4];exact dw) rfl
  have nr4:ao [iH N,oq z y,.int k]=true:=rfl;rw[aO,aO,show F++bH (fJ N z y) r::R.map (bH (fJ N z y))=F++[bH (fJ N z y) r]++R.map (bH (fJ N z y)) by simp]
  refine fC (s1:=⟨[x0,some (iH N),x2,some (oq z y),x4,x5,x6,some (.ref 5),x8,some (.int k)],h0++[⟨.lst,F⟩]⟩) (s2:=⟨[x0,some (iH N),x2,some (oq z y),x4,x5,x6,some (.ref 5),x8,some (.int k)],h0++[⟨.lst,F++[bH (fJ N z y) r]⟩]⟩) rfl ?_ h3;refine bD ?_
  delta ij iI
  simp only[↓gk,er,ap,d1,nr4,cm,b6]
end bS
set_option maxHeartbeats 4000000
namespace bS
open PySem L2 L2.U
theorem Ah(c:Nat){ns:List Int}(hl:ns.length<=63):∃(M:Nm) (F:List Rw) (L:Nat) (h':List aj),bj M/\nE M F/\vz F L/\L<=68/\run aP (c+5) "_law_program" [nW ns] []=some (.ok (.aq [fdP M F]),h'):=by
 obtain⟨N,hN,hN0,en⟩:=Kx (c+3) (cell ns 0);obtain⟨z,hz,z1,z8⟩:∃z:Nat,1+cell ns 1%8=(z:Int)/\1<=z/\z<=8:=⟨(1+cell ns 1%8).toNat,by lia,by lia,by lia⟩
 obtain⟨y,hy,y1,y8⟩:∃z:Nat,1+cell ns 1/8%8=(z:Int)/\1<=z/\z<=8:=⟨(1+cell ns 1/8%8).toNat,by lia,by lia,by lia⟩
 have K:bj (fJ N z y):=⟨λ{p q} e=>by
  have go:∀x:N5,∃i:Nat,i<5/\(fJ N z y).n x=N i/\∀w:N5,(fJ N z y).n w=N i->x=w:=λx=>by
   have ne:∀i j:Nat,i<6->j<6->i≠j->N j≠N i:=λi j hi hj h e=>h (hN j i hj hi e).symm
   cases x
   ·exact⟨0,by decide,rfl,λw hw=>by cases w<;>first | rfl | exact absurd hw (ne _ _ (by decide) (by decide) (by decide))⟩
   ·exact⟨1,by decide,rfl,λw hw=>by cases w<;>first | rfl | exact absurd hw (ne _ _ (by decide) (by decide) (by decide))⟩
   ·exact⟨2,by decide,rfl,λw hw=>by cases w<;>first | rfl | exact absurd hw (ne _ _ (by decide) (by decide) (by decide))⟩
   ·exact⟨3,by decide,rfl,λw hw=>by cases w<;>first | rfl | exact absurd hw (ne _ _ (by decide) (by decide) (by decide))⟩
   ·exact⟨4,by decide,rfl,λw hw=>by cases w<;>first | rfl | exact absurd hw (ne _ _ (by decide) (by decide) (by decide))⟩
  obtain⟨i,_,h1,h2⟩:=go p;exact h2 _ (e.symm.trans h1),λx=>by cases x<;>exact hN0 _,z1,z8,y1,y8⟩
 obtain⟨cs,hc,esl⟩:=PU hl;obtain⟨f,hf⟩:∃f,cell ns 2%qR=f:=⟨_,rfl⟩
 have bf:Bd f:=by rw[<-hf];exact qK _
 obtain⟨t,ht,ht5⟩:=He (cell ns 1/64) (n:=5) (by decide)
 obtain⟨v,hv⟩:∃u,f*7%qR=u:=⟨_,rfl⟩
 obtain⟨w,hw⟩:∃u,f*f%qR=u:=⟨_,rfl⟩
 have bv:Bd v:=by rw[<-hv];exact qK _
 have bw:Bd w:=by rw[<-hw];exact qK _
 have e0:run aP (c+4) "_law_cell_at" [nW ns,.int 0] []=some (.ok (.int (cell ns 0)),[]):=qM (c+3) ns 0;have e1:run aP (c+4) "_law_cell_at" [nW ns,.int 1] []=some (.ok (.int (cell ns 1)),[]):=qM (c+3) ns 1;have e2:run aP (c+4) "_law_cell_at" [nW ns,.int 2] []=some (.ok (.int (cell ns 2)),[]):=qM (c+3) ns 2;have en2:gM [⟨.lst,(nmX N).map .str⟩] (.ref 0)=some (iH N):=qu (fF (λ_=>rfl) _)
 have m8:∀h x,cu h (.int x) (.int 8)=some (.int (x%8)):=λh x=>fH (by decide)
 have f8:∀h,fW h (.int (cell ns 1)) (.int 8)=some (.int (cell ns 1/8)):=λh=>nL (by decide)
 have a1:∀h,fV h (.int 1) (.int (cell ns 1%8))=some (.int (z:Int)):=λh=>by show some (PV.int (1+cell ns 1%8))=_;rw[hz]
 have a2:∀h,fV h (.int 1) (.int (cell ns 1/8%8))=some (.int (y:Int)):=λh=>by show some (PV.int (1+cell ns 1/8%8))=_;rw[hy]
 have YE:=λh=>GP (h:=h)
 have mf:∀h,cu h (.int (cell ns 2)) (.int qR)=some (.int f):=λh=>by rw[qA,hf]
 have d64:∀h,fW h (.int (cell ns 1)) (.int 64)=some (.int (cell ns 1/64)):=λh=>nL (by decide)
 have m5:∀h,cu h (.int (cell ns 1/64)) (.int 5)=some (.int (t:Int)):=λh=>by rw[fH (by decide)];exact dm _ (dm _ ht)
 have t7:∀h,jG h (.int f) (.int 7)=some (.int (f*7)):=λh=>LO (.inr (by decide))
 have tf:∀h,jG h (.int f) (.int f)=some (.int (f*f)):=λh=>GR bf bf
 have mv:∀h,cu h (.int (f*7)) (.int qR)=some (.int v):=λh=>by rw[qA,hv]
 have mw:∀h,cu h (.int (f*f)) (.int qR)=some (.int w):=λh=>by rw[qA,hw]
 have l2:∀a b:PV,[a,b].length<=4000000:=λ_ _=>by simp
 have Qp:∀x:Int,ao [nW ns,.int x]=true:=λx=>by
  show(noRef (.lst (ns.map PV.int))&&_)=true;rw[qp (BO ns)];rfl
 have i0:∀h,br h (iH N) (.int 0)=some (.str (N 0)):=λ_=>rfl
 have i1:∀h,br h (iH N) (.int 1)=some (.str (N 1)):=λ_=>rfl
 have i2:∀h,br h (iH N) (.int 2)=some (.str (N 2)):=λ_=>rfl
 have i3:∀h,br h (iH N) (.int 3)=some (.str (N 3)):=λ_=>rfl
 have i4:∀h,br h (iH N) (.int 4)=some (.str (N 4)):=λ_=>rfl
 have i5:∀h,br h (iH N) (.int 5)=some (.str (N 5)):=λ_=>rfl
 suffices H:∃R:List Rw,(∀r∈R,Ky (fJ N z y) r)/\R.length=cs.length/\∃h',run aP (c+5) "_law_program" [nW ns] []=some (.ok (.aq [fdP (fJ N z y) (nM t f v w++R++[Rw.cV])]),h') by
  obtain⟨R,h1,h2,h',h3⟩:=H;obtain⟨P,W⟩:=Ga ht5 bf bv bw h1;exact⟨fJ N z y,_,_,h',K,P,W,by lia,h3⟩
 obtain⟨A,hA⟩:∃A,A=bH (fJ N z y) (.put .b (.num f)):=⟨_,rfl⟩
 obtain⟨B,hB⟩:∃A,A=bH (fJ N z y) (.fill .c (.num v)):=⟨_,rfl⟩
 obtain⟨D,hD⟩:∃A,A=bH (fJ N z y) (.put .d (.num w)):=⟨_,rfl⟩
 obtain⟨E,hE⟩:∃A,A=bH (fJ N z y) (.put .n (.sp .a)):=⟨_,rfl⟩
 obtain⟨G,hG⟩:∃A,A=bH (fJ N z y) (.fill .s (.sp .a)):=⟨_,rfl⟩
 obtain⟨X1,UO⟩:∃X,X=[A,B,D,E,G].drop t:=⟨_,rfl⟩
 obtain⟨X2,UP⟩:∃X,X=[A,B,D,E,G].take t:=⟨_,rfl⟩
 obtain⟨Y,hY⟩:∃X,X=X1++X2:=⟨_,rfl⟩
 have YF:Y=(nM t f v w).map (bH (fJ N z y)):=by
  rw[hY,UO,UP,hA,hB,hD,hE,hG];unfold nM Hg;rw[dZ,ua,t8];rfl
 have lY:Y.length=5:=by rw[YF,aQ,BN ht5]
 have sl1:∀a b d e,Ck [a,b,d,e,⟨.lst,[A,B,D,E,G]⟩] (some (t:Int)) none (.ref 4)=some (.lst X1):=λa b d e=>by
  rw[UO];rcases(by lia : t=0\/t=1\/t=2\/t=3\/t=4)with rfl | rfl | rfl | rfl | rfl<;>rfl
 have MU:∀a b d e,Ck [a,b,d,e,⟨.lst,[A,B,D,E,G]⟩] none (some (t:Int)) (.ref 4)=some (.lst X2):=λa b d e=>by
  rw[UP];rcases(by lia : t=0\/t=1\/t=2\/t=3\/t=4)with rfl | rfl | rfl | rfl | rfl<;>rfl
 have ct:∀h,Oa h (.lst X1) (.lst X2)=some Y:=λh=>by
  rw[UO,UP,hY,UO,UP];rcases(by lia : t=0\/t=1\/t=2\/t=3\/t=4)with rfl | rfl | rfl | rfl | rfl<;>rfl
 obtain⟨R,x9,h1,h2,g3⟩:=xK (c+1) K (x0:=some (nW ns)) (x2:=some (.int (cell ns 1))) (x4:=some (J8 y)) (x5:=some (.lst ([N5.b,.c,.d,.e].map (rk (fJ N z y))))) (x6:=some (.int f)) (x8:=some (.int (t:Int))) (h0:=[⟨.lst,[A]⟩,⟨.lst,[A,B]⟩,⟨.lst,[A,B,D]⟩,⟨.lst,[A,B,D,E]⟩,⟨.lst,[A,B,D,E,G]⟩]) rfl cs Y none (by lia)
 refine⟨R,h1,h2,?_⟩;obtain⟨T,hT⟩:∃T,T=Y++R.map (bH (fJ N z y)):=⟨_,rfl⟩
 have hF:fdP (fJ N z y) (nM t f v w++R++[Rw.cV])=.aq [.str (N 5),.aq [.aq [.str (N 0),zR]],.aL,.aq ([N5.b,.c,.d,.e].map (rk (fJ N z y))),.aq (T++[.aq [.str "give",.str ""]])]:=by
  rw[hT,YF];unfold fdP;rw[dZ,dZ];rfl
 rw[hF];rw[<-hT]at g3;have lT:T.length<=4000:=by rw[hT,bA,aQ];lia
 have ap:∀ρ a b d e g x,iD (fU kh) (.ref 5) [x] ⟨ρ,[a,b,d,e,g,⟨.lst,T⟩]⟩=some (.ok .aL,⟨ρ,[a,b,d,e,g,⟨.lst,T++[x]⟩]⟩):=λρ a b d e g x=>oh (h:=[a,b,d,e,g]) lT
 have tC:∀a b d e g l,Cm [a,b,d,e,g,⟨.lst,l⟩] [.ref 5]=some (.aq l):=λa b d e g l=>rfl
 have tL:∀h l,Cm h [.lst l]=some (.aq l):=λh l=>rfl
 clear hT hF YF UO UP hY;subst hA hB hD hE hG
 delta ij iI at g3
 simp only[aO,dP,yq,fO,bH,fE,gm,fJ,oq,J8,zR,xm,rk,nS,Nm.n]at g3 sl1 MU ⊢;rw[vf];exact⟨_,by simp only[↓bJ,e0,e1,e2,en,en2,m8,f8,a1,a2,YE,mf,d64,m5,t7,tf,mv,mw,l2,Qp,i0,i1,i2,i3,i4,i5,esl,ap,sl1,MU,ct,tC,tL,g3,cm,b6];rfl⟩
end bS
set_option maxHeartbeats 4000000
namespace bS
open PySem L2 L2.U
theorem Hh(ns:List Int)(h:ns.length<=63):XU (run aP 30 "law" [nW ns] []):=by
 obtain⟨M,F,L,hp,K,W,Z,hL,ep⟩:=Ah 24 h;obtain⟨jn,hB,YG⟩:∃jn:Int,Bd jn/\cell ns 3%qR=jn:=⟨_,qK _,rfl⟩
 have fp:∀h,gM h (.aq [fdP M F])=some (.aq [fdP M F]):=λh=>Gf (by simp[noRef,ao,qr])
 have UD:noRef (.aq [fdP M F])=true:=by simp[noRef,ao,qr]
 have p0:∀h,br h (.aq [fdP M F]) (.int 0)=some (fdP M F):=λh=>rfl
 have p4:∀h,br h (fdP M F) (.int 4)=some (.aq (F.map (bH M))):=λh=>rfl
 have bg:=G9 28 K (F:=F) (x:=jn);obtain⟨P,hP⟩:∃P,P=PV.aq [fdP M F]:=⟨_,rfl⟩
 have pl:=fun(n:Nat) (hn:n<=4000)=>G5 13 K W (by rw[Z.len];lia) (by rw[Z.len];lia) hB (most:=n) (by lia)
 rw[<-hP]at ep fp UD pl p0 bg;obtain⟨m1,hm1,ac0⟩:=He (cell ns 4) (n:=L+4) (by lia)
 obtain⟨e3,he3,ac2⟩:=He (cell ns 4/93) (n:=3) (by decide)
 obtain⟨most,hmo,hmL⟩:∃most:Nat,most=(if(cell ns 4/31%3==0)=true then L+e3 else m1)/\most<=L+3:=⟨_,rfl,by split<;>lia⟩
 have c3:run aP 29 "_law_cell_at" [nW ns,.int 3] []=some (.ok (.int (cell ns 3)),[]):=qM 28 ns 3;have c4:run aP 29 "_law_cell_at" [nW ns,.int 4] []=some (.ok (.int (cell ns 4)),[]):=qM 28 ns 4;have YE:=λh=>GP (h:=h)
 have m30:∀h,cu h (.int (cell ns 3)) (.int qR)=some (.int jn):=λh=>by rw[qA,YG]
 have lT:∀h,j8 h [.aq (F.map (bH M))]=some (.int ((L+1:Nat):Int)):=λh=>by
  show some (PV.int (((F.map (bH M)).length:Nat):Int))=_;rw[aQ,Z.len]
 have a3:∀h,fV h (.int ((L+1:Nat):Int)) (.int 3)=some (.int ((L+4:Nat):Int)):=λh=>by show some (PV.int (((L+1:Nat):Int)+3))=_;rw[show((L+1:Nat):Int)+3=((L+4:Nat):Int) by lia]
 have s1:∀h,Nq h (.int ((L+1:Nat):Int)) (.int 1)=some (.int (L:Int)):=λh=>by show some (PV.int (((L+1:Nat):Int)-1))=_;rw[show((L+1:Nat):Int)-1=(L:Int) by lia]
 have mm:∀h,cu h (.int (cell ns 4)) (.int ((L+4:Nat):Int))=some (.int (m1:Int)):=λh=>by rw[fH (by lia),hm1]
 have d31:∀h,fW h (.int (cell ns 4)) (.int 31)=some (.int (cell ns 4/31)):=λh=>nL (by decide)
 have d93:∀h,fW h (.int (cell ns 4)) (.int 93)=some (.int (cell ns 4/93)):=λh=>nL (by decide)
 have m3:∀h,cu h (.int (cell ns 4/31)) (.int 3)=some (.int (cell ns 4/31%3)):=λh=>fH (by decide)
 have me:∀h,cu h (.int (cell ns 4/93)) (.int 3)=some (.int (e3:Int)):=λh=>by rw[fH (by decide)];exact dm _ (dm _ he3)
 have ae:∀h,fV h (.int (L:Int)) (.int (e3:Int))=some (.int ((L+e3:Nat):Int)):=λh=>rfl
 have q0:∀h x,mr h (.int x) (.int 0)=some (.bl (x==0)):=λh x=>rfl
 have Qp:∀x:Int,ao [nW ns,.int x]=true:=λx=>by
  show(noRef (.lst (ns.map PV.int))&&_)=true;rw[qp (BO ns)];rfl
 rw[show run aP 30 "law"=_ from J3 29]
 obtain⟨T,hT⟩:∃T,T=PV.aq (F.map (bH M)):=⟨_,rfl⟩
 rw[<-hT]at p4 lT;rw[eR (qs:=[nW ns,P]),eR (qs:=[nW ns,P,T]),eR (qs:=[nW ns,P,T,.int jn]),eR (qs:=[nW ns,P,T,.int jn,.int (m1:Int)]),eR (qs:=[nW ns,P,T,.int jn,.int (most:Int)])]
 rotate_left
 ·rw[hmo];cases b:cell ns 4/31%3==0
  ·exact bD (by simp only[↓gk,c4,Qp,d31,m3,q0,b];rfl)
  ·exact bD (by simp only[↓gk,c4,Qp,d31,m3,q0,b,lT,s1,d93,me,ae];rfl)
 ·exact bD (by simp only[↓gk,c4,Qp,lT,a3,mm];rfl)
 ·exact bD (by simp only[↓gk,c3,Qp,YE,m30];rfl)
 ·exact bD (by simp only[↓gk,p0,p4];rfl)
 ·exact bD (by simp only[↓gk,ep,fp];rfl)
 obtain⟨x8,y4⟩:=BJ 25 K W Z (by lia) hB (most:=most) (x0:=some (nW ns)) (x1:=some P) (x3:=some (.int jn)) (x9:=none) L 0 none (by lia)
 rw[<-hT]at y4;obtain⟨E0,hE0⟩:∃E,E=BI M (lG M jn):=⟨_,rfl⟩
 have y0:Dg M (stN M F jn 0).1 (stN M F jn 0).2 (Dw M F jn most 0)=[E0,⟨.lst,[]⟩,⟨.lst,[]⟩]:=by
  unfold Dw;rw[if_neg (by lia),hE0]
  rfl
 rw[<-hE0]at bg;rw[y0,show Ks most 0=2 from if_neg (by lia),<-List.range_eq_range']at y4
 delta nX iI at y4
 have rg:wA [.int (L:Int)]=some ((List.range L).map λm:Nat=>.int (m:Int)):=Kt (by lia)
 have n2:∀a b,ao [P,.lst [.int a],.int b]=true:=λa b=>by simp[ao,UD,noRef]
 have n3:∀a,ao [P,.lst [.int a]]=true:=λa=>by simp[ao,UD,noRef]
 have n4:∀a b i n,ao [a,.str b,.ref i,n]=false:=λa b i n=>by simp[ao,noRef]
 have ql:∀h,mr h (.lst [.int jn]) (.lst [.int jn])=some (.bl true):=λh=>by
  show some (PV.bl (eqT (.lst [.int jn]) (.lst [.int jn])))=_;rw[gI]
 obtain⟨q1,h1,e1,f1⟩:=pl most (by lia)
 obtain⟨q3,h3,Te,f3⟩:=pl 400 (by decide)
 rw[xJ Z (by lia)]at f3
 have cd:∀ρ h,qa 0 3 (run aP 29 "played") [.int 400] [P,.lst [.int jn]] ⟨ρ,h⟩=some (.ok _,⟨ρ,h⟩):=λρ h=>by
  show(if((0==0)&&(h.isEmpty || ao [P,.lst [.int jn]]))=true then _ else _)=_
  rw[if_pos (by simp[n3])]
  exact Bk (as:=[P,.lst [.int jn],.int 400]) (st:=⟨ρ,h⟩) (by simp[n2]) rfl Te f3
 have sl:=λk (hk:k<=L)=>Ae (N:=M) (x:=jn) Z k hk
 obtain⟨S,hS⟩:∃S,S=(stN M F jn L).2:=⟨_,rfl⟩
 have Hj:∀{h:List aj} (w:Str) (l:List Int) (i:Nat) (n:Int),l.length<=9000->h[i]?=some ⟨.lst,l.map .int⟩->run aP 29 "_law_told" [.aq [.str w,.lst (l.map .int),.int n],.str w,.ref i,.int n] h=some (.ok (.bl true),h):=λw l i n h1 h2=>Kv 27 w h1 n h2
 have eq1:∀h,mr h (.int (most:Int)) (.int (L:Int))=some (.bl ((most:Int)==(L:Int))):=λh=>rfl
 have Jt:∀h,RQ h (.int (most:Int)) (.int ((L+1:Nat):Int))=some (.bl (decide ((most:Int)<((L+1:Nat):Int)))):=λh=>rfl
 have ge1:∀h,RR h (.int (most:Int)) (.int ((L+1:Nat):Int))=some (.bl (decide (((L+1:Nat):Int)<=(most:Int)))):=λh=>rfl
 have l1:∀a:PV,[a].length<=4000000:=λ_=>by simp
 obtain⟨H,hH⟩:∃H,H=Dg M (stN M F jn L).1 (stN M F jn L).2 (Dw M F jn most L):=⟨_,rfl⟩
 rw[<-hH]at y4;have Qq:H[1]?=some ⟨.lst,(stN M F jn L).2.map .int⟩:=by rw[hH];rfl
 have hE:H.isEmpty=false:=hne Qq;rcases Nat.lt_trichotomy most L with hm | hm | hm
 ·have HC:H[3]?=some ⟨.lst,(stN M F jn most).2.map .int⟩:=by rw[hH];unfold Dw;rw[if_pos hm];rfl
  rw[xI Z (by lia)]at f1
  have t1:=Hj "more" (stN M F jn most).2 3 (most:Int) (aJ (sl most (by lia)) (by lia)) HC
  have t2:=Hj "done" (stN M F jn L).2 1 ((L+1:Nat):Int) (aJ (sl L (az L)) (by lia)) Qq
  rw[show Ks most L=3 from if_pos hm]at y4
  have b1:((most:Int)==(L:Int))=false:=eA.mpr (by lia)
  have b2:decide ((most:Int)<((L+1:Nat):Int))=true:=dA (by lia)
  have b3:decide (((L+1:Nat):Int)<=(most:Int))=false:=cL (by lia)
  exact⟨_,by simp only[↓bJ,bg,lT,s1,rg,y4,eq1,b1,Jt,b2,ge1,b3,e1,f1,t1,t2,cd,n2,n3,n4,ql,l1,hE,aY,aT,cm,b6];rfl⟩
 ·subst hm;have lb:Ti H (.ref 1)=some ((stN M F jn most).2.map .int):=by
   show ny H (.ref 1)=_;unfold ny;rw[au Qq rfl]
  have Um:∀c:aj,(H++[c]).isEmpty=false:=λc=>by simp
  rw[xI Z (by lia)]at f1
  have t1:=Hj (h:=H++[⟨.lst,(stN M F jn most).2.map .int⟩]) "more" (stN M F jn most).2 H.length (most:Int) (aJ (sl most (by lia)) (by lia)) dw
  have t2:=Hj (h:=H++[⟨.lst,(stN M F jn most).2.map .int⟩]) "done" (stN M F jn most).2 1 ((most+1:Nat):Int) (aJ (sl most (az _)) (by lia)) (by rw[fj (di.mp Qq).1];exact Qq)
  have b1:((most:Int)==(most:Int))=true:=fu _;have b2:decide ((most:Int)<((most+1:Nat):Int))=true:=dA (by lia)
  have b3:decide (((most+1:Nat):Int)<=(most:Int))=false:=cL (by lia)
  exact⟨_,by simp only[↓bJ,bg,lT,s1,rg,y4,eq1,b1,lb,Jt,b2,ge1,b3,e1,f1,t1,t2,cd,n2,n3,n4,ql,l1,hE,Um,aY,aT,cm,b6];rfl⟩
 ·rw[xJ Z hm]at f1;have t2:=Hj "done" (stN M F jn L).2 1 ((L+1:Nat):Int) (aJ (sl L (az L)) (by lia)) Qq
  have b1:((most:Int)==(L:Int))=false:=eA.mpr (by lia)
  have b2:decide ((most:Int)<((L+1:Nat):Int))=false:=cL (by lia)
  have b3:decide (((L+1:Nat):Int)<=(most:Int))=true:=dA (by lia)
  exact⟨_,by simp only[↓bJ,bg,lT,s1,rg,y4,eq1,b1,Jt,b2,ge1,b3,e1,f1,t2,cd,n2,n3,n4,ql,l1,hE,aY,aT,cm,b6];rfl⟩
end bS
noncomputable section
open PySem PySem.W PyProof.Rows PySem.Calls
theorem PySem.Challenge.cw_lendrule_k60_plain_straight_holds : PySem.Challenge.rw_lendrule_k60_plain_straight.Holds := by
 exact bS.jr λd h1 h2=>L2.U.Ge (P:=bS.aP) (N:=30) (st:=bS.TZ) (x:="_law_script") (l:=PySem.Challenge.rw_lendrule_k60_plain_straight) (by kernel_rfl) (by kernel_rfl) rfl h1 h2 ⟨rfl,by decide,by decide⟩ (by kernel_rfl) bS.YS rfl (λw h Y=>Y) bS.Hh
end
