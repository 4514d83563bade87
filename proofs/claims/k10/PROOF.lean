import PyProof.Rows.All
import Wide.All
import OpenK.AllK
import Wide.FinOn
import Lean
import PyProof.EqAt
import PyProof.EqKinds
import PyProof.TupleCall
import PySem.Challenge.RW_lostblock_k10_whole_bench_rows_refused
set_option Elab.async false
set_option linter.all false
set_option maxRecDepth 100000
def PySem.W.Fast.tw6527928687932901224:=()
def PySem.W.Fast.tw10722755022629891099:=()
def PySem.W.Fast.tw9973770744854591878:=()
def PySem.W.Fast.tw16796500673914615260:=()
def PySem.W.Fast.tw2987612218180229411:=()
def PySem.W.Fast.tw3689903106963534495:=()
def PySem.W.Fast.tw287815879711195255:=()
def PySem.W.Fast.tw1525530478738246141:=()
def PySem.W.Fast.tw12462702530448024923:=()
def PySem.W.Fast.tw12037922466017901608:=()
def PySem.W.Fast.tw6010715032098817994:=()
def PySem.W.Fast.tw2788689815727560669:=()
def PySem.W.Fast.tw14972296058376926754:=()
def PySem.W.Fast.tw10927390560566743297:=()
def PySem.W.Fast.tw2998882845963829233:=()
def PySem.W.Fast.tw14212589525721101590:=()
def PySem.W.Fast.tw17553224477533799659:=()
def PySem.W.Fast.tw11133366492874585046:=()
def PySem.W.Fast.tw7401644268391082309:=()
def PySem.W.Fast.tw15495677262047216646:=()
def PySem.W.Fast.tw6183783193994984031:=()
def PySem.W.Fast.tw9801018614254230382:=()
def PySem.W.Fast.tw4576697746125509654:=()
def PySem.W.Fast.tw8318845848757844310:=()
def PySem.W.Fast.tw109146321050106893:=()
def PySem.W.Fast.tw3269991730448643677:=()
def PySem.W.Fast.tw16117478857908997757:=()
def PySem.W.Fast.tw3608622414894989075:=()
def PySem.W.Fast.tw17363246952799679143:=()
def PySem.W.Fast.tw4101824749534219186:=()
def PySem.W.Fast.tw9713672662364428552:=()
def PySem.W.Fast.tw5066472693123128449:=()
def PySem.W.Fast.tw11942568037683338864:=()
def PySem.W.Fast.tw11445876367995098918:=()
def PySem.W.Fast.tw18241426769696755237:=()
def PySem.W.Fast.tw8966415572332890616:=()
def PySem.W.Fast.tw14780867338055190568:=()
def PySem.W.Fast.tw5024383840161223147:=()
def PySem.W.Fast.tw3438460836080209064:=()
def PySem.W.Fast.tw7286354785966521668:=()
def PySem.W.Fast.tw12406557274943384889:=()
def PySem.W.Fast.tw12031707237107912122:=()
def PySem.W.Fast.tw15597750165769130386:=()
def PySem.W.Fast.tw11472826074896036226:=()
def PySem.W.Fast.tw10951034295629731706:=()
def PySem.W.Fast.tw17276985659316262375:=()
def PySem.W.Fast.tw7172761822661062620:=()
def PySem.W.Fast.tw14966386361720455965:=()
def PySem.W.Fast.tw17725165173081636198:=()
def PySem.W.Fast.tw4821906912706506260:=()
def PySem.W.Fast.tw13577022974906105689:=()
def PySem.W.Fast.tw11713693632577465984:=()
def PySem.W.Fast.tw6899287813565474120:=()
def PySem.W.Fast.tw8814188618012399809:=()
def PySem.W.Fast.tw5387605826227828601:=()
def PySem.W.Fast.tw15667618227734948922:=()
def PySem.W.Fast.tw54140099217091761:=()
def PySem.W.Fast.tw5531975720460250528:=()
def PySem.W.Fast.tw6999035124300324756:=()
def PySem.W.Fast.tw11827952914352690524:=()
def PySem.W.Fast.tw1310691589648081282:=()
def PySem.W.Fast.tw15518152811931427506:=()
def PySem.W.Fast.tw429639716016133505:=()
def PySem.W.Fast.tw7616756172884262706:=()
def PySem.W.Fast.tw3968183216839230370:=()
def PySem.W.Fast.tw6766048545728139193:=()
def PySem.W.Fast.tw9015300237947247448:=()
def PySem.W.Fast.tw6994303985494107868:=()
def PySem.W.Fast.tw7220940632376590098:=()
def PySem.W.Fast.tw18135767998837881784:=()
def PySem.W.Fast.tw2253353361565016681:=()
def PySem.W.Fast.tw6192388084773504471:=()
def PySem.W.Fast.tw15348575774343357051:=()
def PySem.W.Fast.tw16590287728397331415:=()
def PySem.W.Fast.tw3265580565334778102:=()
def PySem.W.Fast.tw11746267572008235314:=()
def PySem.W.Fast.tw10457956449637294842:=()
def PySem.W.Fast.tw11202276811883491391:=()
def PySem.W.Fast.tw16678354864973382461:=()
noncomputable def Zaa:=@PySem.Heap.get?_push_of_some
noncomputable def Zab:=@Option.some.inj
noncomputable def Zac:=@List.getElem?_eq_getElem
noncomputable def Zad:=@Nat.le_trans
noncomputable def Zae:=@List.mem_append
noncomputable def Zaf:=@Nat.le_refl
noncomputable def Zag:=@List.getElem?_map
noncomputable def Zah:=@List.map_cons
noncomputable def Zai:=@PySem.W.mg_of
noncomputable def Zaj:=@PySem.Heap.lt_size
noncomputable def Zak:=@List.length_cons
noncomputable def Zal:=@List.getElem?_set_ne
noncomputable def Zam:=@PySem.Heap.get?_push_size
noncomputable def Zan:=@List.map_append
noncomputable def Zao:=@List.mem_cons
noncomputable def Zap:=@List.getElem?_eq_some_iff
noncomputable def Zaq:=@Nat.lt_of_lt_of_le
noncomputable def Zar:=@PySem.F.plainAttrs_list
noncomputable def Zas:=@PySem.F.slot_list_append
noncomputable def Zat:=@List.length_take
noncomputable def Zau:=@List.mem_of_getElem?
noncomputable def Zav:=@Int.emod_lt_of_pos
noncomputable def Zaw:=@Int.emod_nonneg
noncomputable def Zax:=@List.getElem?_append_left
noncomputable def Zay:=@Nat.ne_of_lt
noncomputable def Zaz:=@List.mem_of_mem_take
noncomputable def ZaA:=@List.append_assoc
noncomputable def ZaB:=@List.length_drop
noncomputable def ZaC:=@List.getElem?_append_right
noncomputable def ZaD:=@List.getD_eq_getElem?_getD
noncomputable def ZaE:=@List.append_nil
noncomputable def ZaF:=@List.mem_singleton
noncomputable def ZaG:=@List.pairwise_append
noncomputable def ZaH:=@List.drop_eq_getElem_cons
noncomputable def ZaI:=@List.Pairwise.sublist
noncomputable def ZaJ:=@List.mem_of_mem_drop
noncomputable def ZaK:=@List.mem_append_right
noncomputable def ZaL:=@List.take_append_drop
noncomputable def ZaM:=@PySem.PassesOwn.never
noncomputable def ZaN:=@PySem.W.mg_none_of
noncomputable def ZaO:=@List.take_of_length_le
noncomputable def ZaP:=@List.mem_map
noncomputable def ZaQ:=@List.getElem?_eq_none
noncomputable def ZaR:=@List.length_nil
noncomputable def ZaS:=@List.getElem?_set_self
noncomputable def ZaT:=@PySem.Value.ref.inj
noncomputable def ZaU:=@List.map_map
noncomputable def ZaV:=@PySem.F.slot_str_split
noncomputable def ZaW:=@PySem.F.type_str_split
noncomputable def ZaX:=@List.all_eq_true
noncomputable def ZaY:=@List.filter_cons
noncomputable def ZaZ:=@List.not_mem_nil
noncomputable def Za0:=@Int.toNat_of_nonneg
noncomputable def Za1:=@List.length_pos_iff
noncomputable def Za2:=@PySem.AutoSeq1.wpAny_loadPart'
noncomputable def Za3:=@List.drop_zero
noncomputable def Za4:=@Ne.symm
noncomputable def Za5:=@PyProof.Rows.callWith_type1
noncomputable def Za6:=@List.getElem?_replicate
noncomputable def Za7:=@PySem.W.kia_one
noncomputable def Za8:=@PySem.Heap.get?_update_other
noncomputable def Za9:=@Nat.zero_le
noncomputable def Zba:=@List.take_sublist
noncomputable def Zbb:=@Nat.lt_irrefl
noncomputable def Zbc:=@List.filterMap_cons_none
noncomputable def Zbd:=@List.filterMap_cons_some
noncomputable def Zbe:=@List.contains_cons
noncomputable def Zbf:=@List.getElem?_mapIdx
noncomputable def Zbg:=@List.sum_cons
noncomputable def Zbh:=@List.mem_range
noncomputable def Zbi:=@List.replicate_succ
noncomputable def Zbj:=@Array.getD_eq_getD_getElem?
noncomputable def Zbk:=@Nat.min_eq_left
noncomputable def Zbl:=@Bool.and_eq_true
noncomputable def Zbm:=@List.all_cons
noncomputable def Zbn:=@List.Perm.append_left
noncomputable def Zbo:=@List.perm_append_comm
noncomputable def Zbp:=@List.getElem?_eq_none_iff
noncomputable def Zbq:=@PySem.Heap.size_push
noncomputable def Zbr:=@Array.getElem?_eq_getElem
noncomputable def Zbs:=@List.pairwise_iff_getElem
noncomputable def Zbt:=@List.flatten_cons
noncomputable def Zbu:=@List.drop_sublist
noncomputable def Zbv:=@PySem.mem_of_lookup
noncomputable def Zbw:=@List.getElem?_range
noncomputable def Zbx:=@Array.toList_append
noncomputable def Zby:=@PySem.F.attr_ValueError
noncomputable def Zbz:=@Int.eq_ofNat_of_zero_le
noncomputable def ZbA:=@Array.toList_inj
noncomputable def ZbB:=@List.take_succ
noncomputable def ZbC:=@List.drop_of_length_le
noncomputable def ZbD:=@List.drop_eq_nil_of_le
noncomputable def ZbE:=@Bool.false_eq_true
noncomputable def ZbF:=@List.length_set
noncomputable def ZbG:=@List.find?_cons
noncomputable def ZbH:=@List.foldl_cons
noncomputable def ZbI:=@List.cons.injEq
noncomputable def ZbJ:=@List.any_cons
set_option compiler.extract_closed false
set_option bootstrap.genMatcherCode false
set_option genSizeOf false
local macro_rules | `(tactic| omega)=>`(tactic| first | (grind only) | omega (config:={}))
local macro_rules | `(tactic| lia)=>`(tactic| first | lia -verbose | omega (config:={}))
namespace L2
open PySem PySem.Spec PyProof.Rows
noncomputable abbrev Key:=Sum Int Str
noncomputable def xG:Key->Value->Bool
 | .inl k,v=>Value.isInt k v
 | .inr x,v=>Value.isStrOf x v
noncomputable def TQ (w:World):Key->Int
 | .inl k=>hashInt k
 | .inr x=>hashStr w x
theorem dY:∀ {k:Key}{v:Value},xG k v=true->(∃ i t,k=Sum.inl i∧v=Value.int i t)∨(∃ x t,k=Sum.inr x∧v=Value.str x t)
 | .inl i,v,h=>by
  obtain ⟨t,e⟩:=Value.isInt_shape (k:=i) (v:=v) h
  exact .inl ⟨i,t,rfl,e⟩
 | .inr x,v,h=>by
  obtain ⟨t,e⟩:=Value.isStrOf_shape (x:=x) (v:=v) h
  exact .inr ⟨x,t,rfl,e⟩
theorem Gw (i:Int) (t:Tok):xG (.inl i) (.int i t)=true:=by simp [xG,Value.isInt]
theorem Gx (x:Str) (t:Tok):xG (.inr x) (.str x t)=true:=by simp [xG,Value.isStrOf]
theorem Pa (a b:Int):decide ((Sum.inl a:Key)=Sum.inl b)=(a == b):=by
 by_cases e:a=b
 ·subst e;simp
 ·have h:¬(Sum.inl a:Key)=Sum.inl b:=fun q=>e (Sum.inl.inj q)
  rw [decide_eq_false h]
  exact (beq_eq_false_iff_ne.mpr e).symm
theorem Pb (a b:Str):decide ((Sum.inr a:Key)=Sum.inr b)=decide (a=b):=by
 by_cases e:a=b
 ·subst e;simp
 ·have h:¬(Sum.inr a:Key)=Sum.inr b:=fun q=>e (Sum.inr.inj q)
  rw [decide_eq_false h,decide_eq_false e]
theorem Pg (a:Int) (b:Str):decide ((Sum.inl a:Key)=Sum.inr b)=false:=decide_eq_false (fun q=>nomatch q)
theorem Ph (a:Str) (b:Int):decide ((Sum.inr a:Key)=Sum.inl b)=false:=decide_eq_false (fun q=>nomatch q)
noncomputable def fJ (prog:Program) (w:World):PySem.KeyKind prog w Key where
 is:=xG
 hash:=TQ w
 inj:=fun v a b ha hb=>by
  rcases dY ha with ⟨i,t,rfl,rfl⟩ | ⟨x,t,rfl,rfl⟩
  ·rcases dY hb with ⟨j,u,rfl,e⟩ | ⟨y,u,rfl,e⟩
   ·injection e with e1 _;rw [e1]
   ·exact nomatch e
  ·rcases dY hb with ⟨j,u,rfl,e⟩ | ⟨y,u,rfl,e⟩
   ·exact nomatch e
   ·injection e with e1 _;rw [e1]
 byValue:=fun k v h=>by
  rcases dY h with ⟨i,t,rfl,rfl⟩ | ⟨x,t,rfl,rfl⟩ <;> rfl
 pyHash:=fun hv h=>by
  rcases dY hv with ⟨i,t,rfl,rfl⟩ | ⟨x,t,rfl,rfl⟩
  ·exact wpAny_pyHash_int h
  ·exact wpAny_pyHash_str h
 eqBool:=fun hu hv h=>by
  rcases dY hu with ⟨i,t,rfl,rfl⟩ | ⟨x,t,rfl,rfl⟩
  ·rcases dY hv with ⟨j,u,rfl,rfl⟩ | ⟨y,u,rfl,rfl⟩
   ·rw [Pa] at h;exact wpAny_eqBool_int h
   ·rw [Pg] at h;exact SeqAt.EqAt.int_str i t y u _ _ _ _ h
  ·rcases dY hv with ⟨j,u,rfl,rfl⟩ | ⟨y,u,rfl,rfl⟩
   ·rw [Ph] at h;exact SeqAt.EqAt.str_int x t j u _ _ _ _ h
   ·rw [Pb] at h;exact wpAny_eqBool_str h
 «strs»:=fun k x t v h=>by
  rcases dY h with ⟨i,u,rfl,e⟩ | ⟨y,u,rfl,e⟩
  ·exact nomatch e
  ·injection e with e1 _
   subst e1
   cases v <;> rfl
theorem z8 (prog:Program) (w:World) (i:Int) (t:Tok):(fJ prog w).is (.inl i) (.int i t)=true:=Gw i t
theorem z9 (prog:Program) (w:World) (x:Str) (t:Tok):(fJ prog w).is (.inr x) (.str x t)=true:=Gx x t
inductive V where
 | non | bl (b:Bool) | int (i:Int) | str (x:Str) | byt (b:Array UInt8) | flt (b:UInt64) | ref (a:Addr) | ty (n:String)
 deriving DecidableEq
noncomputable def RelV:V->Value->Prop
 | .non,u=>u=Value.none
 | .bl b,u=>u=Value.bool b
 | .int i,u=>∃ t,u=Value.int i t
 | .str x,u=>∃ t,u=Value.str x t
 | .byt b,u=>∃ t,u=Value.bytes b t
 | .flt b,u=>∃ t,u=Value.float b t
 | .ref a,u=>u=Value.ref a
 | .ty n,u=>u=Value.type n
noncomputable abbrev Vals:List V->List Value->Prop:=Paired RelV
theorem Vals.length {xs:List V}{us:List Value} (r:Vals xs us):xs.length=us.length:=Paired.length r
theorem Vals.get:∀ {xs:List V}{us:List Value}{i:Nat}{x:V},Vals xs us->xs[i]?=some x->∃ u,us[i]?=some u∧RelV x u
 | _,_,_,_,.nil,e=>by simp at e
 | _,_,0,_,.cons r _,e=>by simp at e;subst e;exact ⟨_,rfl,r⟩
 | _,_,i+1,x,.cons _ t,e=>by
  obtain ⟨u,h1,h2⟩:=Vals.get (i:=i) (x:=x) t (by simpa using e)
  exact ⟨u,by simpa using h1,h2⟩
theorem Vals.set {x:V}{u:Value} (r:RelV x u):∀ {xs:List V}{us:List Value} (i:Nat),Vals xs us->Vals (xs.set i x) (us.set i u)
 | _,_,_,.nil=>.nil
 | _,_,0,.cons _ t=>.cons r t
 | _,_,i+1,.cons q t=>.cons q (Vals.set r i t)
theorem Vals.append:∀ {xs ys:List V}{us ws:List Value},Vals xs us->Vals ys ws->Vals (xs++ys) (us++ws)
 | _,_,_,_,.nil,s=>s
 | _,_,_,_,.cons r t,s=>.cons r (Vals.append t s)
theorem Vals.take:∀ {xs:List V}{us:List Value} (n:Nat),Vals xs us->Vals (xs.take n) (us.take n)
 | _,_,0,_=>.nil
 | _,_,_+1,.nil=>.nil
 | _,_,n+1,.cons r t=>.cons r (Vals.take n t)
theorem Vals.drop:∀ {xs:List V}{us:List Value} (n:Nat),Vals xs us->Vals (xs.drop n) (us.drop n)
 | _,_,0,r=>r
 | _,_,_+1,.nil=>.nil
 | _,_,n+1,.cons _ t=>Vals.drop n t
theorem Vals.none_of:∀ {xs:List V}{us:List Value}{i:Nat},Vals xs us->xs[i]?=none->us[i]?=none:=fun {xs us i} r e=>by
 have h1:=r.length
 have h2:xs.length≤i:=Zbp.mp e
 exact Zbp.mpr (by omega)
noncomputable def rR:Option V->Option Value->Prop
 | some v,some u=>RelV v u
 | none,none=>True
 | _,_=>False
noncomputable def KV {κ:Type}:List (κ×V)->List (κ×Value)->Prop:=Paired fun (p:κ×V) (q:κ×Value)=>p.1=q.1∧RelV p.2 q.2
noncomputable def kV:Key->V
 | .inl i=>.int i
 | .inr x=>.str x
inductive HO where
 | lst (xs:List V)
 | tup (xs:List V)
 | dK (kvs:List (Key×V)) | dT (kvs:List (List Key×V))
 | set (S:Int->Bool) (n:Nat)
 | ins (C dx:Addr) (fs:List (Str×V))
 | own (x:Addr)
 | xd (fs:List (Str×V))
 | met (f x:Addr)
 | rng (lo hi:Int)
 | frz (o:Obj) (u:HO)
 | tbl (ps:Array Value)
 | ext (φ:Heap->Prop)
noncomputable abbrev Hp:=Addr->Option HO
noncomputable def upd (H:Hp) (a:Addr) (o:HO):Hp:=fun b=>if b=a then some o else H b
theorem aX {H:Hp}{a:Addr}{o:HO}:upd H a o a=some o:=by unfold upd;rw [if_pos rfl]
theorem aO {H:Hp}{a b:Addr}{o:HO} (h:b≠a):upd H a o b=H b:=by unfold upd;rw [if_neg h]
theorem Jc {H:Hp}{a b:Addr}{o u:HO} (h:H a=some o) (h':H b=some u) (d:o≠u):a≠b:=by
 intro e;subst e;rw [h] at h';exact d (Zab h')
theorem b8 {H:Hp}{a b:Addr}{o:HO} (h:H a=some o) (h':H b=none):a≠b:=by
 intro e;subst e;rw [h] at h';cases h'
noncomputable def gD (h:Heap) (a:Addr) (items:Array Value):Prop:=IsTup h a items∧∀ o,h.get? a=some o->o.dict=none
theorem gD.new (h:Heap) (items:Array Value):gD (h.push { cls:=.type "tuple",data:=.seq items }) h.objs.size items:=⟨IsTup.new h items,fun o e=>by rw [Zam _ rfl] at e;cases e;rfl⟩
theorem gD.mk {h:Heap}{a:Addr}{items:Array Value}{n:Nat} (e:h.get? a=some { cls:=.type "tuple",data:=.seq items n }):gD h a items:=⟨⟨_,e,rfl,_,rfl⟩,fun o q=>by rw [e] at q;cases q;rfl⟩
theorem gD.lt {h:Heap}{a:Addr}{items:Array Value} (x:gD h a items):a < h.objs.size:=x.1.lt
theorem gD.at' {h h':Heap}{a:Addr}{items:Array Value} (x:gD h a items) (e:∀ o,h.get? a=some o->h'.get? a=some o):gD h' a items:=by
 obtain ⟨⟨o,h1,r⟩,d⟩:=x
 exact ⟨⟨o,e o h1,r⟩,fun u q=>by rw [e o h1] at q;cases q;exact d o h1⟩
section
variable (P:Program) (w:World)
noncomputable def dM (H:Hp) (h:Heap) (a:Addr):HO->Prop
 | .lst xs=>xs.length≤sizeLine∧∃ (its:List Value) (n:Nat),Vals xs its∧h.get? a=some { cls:=.type "list",data:=.seq its.toArray n }
 | .tup xs=>xs.length≤sizeLine∧∃ its:List Value,Vals xs its∧gD h a its.toArray
 | .dK kvs=>kvs.length≤sizeLine∧(a == sysModules)=false∧∃ vs,KV kvs vs∧h.DictOf (fJ P w) a vs
 | .dT kvs=>kvs.length≤sizeLine∧(a == sysModules)=false∧∃ xs:List (List Key×Addr×Value),
   Paired (fun (p:List Key×V) (q:List Key×Addr×Value)=>p.1=q.1∧H q.2.1=some (.tup (p.1.map kV))∧RelV p.2 q.2.2) kvs xs ∧
   ∃ o es ep,h.get? a=some o∧o.ExactDict∧o.data=.dict es ep∧es.toList=xs.map (entryOfKey (tupleKind (fJ P w)))∧(xs.map (·.1)).Nodup
 | .set S n=>h.SetOf (intKind P w) a S n
 | .ins C dx fs=>H dx=some (.own a)∧fs.length≤1000∧dx≠a∧h.get? a=some (PySem.W.instObj C dx) ∧
   ∃ mA,h.Ns1 dx mA∧(∀ f,rR (fs.lookup f) (mA f))∧PySem.Within mA (fs.map (·.1))
 | .own _=>∃ o,h.get? a=some o
 | .xd fs=>∃ mA,h.Ns1 a mA∧∀ f,rR (fs.lookup f) (mA f)
 | .rng lo hi=>∃ t u v,h.get? a=some { cls:=.type "range",data:=.fields #[.int lo t,.int hi u,.int 1 v] }
 | .frz o u=>h.get? a=some o∧dM H h a u
 | .tbl ps=>h.get? a=some { cls:=.none,data:=.fields ps }
 | .met f x=>h.get? a=some (PySem.W.methodObj (.ref f) (.ref x))
 | .ext φ=>φ h∧(∃ o,h.get? a=some o)∧∀ h1 h2:Heap,φ h1->(∀ o,h1.get? a=some o->h2.get? a=some o)->φ h2
noncomputable def HOk (H:Hp) (h:Heap):Prop:=∀ a o,H a=some o->dM P w H h a o
end
section
variable {P:Program}{w:World}{H H':Hp}{h h':Heap}{a:Addr}{o:HO}
theorem dM.lt (x:dM P w H h a o):a < h.objs.size:=by
 cases o with
 | lst xs=>obtain ⟨_,_,_,_,e⟩:=x;exact Zaj e
 | tup xs=>obtain ⟨_,_,_,p⟩:=x;exact p.lt
 | dK kvs=>obtain ⟨_,_,_,_,o,_,_,e,_⟩:=x;exact Zaj e
 | dT kvs=>obtain ⟨_,_,_,_,o,_,_,e,_⟩:=x;exact Zaj e
 | set S n=>obtain ⟨o,_,_,_,e,_⟩:=x;exact Zaj e
 | ins C dx fs=>obtain ⟨_,_,_,e,_⟩:=x;exact Zaj e
 | own y=>obtain ⟨_,e⟩:=x;exact Zaj e
 | xd fs=>obtain ⟨_,⟨_,_,_,e,_⟩,_⟩:=x;exact Zaj e
 | rng lo hi=>obtain ⟨_,_,_,e⟩:=x;exact Zaj e
 | frz ob u=>obtain ⟨e,_⟩:=x;exact Zaj e
 | tbl ps=>exact Zaj (show h.get? a=some _ from x)
 | met f y=>exact Zaj (show h.get? a=some _ from x)
 | ext φ=>obtain ⟨_,⟨_,e⟩,_⟩:=x;exact Zaj e
theorem Paired.Pj {α β:Type}{F G:α->β->Prop}:∀ {l₁:List α}{l₂:List β},Paired F l₁ l₂->(∀ a b,F a b->G a b)->Paired G l₁ l₂
 | _,_,.nil,_=>.nil
 | _,_,.cons r t,f=>.cons (f _ _ r) (Paired.Pj t f)
theorem dM.stay (x:dM P w H h a o) (k:∀ b u,(b=a∨H b=some (.own a))->h.get? b=some u->h'.get? b=some u)
  (ho:∀ b,H b=some (.own a)->H' b=some (.own a)) (ht:∀ b xs,H b=some (.tup xs)->H' b=some (.tup xs)):dM P w H' h' a o:=by
 induction o with
 | lst xs=>obtain ⟨z,its,n,r,e⟩:=x;exact ⟨z,its,n,r,k _ _ (.inl rfl) e⟩
 | tup xs=>obtain ⟨z,its,r,c⟩:=x;exact ⟨z,its,r,c.at' fun o e=>k _ _ (.inl rfl) e⟩
 | dK kvs=>obtain ⟨z,y,vs,r,ob,es,ep,e,c⟩:=x;exact ⟨z,y,vs,r,ob,es,ep,k _ _ (.inl rfl) e,c⟩
 | dT kvs =>
  obtain ⟨z,y,xs,r,ob,es,ep,e,c⟩:=x
  exact ⟨z,y,xs,Paired.Pj r fun p q z=>⟨z.1,ht _ _ z.2.1,z.2.2⟩,ob,es,ep,k _ _ (.inl rfl) e,c⟩
 | set S n=>obtain ⟨ob,es,ep,t,e,c⟩:=x;exact ⟨ob,es,ep,t,k _ _ (.inl rfl) e,c⟩
 | ins C dx fs =>
  obtain ⟨d,z,ne,e,mA,⟨od,es,ep,e2,c⟩,r⟩:=x
  exact ⟨ho _ d,z,ne,k _ _ (.inl rfl) e,mA,⟨od,es,ep,k _ _ (.inr d) e2,c⟩,r⟩
 | own y=>obtain ⟨ob,e⟩:=x;exact ⟨ob,k _ _ (.inl rfl) e⟩
 | xd fs=>obtain ⟨mA,⟨od,es,ep,e,c⟩,r⟩:=x;exact ⟨mA,⟨od,es,ep,k _ _ (.inl rfl) e,c⟩,r⟩
 | rng lo hi=>obtain ⟨t,u,v,e⟩:=x;exact ⟨t,u,v,k _ _ (.inl rfl) e⟩
 | frz ob u ih=>obtain ⟨e,q⟩:=x;exact ⟨k _ _ (.inl rfl) e,ih q⟩
 | tbl ps =>
  have e:h.get? a=some { cls:=.none,data:=.fields ps }:=x
  show h'.get? a=some { cls:=.none,data:=.fields ps }
  exact k a _ (.inl rfl) e
 | met f y =>
  have e:h.get? a=some (PySem.W.methodObj (.ref f) (.ref y)):=x
  show h'.get? a=some (PySem.W.methodObj (.ref f) (.ref y))
  exact k a _ (.inl rfl) e
 | ext φ=>obtain ⟨p,⟨o,e⟩,st⟩:=x;exact ⟨st _ _ p fun o q=>k _ _ (.inl rfl) q,⟨o,k _ _ (.inl rfl) e⟩,st⟩
theorem HOk.lt (x:HOk P w H h) (e:H a=some o):a < h.objs.size:=(x a o e).lt
theorem HOk.fresh (x:HOk P w H h) (e:h.objs.size≤a):H a=none:=by
 cases q:H a with
 | none=>rfl
 | some u=>exact absurd (Zaq (x.lt q) e) (Zbb _)
theorem HOk.kept (x:HOk P w H h) (k:∀ b u,h.get? b=some u->h'.get? b=some u):HOk P w H h':=fun a o e =>
 (x a o e).stay (fun b u _ q=>k b u q) (fun _ q=>q) fun _ _ q=>q
theorem HOk.laid (x:HOk P w H h) (k:∀ b u,h.get? b=some u->h'.get? b=some u) (hp:h.objs.size≤a) (new:dM P w (upd H a o) h' a o):HOk P w (upd H a o) h':=fun b u e=>by
 have hn:=x.fresh hp
 by_cases hb:b=a
 ·subst hb;rw [aX] at e;cases e;exact new
 ·rw [aO hb] at e
  exact (x b u e).stay (fun c v _ q=>k c v q) (fun c q=>by rw [aO (b8 q hn)];exact q) fun c xs q=>by rw [aO (b8 q hn)];exact q
end
noncomputable def Rd (H:Hp) (a:Addr) (u:HO):Prop:=H a=some u∨∃ o,H a=some (.frz o u)
theorem Rd.of {H:Hp}{a:Addr}{u:HO} (h:H a=some u):Rd H a u:=.inl h
theorem Rd.ok {P:Program}{w:World}{H:Hp}{h:Heap}{a:Addr}{u:HO} (r:Rd H a u) (x:HOk P w H h):dM P w H h a u:=by
 rcases r with r | ⟨o,r⟩
 ·exact x a u r
 ·obtain ⟨_,q⟩:=x a _ r
  exact q
noncomputable def Mut:Option HO->Prop
 | some (.lst _)=>True
 | some (.dK _)=>True
 | some (.dT _)=>True
 | some (.set _ _)=>True
 | some (.ins _ _ _)=>True
 | some (.ext _)=>True
 | _=>False
section
variable {P:Program}{w:World}{H:Hp}{h h':Heap}{x e:Addr}{o':HO}
theorem HOk.write (ok:HOk P w H h) (mu:Mut (H x)) (he:e=x∨H e=some (.own x)) (k:∀ b u,b≠e->h.get? b=some u->h'.get? b=some u) (heo:∃ u,h'.get? e=some u)
  (new:dM P w (upd H x o') h' x o'):HOk P w (upd H x o') h':=fun b u q=>by
 have nown:∀ c y,H c=some (.own y)->c≠x:=fun c y r z=>by subst z;rw [r] at mu;exact mu
 have ntup:∀ c xs,H c=some (.tup xs)->c≠x:=fun c xs r z=>by subst z;rw [r] at mu;exact mu
 by_cases hb:b=x
 ·subst hb;rw [aX] at q;cases q;exact new
 ·rw [aO hb] at q
  by_cases hbe:b=e
  ·have q':H b=some (.own x):=by
    rcases he with z | z
    ·exact absurd (hbe.trans z) hb
    ·rw [hbe];exact z
   rw [q] at q';cases q'
   obtain ⟨v,hv⟩:=heo
   exact ⟨v,by rw [hbe];exact hv⟩
  ·refine (ok b u q).stay (fun c v hc r=>k c v ?_ r) (fun c r=>by rw [aO (nown c b r)];exact r) fun c xs r=>by rw [aO (ntup c xs r)];exact r
   rcases hc with rfl | hc
   ·exact hbe
   ·rintro rfl
    rcases he with z | z
    ·exact nown c b hc z
    ·rw [hc] at z;cases z;exact hb rfl
end
structure Un (fs ex:List Addr) (H H':Hp) (h h':Heap):Prop where
 keep:∀ b o,h.get? b=some o->H b=none->b ∉ fs->b ∉ ex->h'.get? b=some o
 slot:∀ b o,h.get? b=some o->H b=none->b∈fs->b ∉ ex->∃ sl,h'.get? b=some { o with slots:=sl }
 free:∀ b o,h.get? b=some o->H b=none->b ∉ ex->H' b=none
 there:∀ b o,h.get? b=some o->b ∉ ex->∃ o',h'.get? b=some o'
 tups:∀ b xs,H b=some (.tup xs)->H' b=some (.tup xs)
 frzs:∀ b o u,H b=some (.frz o u)->H' b=some (.frz o u)
 tbls:∀ b ps,H b=some (.tbl ps)->∃ more,H' b=some (.tbl (ps++more))
section
variable {fs fs' ex ex':List Addr}{H H1 H2:Hp}{h h1 h2 h':Heap}{a x e:Addr}{o:HO}
theorem Un.any (u:Un fs ex H H1 h h1) {b:Addr}{ob:Obj} (q:h.get? b=some ob) (n:H b=none) (hx:b ∉ ex):∃ sl,h1.get? b=some { ob with slots:=sl }:=by
 by_cases hb:b∈fs
 ·exact u.slot b ob q n hb hx
 ·exact ⟨ob.slots,u.keep b ob q n hb hx⟩
theorem Un.trans (a:Un fs ex H H1 h h1) (b:Un fs ex H1 H2 h1 h2):Un fs ex H H2 h h2 where
 keep:=fun c ob q n hc hx=>b.keep c ob (a.keep c ob q n hc hx) (a.free c ob q n hx) hc hx
 slot:=fun c ob q n hc hx=>by
  obtain ⟨sl,e1⟩:=a.slot c ob q n hc hx
  obtain ⟨sl',e2⟩:=b.slot c _ e1 (a.free c ob q n hx) hc hx
  exact ⟨sl',e2⟩
 free:=fun c ob q n hx=>by
  obtain ⟨o',e1⟩:=a.there c ob q hx
  exact b.free c o' e1 (a.free c ob q n hx) hx
 there:=fun c ob q hx=>by
  obtain ⟨o',e1⟩:=a.there c ob q hx
  exact b.there c o' e1 hx
 tups:=fun c xs q=>b.tups c xs (a.tups c xs q)
 frzs:=fun c ob xs q=>b.frzs c ob xs (a.frzs c ob xs q)
 tbls:=fun c ps q=>by
  obtain ⟨m1,e1⟩:=a.tbls c ps q
  obtain ⟨m2,e2⟩:=b.tbls c _ e1
  exact ⟨m1++m2,by rw [e2,Array.append_assoc]⟩
theorem Un.kept (k:∀ b u,h.get? b=some u->h'.get? b=some u):Un fs ex H H h h' :=
 ⟨fun b ob q _ _ _=>k b ob q,fun b ob q _ _ _=>⟨ob.slots,k b ob q⟩,fun _ _ _ n _=>n,fun b ob q _=>⟨ob,k b ob q⟩,fun _ _ q=>q,fun _ _ _ q=>q,fun _ ps q=>⟨#[],by rw [q];simp⟩⟩
theorem Un.refl:Un fs ex H H h h:=Un.kept fun _ _ q=>q
theorem Un.laid (k:∀ b u,h.get? b=some u->h'.get? b=some u) (hp:h.objs.size≤a) (hn:H a=none):Un fs ex H (upd H a o) h h' where
 keep:=fun b u q _ _ _=>k b u q
 slot:=fun b u q _ _ _=>⟨u.slots,k b u q⟩
 free:=fun b u q n _=>by rw [aO (Zay (Zaq (Zaj q) hp))];exact n
 there:=fun b u q _=>⟨u,k b u q⟩
 tups:=fun b xs q=>by rw [aO (b8 q hn)];exact q
 frzs:=fun b u xs q=>by rw [aO (b8 q hn)];exact q
 tbls:=fun b ps q=>⟨#[],by rw [aO (b8 q hn),q];simp⟩
theorem Un.write (mu:Mut (H x)) (he:e=x∨H e=some (.own x)) (k:∀ b u,b≠e->h.get? b=some u->h'.get? b=some u) (heo:∃ u,h'.get? e=some u):Un fs ex H (upd H x o) h h':=by
 have hx:∀ b,H b=none->b≠x:=fun b n z=>by subst z;rw [n] at mu;exact mu
 have hb:∀ b,H b=none->b≠e:=fun b n z=>by
  subst z
  rcases he with r | r
  ·exact hx b n r
  ·rw [n] at r;cases r
 have hm:∀ b u,H b=some u->¬Mut (some u)->b≠x:=fun b u q nm z=>by subst z;rw [q] at mu;exact nm mu
 refine ⟨fun b u q n _ _=>k b u (hb b n) q,fun b u q n _ _=>⟨u.slots,k b u (hb b n) q⟩,fun b u q n _=>by rw [aO (hx b n)];exact n,fun b u q _=>?_,
  fun b xs q=>by rw [aO (hm b _ q fun z=>z)];exact q,fun b u xs q=>by rw [aO (hm b _ q fun z=>z)];exact q,fun b ps q=>⟨#[],by rw [aO (hm b _ q fun z=>z),q];simp⟩⟩
 by_cases hbe:b=e
 ·subst hbe;exact heo
 ·exact ⟨u,k b u hbe q⟩
theorem Un.mono (u:Un fs ex H H1 h h1) (hs:∀ b∈fs,b∈fs') (hx:∀ b∈ex,b∈ex'):Un fs' ex' H H1 h h1 :=
 ⟨fun b ob q n hb he=>u.keep b ob q n (fun z=>hb (hs b z)) fun z=>he (hx b z),fun _ _ q n _ he=>u.any q n fun z=>he (hx _ z),fun b ob q n he=>u.free b ob q n fun z=>he (hx b z),fun b ob q he=>u.there b ob q fun z=>he (hx b z),u.tups,u.frzs,u.tbls⟩
end
noncomputable def trk (h:Heap) (H:Hp):List Addr:=(List.range h.objs.size).filter fun a=>(H a).isSome
noncomputable def yF (h:Heap) (H:Hp):Heap:=PySem.W.hideAll h (trk h H)
theorem Gy (h:Heap) (H:Hp):(yF h H).objs.size=h.objs.size:=PySem.W.hideAll_size _ _
theorem Jd {h:Heap}{H:Hp}{b:Addr}{o:Obj} (e:h.get? b=some o) (n:H b=none):(yF h H).get? b=some o :=
 PySem.W.hideAll_get _ e fun hm=>by
  have q:(H b).isSome=true:=(List.mem_filter.mp hm).2
  rw [n] at q;simp at q
theorem Lh {h:Heap}{H:Hp}{b:Addr}{o:Obj} (e:(yF h H).get? b=some o):h.get? b=some o∧H b=none:=by
 have e':h.get? b=some o:=PySem.W.of_hideAll (trk h H) e
 refine ⟨e',?_⟩
 cases q:H b with
 | none=>rfl
 | some x =>
  have hm:b∈trk h H:=List.mem_filter.mpr ⟨Zbh.mpr (Zaj e'),by simp [q]⟩
  have z:(yF h H).get? b=none:=PySem.W.hideAll_none (trk h H) hm
  rw [z] at e;cases e
noncomputable def Li (g h:Heap) (L:Addr):List (Addr×Obj):=(List.range h.objs.size).filterMap fun a=>if a=L∨(g.get? a).isSome=true then none else (h.get? a).map fun o=>(a,o)
noncomputable def rest (g h:Heap) (L d:Addr):List (Addr×Obj):=(Li g h L).filter fun p=>decide (p.1≠d)
structure Mod (K:PySem.W.Frag) (mg:Str->Option Value) (base:Heap):Prop where
 kin:K.In base
 glob:base.Ns mainGlobals mg
 blt:∃ mb,base.Ns builtinsNs mb∧∀ x:Str,x≠"__name__"->mb x=bootBuiltins x
 nolimit:base.NoLimit
structure Cx where
 prog:Program
 w:World
 K:PySem.W.Frag
 mg:Str->Option Value
 base:Heap
 A:Around
 N:List Str
 s₀:Shared
 H₀:Hp
 env:Env
 outer:List Env
 stack:List Env
 ex:List Addr
 fn:Str->Bool
 calm:Bool
 pn:List (Addr×Obj)
 xe:Value->Shared->Prop
noncomputable def frs (l:List Env):List Addr:=l.filterMap (·.frame)
noncomputable abbrev Cx.fs (X:Cx):List Addr:=frs X.outer
noncomputable def Vis (sc:Scope) (x:Str):Prop:=sc.names.lookup x=some .local∨sc.names.lookup x=some .cell∨sc.names.lookup x=some .free
noncomputable def Loc (sc:Scope) (x:Str):Prop:=sc.names.lookup x=some .local∨sc.names.lookup x=some .cell
noncomputable def Look (env:Env) (h:Heap) (m:Str->Option Value) (x:Str) (u:Value):Prop :=
 (env.kindOf x=some .local∧m x=some u)∨((env.kindOf x=some .cell∨env.kindOf x=some .free)∧∃ c,env.cells.lookup x=some c∧h.IsCell c (some u))
structure Cx.Ok (X:Cx):Prop where
 mod:Mod X.K X.mg X.base
 kind:X.env.scope.kind=.function
 glob:X.env.globals=mainGlobals
 blt:X.env.builtins=builtinsNs
 above:X.s₀.heap.objs.size≤X.env.locals
 inj:∀ x y c,X.env.cells.lookup x=some c->X.env.cells.lookup y=some c->x=y
 has:∀ x,(X.env.kindOf x=some .cell∨X.env.kindOf x=some .free)->∃ c,X.env.cells.lookup x=some c
 cab:∀ x c,X.fn x=true->X.env.cells.lookup x=some c->X.s₀.heap.objs.size≤c
 hd:X.calm=true->X.A.handled=none
 frames:X.A.frames=some X.stack
 stk:X.stack=X.outer∨(X.stack=X.env::X.outer∧X.env.frame=some X.env.locals)
 exf:∀ b∈X.ex,b≠X.env.locals∧∀ x c,X.env.cells.lookup x=some c->c≠b
 bs:∀ b o,X.base.get? b=some o->X.s₀.heap.get? b=some o∧X.H₀ b=none
 bsz:X.base.objs.size≤X.s₀.heap.objs.size
 noex:∀ b o,X.base.get? b=some o->b ∉ X.ex
 exfs:∀ b∈X.ex,b ∉ X.fs
 qx:X.s₀.heap.FunFrames X.base X.outer
 frf:∀ b∈X.fs,X.H₀ b=none
structure Inv (X:Cx) (pins:List (Addr×Obj)) (σ:List (Option V)) (H:Hp) (s:Shared):Prop where
 ok:X.Ok
 os:s.os=X.s₀.os
 bare:AllBare s.gens
 base:Un X.fs X.ex X.H₀ H X.s₀.heap s.heap
 loc:∃ m,s.heap.Ns X.env.locals m∧∀ (i:Nat) (x:Str) (v:V),X.N[i]?=some x->σ[i]?=some (some v)->Vis X.env.scope x->∃ u,RelV v u∧Look X.env s.heap m x u
 cell:∀ x c,X.env.cells.lookup x=some c->∃ v,s.heap.IsCell c v
 free:H X.env.locals=none
 freeC:∀ x c,X.env.cells.lookup x=some c->H c=none
 pin:∀ p∈X.pn++pins,s.heap.get? p.1=some p.2∧H p.1=none∧p.1≠X.env.locals∧p.1 ∉ X.fs∧∀ v,p.2.data≠.cell v
 hok:HOk X.prog X.w H s.heap
 len:σ.length=X.N.length
section
variable {X:Cx}{pins:List (Addr×Obj)}{σ:List (Option V)}{H H':Hp}{s:Shared}{h':Heap}
theorem Cx.Ok.Pk (ok:X.Ok) {b:Addr}{o:Obj} (e:X.base.get? b=some o):b ∉ X.fs:=fun hb=>by
 have:=(ok.qx.mem hb).1
 rw [e] at this;cases this
theorem Inv.bs (I:Inv X pins σ H s):∀ b o,X.base.get? b=some o->s.heap.get? b=some o∧H b=none:=fun b o e =>
 ⟨I.base.keep b o (I.ok.bs b o e).1 (I.ok.bs b o e).2 (I.ok.Pk e) (I.ok.noex b o e),I.base.free b o (I.ok.bs b o e).1 (I.ok.bs b o e).2 (I.ok.noex b o e)⟩
theorem Inv.bk (I:Inv X pins σ H s):∀ b o,X.base.get? b=some o->s.heap.get? b=some o:=fun b o e=>(I.bs b o e).1
theorem Inv.mod (I:Inv X pins σ H s):Mod X.K X.mg X.base:=I.ok.mod
theorem Inv.kIn (I:Inv X pins σ H s):X.K.In s.heap:=I.ok.mod.kin.keeps I.bk
theorem Inv.nolimit (I:Inv X pins σ H s):s.heap.NoLimit:=I.ok.mod.nolimit.keeps I.bk
theorem Inv.fr (I:Inv X pins σ H s):∃ m,Fr X.base X.env.locals s.heap m :=
 let ⟨m,hn,_⟩:=I.loc
 ⟨m,hn,I.bk,Zad I.ok.bsz I.ok.above⟩
theorem Inv.lt (I:Inv X pins σ H s):X.env.locals < s.heap.objs.size:=let ⟨_,hn,_⟩:=I.loc;hn.lt
theorem Inv.sz (I:Inv X pins σ H s):X.s₀.heap.objs.size≤s.heap.objs.size:=Zad I.ok.above (Nat.le_of_lt I.lt)
theorem Inv.TV (I:Inv X pins σ H s) {a:Addr} (h:s.heap.objs.size≤a):a ∉ X.fs:=fun hb=>by
 obtain ⟨_,o,ho,_⟩:=I.ok.qx.mem hb
 exact absurd (Zaq (Zaj ho) (Zad I.sz h)) (Zbb _)
theorem Inv.cne (I:Inv X pins σ H s):∀ x c,X.env.cells.lookup x=some c->c≠X.env.locals:=fun x c e z=>by
 obtain ⟨v,o,ho,hd⟩:=I.cell x c e
 obtain ⟨m,⟨o',es,ep,ho',hd',_⟩,_⟩:=I.loc
 rw [z,ho'] at ho;cases ho;rw [hd'] at hd;cases hd
theorem Inv.qx (I:Inv X pins σ H s):s.heap.FunFrames X.base X.outer:=by
 have all:∀ (l:List Env),(∀ b∈frs l,b∈X.fs)->X.s₀.heap.FunFrames X.base l->s.heap.FunFrames X.base l:=by
  intro l
  induction l with
  | nil=>intro _ _;trivial
  | cons env r ih =>
   intro hs hl
   obtain ⟨hk,⟨L,o,hf,hn,ho,hd⟩,hr⟩:=hl
   have hL:L∈X.fs:=hs L (by unfold frs;rw [List.filterMap_cons,hf];exact List.mem_cons_self)
   obtain ⟨sl,e⟩:=I.base.slot L o ho (I.ok.frf L hL) hL fun z=>I.ok.exfs L z hL
   exact ⟨hk,⟨L,_,hf,hn,e,hd⟩,ih (fun b hb=>hs b (by unfold frs;rw [List.filterMap_cons,hf];exact List.mem_cons_of_mem _ hb)) hr⟩
 exact all X.outer (fun _ hb=>hb) I.ok.qx
theorem Inv.stack (I:Inv X pins σ H s):s.heap.FunFrames X.base X.stack:=by
 rcases I.ok.stk with e | ⟨e,hf⟩
 ·rw [e];exact I.qx
 ·rw [e]
  obtain ⟨m,hn,_⟩:=I.loc
  refine .cons (by rw [I.ok.kind];decide) hf hn ?_ I.qx
  exact Heap.get?_none_of_le (Zad I.ok.bsz I.ok.above)
theorem Inv.yG (I:Inv X pins σ H s):∀ b∈frs X.stack,b∈X.env.locals::X.fs:=fun b hb=>by
 rcases I.ok.stk with e | ⟨e,hf⟩
 ·rw [e] at hb;exact List.mem_cons_of_mem _ hb
 ·rw [e] at hb
  unfold frs at hb
  rw [List.filterMap_cons,hf] at hb
  exact hb
theorem Inv.yH (I:Inv X pins σ H s):∀ b∈frs X.stack,H b=none:=fun b hb=>by
 rcases Zao.mp (I.yG b hb) with e | hb
 ·rw [e];exact I.free
 ·obtain ⟨_,o,ho,_⟩:=I.ok.qx.mem hb
  exact I.base.free b o ho (I.ok.frf b hb) fun z=>I.ok.exfs b z hb
theorem Inv.step {g':Array GenState}{t':Nat}{d':Drawn}{ch:List Addr} (I:Inv X pins σ H s)
  (hch:∀ b∈ch,(b∈X.ex∨X.s₀.heap.objs.size≤b)∧b≠X.env.locals∧(∀ x c,X.env.cells.lookup x=some c->c≠b)∧∀ p∈X.pn++pins,p.1≠b)
  (keep:∀ b o,b≠X.env.locals->b ∉ X.fs->b ∉ ch->s.heap.get? b=some o->H b=none->h'.get? b=some o)
  (slot:∀ b o,b≠X.env.locals->b∈X.fs->b ∉ ch->s.heap.get? b=some o->H b=none->∃ sl,h'.get? b=some { o with slots:=sl }) (free:∀ b o,b ∉ ch->s.heap.get? b=some o->H b=none->H' b=none)
  (there:∀ b o,b ∉ ch->s.heap.get? b=some o->∃ o',h'.get? b=some o')
  (tups:∀ b xs,H b=some (.tup xs)->H' b=some (.tup xs)) (frzs:∀ b o u,H b=some (.frz o u)->H' b=some (.frz o u)) (tbls:∀ b ps,H b=some (.tbl ps)->∃ more,H' b=some (.tbl (ps++more)))
  (ns:∀ m,s.heap.Ns X.env.locals m->h'.Ns X.env.locals m) (hok:HOk X.prog X.w H' h') (hg:AllBare g') :
  Inv X pins σ H' { s with heap:=h',gens:=g',drawn:=d',toks:=t' }:=by
 have neL:∀ b o,X.s₀.heap.get? b=some o->b≠X.env.locals:=fun b o e=>Zay (Zaq (Zaj e) I.ok.above)
 have neC:∀ b o,X.s₀.heap.get? b=some o->b ∉ X.ex->b ∉ ch:=fun b o e hx hb=>by
  rcases (hch b hb).1 with z | z
  ·exact hx z
  ·exact absurd (Zaq (Zaj e) z) (Zbb _)
 have cellK:∀ x c,X.env.cells.lookup x=some c->∀ v,s.heap.IsCell c v->h'.IsCell c v:=fun x c e v ⟨o,ho,hd⟩=>by
  have nch:c ∉ ch:=fun z=>(hch c z).2.2.1 x c e rfl
  by_cases hc:c∈X.fs
  ·obtain ⟨sl,q⟩:=slot c o (I.cne x c e) hc nch ho (I.freeC x c e)
   exact ⟨_,q,hd⟩
  ·exact ⟨o,keep c o (I.cne x c e) hc nch ho (I.freeC x c e),hd⟩
 refine ⟨I.ok,I.os,hg,⟨fun b o e n hb hx=>?_,fun b o e n hb hx=>?_,fun b o e n hx=>?_,fun b o e hx=>?_,fun b xs e=>tups b xs (I.base.tups b xs e),fun b o xs e=>frzs b o xs (I.base.frzs b o xs e),fun b ps e=>?_⟩,?_,fun x c e=>?_,?_,fun x c e=>?_,fun p hp=>?_,hok,I.len⟩
 ·exact keep b o (neL b o e) hb (neC b o e hx) (I.base.keep b o e n hb hx) (I.base.free b o e n hx)
 ·obtain ⟨sl,e1⟩:=I.base.slot b o e n hb hx
  obtain ⟨sl',e2⟩:=slot b _ (neL b o e) hb (neC b o e hx) e1 (I.base.free b o e n hx)
  exact ⟨sl',e2⟩
 ·obtain ⟨o',e1⟩:=I.base.there b o e hx
  exact free b o' (neC b o e hx) e1 (I.base.free b o e n hx)
 ·obtain ⟨o',e1⟩:=I.base.there b o e hx
  exact there b o' (neC b o e hx) e1
 ·obtain ⟨m1,e1⟩:=I.base.tbls b ps e
  obtain ⟨m2,e2⟩:=tbls b _ e1
  exact ⟨m1++m2,by rw [e2,Array.append_assoc]⟩
 ·obtain ⟨m,hn,hl⟩:=I.loc
  refine ⟨m,ns m hn,fun i x v e1 e2 e3=>?_⟩
  obtain ⟨u,r,l⟩:=hl i x v e1 e2 e3
  refine ⟨u,r,?_⟩
  rcases l with l | ⟨k,c,e,z⟩
  ·exact .inl l
  ·exact .inr ⟨k,c,e,cellK x c e _ z⟩
 ·obtain ⟨v,z⟩:=I.cell x c e
  exact ⟨v,cellK x c e v z⟩
 ·obtain ⟨m,⟨o,_,_,ho,_⟩,_⟩:=I.loc
  exact free _ o (fun z=>(hch _ z).2.1 rfl) ho I.free
 ·obtain ⟨v,o,ho,hd⟩:=I.cell x c e
  exact free c o (fun z=>(hch c z).2.2.1 x c e rfl) ho (I.freeC x c e)
 ·obtain ⟨e,n,ne,nf,d⟩:=I.pin p hp
  have nch:p.1 ∉ ch:=fun z=>(hch p.1 z).2.2.2 p hp rfl
  exact ⟨keep p.1 p.2 ne nf nch e n,free p.1 p.2 nch e n,ne,nf,d⟩
theorem Inv.un {t':Nat} (I:Inv X pins σ H s) (u:Un X.fs [] H H' s.heap h') (hok:HOk X.prog X.w H' h'):Inv X pins σ H' { s with heap:=h',toks:=t' }:=by
 obtain ⟨m,⟨o,es,ep,ho,r⟩,_⟩:=id I.loc
 obtain ⟨sl,hL⟩:=u.any ho I.free (by simp)
 exact I.step (g':=s.gens) (d':=s.drawn) (ch:=[]) (fun _ z=>nomatch z) (fun b o _ hb _ e n=>u.keep b o e n hb (by simp)) (fun b o _ hb _ e n=>u.slot b o e n hb (by simp)) (fun b o _ e n=>u.free b o e n (by simp)) (fun b o _ e=>u.there b o e (by simp)) u.tups u.frzs u.tbls (fun m' hm=>by
  obtain ⟨o',es',ep',ho',r'⟩:=hm
  rw [ho] at ho';cases ho'
  exact ⟨_,es',ep',hL,r'⟩) hok I.bare
theorem Inv.call {g':Array GenState}{t':Nat}{d':Drawn}{ch:List Addr} (I:Inv X pins σ H s) (u:Un (frs X.stack) ch H H' s.heap h') (hok:HOk X.prog X.w H' h') (hg:AllBare g')
  (hch:∀ b∈ch,(b∈X.ex∨X.s₀.heap.objs.size≤b)∧b≠X.env.locals∧(∀ x c,X.env.cells.lookup x=some c->c≠b)∧∀ p∈X.pn++pins,p.1≠b) :
  Inv X pins σ H' { s with heap:=h',gens:=g',drawn:=d',toks:=t' }:=by
 obtain ⟨m,⟨o,es,ep,ho,r⟩,_⟩:=id I.loc
 obtain ⟨sl,hL⟩:=u.any ho I.free fun z=>(hch _ z).2.1 rfl
 exact I.step (ch:=ch) hch (fun b o hL hb hc e n=>u.keep b o e n (fun z=>(Zao.mp (I.yG b z)).elim hL hb) hc) (fun b o _ _ hc e n=>u.any e n hc) (fun b o hc e n=>u.free b o e n hc) (fun b o hc e=>u.there b o e hc) u.tups u.frzs u.tbls (fun m' hm=>by
  obtain ⟨o',es',ep',ho',r'⟩:=hm
  rw [ho] at ho';cases ho'
  exact ⟨_,es',ep',hL,r'⟩) hok hg
theorem Inv.turned {t':Nat}{it:Addr} (I:Inv X pins σ H s) (k:∀ b o,b≠it->s.heap.get? b=some o->h'.get? b=some o) (hn:H it=none) (hL:it≠X.env.locals)
  (h1:it∈X.ex∨X.s₀.heap.objs.size≤it) (h2:∀ x c,X.env.cells.lookup x=some c->c≠it) (h3:∀ p∈X.pn++pins,p.1≠it):Inv X pins σ H { s with heap:=h',toks:=t' }:=by
 have nit:∀ b u,H b=some u->b≠it:=fun b u e z=>by rw [z,hn] at e;cases e
 refine I.step (g':=s.gens) (d':=s.drawn) (ch:=[it]) (fun b hb=>?_) (fun b o _ _ hc e _=>k b o (fun z=>hc (by simp [z])) e) (fun b o _ _ hc e _=>⟨o.slots,k b o (fun z=>hc (by simp [z])) e⟩) (fun _ _ _ _ n=>n)
  (fun b o hc e=>⟨o,k b o (fun z=>hc (by simp [z])) e⟩) (fun _ _ e=>e) (fun _ _ _ e=>e) (fun b ps e=>⟨#[],by rw [e];simp⟩) (fun m hm=>?_) (fun b u e=>?_) I.bare
 ·have e:b=it:=by simpa using hb
  subst e
  exact ⟨h1,hL,h2,h3⟩
 ·obtain ⟨o,es,ep,ho,r⟩:=hm
  exact ⟨o,es,ep,k _ o (Za4 hL) ho,r⟩
 ·refine (I.hok b u e).stay (fun c v hc q=>k c v ?_ q) (fun _ q=>q) fun _ _ q=>q
  rcases hc with z | z
  ·rw [z];exact nit b u e
  ·exact nit c _ z
theorem Inv.tok (I:Inv X pins σ H s) (t:Nat):Inv X pins σ H { s with toks:=t }:=I.un (h':=s.heap) (t':=t) Un.refl I.hok
theorem Inv.kept {t':Nat} (I:Inv X pins σ H s) (k:∀ b u,s.heap.get? b=some u->h'.get? b=some u):Inv X pins σ H { s with heap:=h',toks:=t' }:=I.un (Un.kept k) (I.hok.kept k)
theorem Inv.laid {a:Addr}{o:HO}{t':Nat} (I:Inv X pins σ H s) (k:∀ b u,s.heap.get? b=some u->h'.get? b=some u) (hp:s.heap.objs.size≤a) (new:dM X.prog X.w (upd H a o) h' a o) :
  Inv X pins σ (upd H a o) { s with heap:=h',toks:=t' }:=I.un (Un.laid k hp (I.hok.fresh hp)) (I.hok.laid k hp new)
theorem Inv.write {x e:Addr}{o:HO}{t':Nat} (I:Inv X pins σ H s) (mu:Mut (H x)) (he:e=x∨H e=some (.own x)) (k:∀ b u,b≠e->s.heap.get? b=some u->h'.get? b=some u) (heo:∃ u,h'.get? e=some u)
  (new:dM X.prog X.w (upd H x o) h' x o):Inv X pins σ (upd H x o) { s with heap:=h',toks:=t' }:=I.un (Un.write mu he k heo) (I.hok.write mu he k heo new)
theorem Inv.weak {σ':List (Option V)} (I:Inv X pins σ H s) (hl:σ'.length=σ.length) (w:∀ (i:Nat) v,σ'[i]?=some (some v)->σ[i]?=some (some v)):Inv X pins σ' H s :=
 ⟨I.ok,I.os,I.bare,I.base,let ⟨m,hn,hl'⟩:=I.loc;⟨m,hn,fun i x v e1 e2 e3=>hl' i x v e1 (w i v e2) e3⟩,I.cell,I.free,I.freeC,I.pin,I.hok,hl.trans I.len⟩
theorem Inv.Eo {pins':List (Addr×Obj)} (I:Inv X pins σ H s) (h:∀ p∈pins',s.heap.get? p.1=some p.2∧H p.1=none∧p.1≠X.env.locals∧p.1 ∉ X.fs∧∀ v,p.2.data≠.cell v):Inv X pins' σ H s :=
 ⟨I.ok,I.os,I.bare,I.base,I.loc,I.cell,I.free,I.freeC,fun p hp=>(Zae.mp hp).elim (fun z=>I.pin p (List.mem_append_left _ z)) (h p),I.hok,I.len⟩
theorem vg {N:List Str} (hN:N.Nodup) {i j:Nat}{x:Str} (a:N[i]?=some x) (b:N[j]?=some x):i=j:=by
 obtain ⟨h1,e1⟩:=Zap.mp a
 obtain ⟨h2,e2⟩:=Zap.mp b
 exact (List.getElem_inj hN).mp (e1.trans e2.symm)
theorem xH {M:Model}{A:Around}{E:Value->Shared->Prop}{i:Nat}{x:Str}{v:V}{u:Value}{Q:Unit->Shared->Prop} (I:Inv X pins σ H s) (hN:X.N.Nodup) (hi:X.N[i]?=some x) (hx:Loc X.env.scope x) (r:RelV v u)
  (h:∀ s',Inv X pins (σ.set i (some v)) H s'->(∃ a,Heap.SameBut a s.heap s'.heap∧(a=X.env.locals∨X.env.cells.lookup x=some a))->Q () s') (hf:X.fn x=true∨X.env.scope.names.lookup x=some .local:=by first | exact .inl rfl | exact .inr rfl | assumption):wpAny M A (storeName X.env x u) Q E s:=by
 obtain ⟨m,hn,hl⟩:=id I.loc
 have hcls:(X.env.scope.kind == .class || (X.env.scope.kind == .module && X.env.locals != X.env.globals))=false:=by rw [I.ok.kind];rfl
 have hiσ:i < σ.length:=by rw [I.len];exact (Zap.mp hi).1
 have cne:=I.cne
 have tracked:∀ {a:Addr}{h':Heap},(∃ o,s.heap.get? a=some o∧H a=none)->Heap.SameBut a s.heap h'->HOk X.prog X.w H h':=fun {a h'} ha hs b ob e=>by
  obtain ⟨_,_,hfree⟩:=ha
  refine (I.hok b ob e).stay (fun c w' hc q=>(hs.2 c ?_).trans q) (fun _ q=>q) fun _ _ q=>q
  rintro rfl
  rcases hc with rfl | hc
  ·rw [hfree] at e;cases e
  ·rw [hfree] at hc;cases hc
 rcases hx with hk | hk
 ·refine wpAny_storeName_local hk hn (fun h' hn' hs=>?_) hcls
  obtain ⟨oL,_,_,hoL,_⟩:=id hn
  refine h _ ⟨I.ok,I.os,I.bare,⟨fun b o e n hb hx=>?_,fun b o e n hb hx=>?_,I.base.free,fun b o e hx=>?_,I.base.tups,I.base.frzs,I.base.tbls⟩,⟨_,hn',fun j y v' e1 e2 e3=>?_⟩,fun y c e=>?_,I.free,I.freeC,fun p hp=>?_,tracked ⟨oL,hoL,I.free⟩ hs,by simpa using I.len⟩ ⟨_,hs,.inl rfl⟩
  ·exact (hs.2 b (Zay (Zaq (Zaj e) I.ok.above))).trans (I.base.keep b o e n hb hx)
  ·obtain ⟨sl,e1⟩:=I.base.slot b o e n hb hx
   exact ⟨sl,(hs.2 b (Zay (Zaq (Zaj e) I.ok.above))).trans e1⟩
  ·obtain ⟨o',e1⟩:=I.base.there b o e hx
   exact ⟨o',(hs.2 b (Zay (Zaq (Zaj e) I.ok.above))).trans e1⟩
  ·by_cases hj:j=i
   ·subst hj
    rw [hi] at e1;cases e1
    rw [ZaS hiσ] at e2
    cases e2
    exact ⟨u,r,.inl ⟨hk,by simp⟩⟩
   ·rw [Zal (Za4 hj)] at e2
    obtain ⟨u',r',q⟩:=hl j y v' e1 e2 e3
    refine ⟨u',r',?_⟩
    rcases q with ⟨k,e⟩ | ⟨k,c,e,z⟩
    ·refine .inl ⟨k,?_⟩
     have:y≠x:=fun e=>hj (vg hN e1 (e ▸ hi))
     simp [this,e]
    ·exact .inr ⟨k,c,e,z.sameBut hs (cne y c e)⟩
  ·obtain ⟨w',z⟩:=I.cell y c e
   exact ⟨w',z.sameBut hs (cne y c e)⟩
  ·obtain ⟨e,n,ne,nf,d⟩:=I.pin p hp
   exact ⟨(hs.2 p.1 ne).trans e,n,ne,nf,d⟩
 ·have hfn:X.fn x=true:=by
   rcases hf with z | z
   ·exact z
   ·rw [z] at hk;cases hk
  obtain ⟨c,hc⟩:=I.ok.has x (.inl hk)
  obtain ⟨w',z⟩:=I.cell x c hc
  refine wpAny_storeName_cell I.ok.kind hk hc z (fun h' hc' hs=>?_)
  obtain ⟨oc,hoc,hocd⟩:=id z
  refine h { s with heap:=h' } ⟨I.ok,I.os,I.bare,⟨fun b o e n hb hx=>?_,fun b o e n hb hx=>?_,I.base.free,fun b o e hx=>?_,I.base.tups,I.base.frzs,I.base.tbls⟩,⟨m,hn.sameBut hs (Za4 (cne x c hc)),fun j y v' e1 e2 e3=>?_⟩,fun y c' e=>?_,I.free,I.freeC,fun p hp=>?_,tracked ⟨oc,hoc,I.freeC x c hc⟩ hs,by simpa using I.len⟩ ⟨c,hs,.inr hc⟩
  ·exact (hs.2 b (Zay (Zaq (Zaj e) (I.ok.cab x c hfn hc)))).trans (I.base.keep b o e n hb hx)
  ·obtain ⟨sl,e1⟩:=I.base.slot b o e n hb hx
   exact ⟨sl,(hs.2 b (Zay (Zaq (Zaj e) (I.ok.cab x c hfn hc)))).trans e1⟩
  ·obtain ⟨o',e1⟩:=I.base.there b o e hx
   exact ⟨o',(hs.2 b (Zay (Zaq (Zaj e) (I.ok.cab x c hfn hc)))).trans e1⟩
  ·by_cases hj:j=i
   ·subst hj
    rw [hi] at e1;cases e1
    rw [ZaS hiσ] at e2
    cases e2
    exact ⟨u,r,.inr ⟨.inl hk,c,hc,hc'⟩⟩
   ·rw [Zal (Za4 hj)] at e2
    obtain ⟨u',r',q⟩:=hl j y v' e1 e2 e3
    refine ⟨u',r',?_⟩
    rcases q with q | ⟨k,c',e,z'⟩
    ·exact .inl q
    ·refine .inr ⟨k,c',e,z'.sameBut hs ?_⟩
     rintro rfl
     exact hj (vg hN e1 (I.ok.inj _ _ _ e hc ▸ hi))
  ·by_cases hcc:c'=c
   ·subst hcc;exact ⟨_,hc'⟩
   ·obtain ⟨w2,z2⟩:=I.cell y c' e
    exact ⟨w2,z2.sameBut hs hcc⟩
  ·obtain ⟨e,n,ne,nf,d⟩:=I.pin p hp
   refine ⟨(hs.2 p.1 ?_).trans e,n,ne,nf,d⟩
   intro q
   rw [q,hoc] at e
   have q':oc=p.2:=Zab e
   exact d w' (by rw [←q'];exact hocd)
theorem rT {M:Model}{A:Around}{E:Value->Shared->Prop}{i:Nat}{x:Str}{v:V}{u:Value}{Q:Unit->Shared->Prop} (I:Inv X pins σ H s) (hN:X.N.Nodup) (hi:X.N[i]?=some x) (hx:Loc X.env.scope x) (r:RelV v u)
  (h:∀ s',Inv X pins (σ.set i (some v)) H s'->Q () s') (hf:X.fn x=true∨X.env.scope.names.lookup x=some .local:=by first | exact .inl rfl | exact .inr rfl | assumption):wpAny M A (storeName X.env x u) Q E s :=
 xH I hN hi hx r (fun s' I' _=>h s' I') hf
theorem Inv.call' {s':Shared}{ch:List Addr} (I:Inv X pins σ H s) (ho:s'.os=s.os) (u:Un (frs X.stack) ch H H' s.heap s'.heap) (hok:HOk X.prog X.w H' s'.heap) (hg:AllBare s'.gens)
  (hch:∀ b∈ch,(b∈X.ex∨X.s₀.heap.objs.size≤b)∧b≠X.env.locals∧(∀ x c,X.env.cells.lookup x=some c->c≠b)∧∀ p∈X.pn++pins,p.1≠b):Inv X pins σ H' s':=by
 obtain ⟨h',g',d',t',o'⟩:=s'
 have e:o'=s.os:=ho
 subst e
 exact I.call (g':=g') (t':=t') (d':=d') u hok hg hch
end
noncomputable abbrev XK:=Value->Option Addr->Hp->Prop
noncomputable abbrev St:=List (Option V)
noncomputable abbrev VK:=V->Hp->Prop
noncomputable abbrev TE:=St->Hp->VK->Prop
noncomputable abbrev TT:=St->Hp->(Bool->Hp->Prop)->Prop
noncomputable abbrev TA:=St->Hp->(List V->Hp->Prop)->Prop
structure Ends where
 nx:St->Hp->Prop
 rt:VK
 bk:St->Hp->Prop:=fun _ _=>False
 ct:St->Hp->Prop:=fun _ _=>False
noncomputable abbrev TS:=Ends->St->Hp->Prop
noncomputable def EP (X:Cx) (pins:List (Addr×Obj)) (σ:St) (Q:VK) (u:Value) (s':Shared):Prop:=∃ v H',Inv X pins σ H' s'∧RelV v u∧Q v H'
noncomputable def TP (X:Cx) (pins:List (Addr×Obj)) (σ:St) (Q:Bool->Hp->Prop) (b:Bool) (s':Shared):Prop:=∃ H',Inv X pins σ H' s'∧Q b H'
noncomputable def AP (X:Cx) (pins:List (Addr×Obj)) (σ:St) (Q:List V->Hp->Prop) (us:List Value) (s':Shared):Prop:=∃ vs H',Inv X pins σ H' s'∧Vals vs us∧Q vs H'
noncomputable def SP (X:Cx) (pins:List (Addr×Obj)) (D:Ends) (f:Flow) (s':Shared):Prop :=
 match f with
 | .next=>∃ σ' H',Inv X pins σ' H' s'∧D.nx σ' H'
 | .brk=>∃ σ' H',Inv X pins σ' H' s'∧D.bk σ' H'
 | .cont=>∃ σ' H',Inv X pins σ' H' s'∧D.ct σ' H'
 | .ret u=>∃ v σ' H',Inv X pins σ' H' s'∧RelV v u∧D.rt v H'
noncomputable def PE (X:Cx) (e:Expr) (t:TE):Prop :=
 ∀ (pins:List (Addr×Obj)) (s:Shared) (σ:St) (H:Hp) (Q:VK),Inv X pins σ H s->t σ H Q->wpAny (model X.prog X.w) X.A (eval e X.env) (EP X pins σ Q) X.xe s
noncomputable def PT (X:Cx) (e:Expr) (t:TT):Prop :=
 ∀ (pins:List (Addr×Obj)) (s:Shared) (σ:St) (H:Hp) (Q:Bool->Hp->Prop),Inv X pins σ H s->t σ H Q->wpAny (model X.prog X.w) X.A (isTrue e X.env (eval e X.env)) (TP X pins σ Q) X.xe s
noncomputable def PW (X:Cx) (e:Expr) (t:TT):Prop :=
 ∀ (whole:Sem Value) (pins:List (Addr×Obj)) (s:Shared) (σ:St) (H:Hp) (Q:Bool->Hp->Prop),Inv X pins σ H s->t σ H Q->wpAny (model X.prog X.w) X.A (isTrue e X.env whole) (TP X pins σ Q) X.xe s
theorem PW.pt {X:Cx}{e:Expr}{t:TT} (h:PW X e t):PT X e t:=h _
noncomputable def PA (X:Cx) (es:List Expr) (t:TA):Prop :=
 ∀ (pos:Pos) (pins:List (Addr×Obj)) (s:Shared) (σ:St) (H:Hp) (Q:List V->Hp->Prop),Inv X pins σ H s->t σ H Q->wpAny (model X.prog X.w) X.A (spliced (backTo pos (starEach es X.env))) (AP X pins σ Q) X.xe s
noncomputable def PS (X:Cx) (st:Stmt) (t:TS):Prop :=
 ∀ (pins:List (Addr×Obj)) (s:Shared) (σ:St) (H:Hp) (D:Ends),Inv X pins σ H s->t D σ H->wpAny (model X.prog X.w) X.A (exec st X.env) (SP X pins D) X.xe s
noncomputable def PSs (X:Cx) (st:List Stmt) (t:TS):Prop :=
 ∀ (pins:List (Addr×Obj)) (s:Shared) (σ:St) (H:Hp) (D:Ends),Inv X pins σ H s->t D σ H->wpAny (model X.prog X.w) X.A (execs st X.env) (SP X pins D) X.xe s
theorem thn {α:Type}{t:Sem α}{Q Q':α->Shared->Prop}{M:Model}{A:Around}{E:Value->Shared->Prop}{s:Shared} (h:wpAny M A t Q E s) (hQ:∀ a s,Q a s->Q' a s):wpAny M A t Q' E s:=wpAny_mono h hQ fun _ _ x=>x
section
variable {X:Cx}
noncomputable def qU (i:Nat):TE:=fun σ H Q=>∃ v,σ[i]?=some (some v)∧Q v H
noncomputable def tC (v:V):TE:=fun _ H Q=>Q v H
theorem Cr {i:Nat}{x:Str}{pos:Pos} (hN:X.N[i]?=some x) (hv:Vis X.env.scope x) (hd:(x == ("__debug__":Str))=false:=by decide) (hcd:(x == ("__classdict__":Str))=false:=by decide):PE X (.Name x pos) (qU i):=by
 intro pins s σ H Q I h
 obtain ⟨v,e,h⟩:=h
 obtain ⟨m,hn,hl⟩:=I.loc
 obtain ⟨u,r,l⟩:=hl i x v hN e hv
 have fin:EP X pins σ Q u s:=⟨v,H,I,r,h⟩
 rcases l with ⟨hk,hm⟩ | ⟨hk,c,hc,hcell⟩
 ·exact wpAny_Name (wpAny_loadName_local I.ok.kind hk hn hm fin) hd
 ·rcases hk with hk | hk
  ·exact wpAny_Name (wpAny_loadName_cell I.ok.kind hk hc hcell fin) hd
  ·exact wpAny_Name (wpAny_loadName_free I.ok.kind hk hc hcell fin hcd) hd
theorem au {i j pos}:PE X (.Constant (.int i) j pos) (tC (.int i)):=fun _ _ _ H _ I h=>wpAny_Constant_int ⟨.int i,H,I.tok _,⟨_,rfl⟩,h⟩
theorem Ep {b j pos}:PE X (.Constant (.bool b) j pos) (tC (.bl b)):=fun _ _ _ H _ I h=>Constant_bool ⟨.bl b,H,I,rfl,h⟩
theorem dN {j pos}:PE X (.Constant .none j pos) (tC .non):=fun _ _ _ H _ I h=>Constant_none ⟨.non,H,I,rfl,h⟩
theorem bD {x j pos}:PE X (.Constant (.str x) j pos) (tC (.str x)):=fun _ _ _ H _ I h=>Calls.Constant_str ⟨.str x,H,I.tok _,⟨_,rfl⟩,h⟩
noncomputable def Gl (X:Cx) (x:Str):Prop:=X.env.kindOf x=some .globalImplicit
theorem rU {E:Value->Shared->Prop}{pins:List (Addr×Obj)}{s:Shared}{σ:St}{H:Hp}{x:Str}{u:Value}{pos:Pos}{Q:Value->Shared->Prop} (I:Inv X pins σ H s) (hg:Gl X x) (hm:X.mg x=some u) (h:Q u s)
  (hd:(x == ("__debug__":Str))=false:=by decide):wpAny (model X.prog X.w) X.A (eval (.Name x pos) X.env) Q E s :=
 Calls.Name_function_global I.ok.kind hg (Calls.loadGlobal_global (by rw [I.ok.glob];exact I.mod.glob.keeps I.bk) hm h) hd
theorem o9 {E:Value->Shared->Prop}{pins:List (Addr×Obj)}{s:Shared}{σ:St}{H:Hp}{x:Str}{u:Value}{pos:Pos}{Q:Value->Shared->Prop} (I:Inv X pins σ H s) (hg:Gl X x) (hm:X.mg x=none) (hv:bootBuiltins x=some u) (h:Q u s)
  (hn:x≠"__name__":=by decide) (hd:(x == ("__debug__":Str))=false:=by decide):wpAny (model X.prog X.w) X.A (eval (.Name x pos) X.env) Q E s:=by
 obtain ⟨mb,h1,h2⟩:=I.mod.blt
 exact Calls.Name_function_global I.ok.kind hg (Calls.loadGlobal_builtin (by rw [I.ok.glob];exact I.mod.glob.keeps I.bk) hm (by rw [I.ok.blt];exact h1.keeps I.bk) ((h2 x hn).trans hv) h) hd
theorem yI {x:Str}{v:V}{u:Value}{pos:Pos} (hg:Gl X x) (hm:X.mg x=some u) (r:RelV v u) (hd:(x == ("__debug__":Str))=false:=by decide):PE X (.Name x pos) (tC v) :=
 fun _ _ _ H _ I h=>rU I hg hm ⟨v,H,I,r,h⟩ hd
theorem Lj {x:Str}{v:V}{u:Value}{pos:Pos} (hg:Gl X x) (hm:X.mg x=none) (hv:bootBuiltins x=some u) (r:RelV v u) (hn:x≠"__name__":=by decide) (hd:(x == ("__debug__":Str))=false:=by decide):PE X (.Name x pos) (tC v) :=
 fun _ _ _ H _ I h=>o9 I hg hm hv ⟨v,H,I,r,h⟩ hn hd
variable {a b:Expr}{ta tb:TE}{pos:Pos}
noncomputable def tB (t:TE):TT:=fun σ H Q=>t σ H fun x H1=>∃ c,x=.bl c∧Q c H1
theorem mX {e:Expr}{t:TE} (h:PE X e t) (he:∀ whole,isTrue e X.env whole=(do let v ←whole;standAt e.pos;holding [v] (truthy v)):=by intro _;rfl):PT X e (tB t):=by
 intro pins s σ H Q I hw
 refine isTrue_plain (thn (h pins s σ H _ I hw) fun v s1 ⟨x,H1,I1,r1,q1⟩=>?_) (he _)
 obtain ⟨d,rfl,q⟩:=q1
 cases r1
 exact wpAny_truthy_bool ⟨H1,I1,q⟩
variable {tA tB':TT}{rest:List Expr}
noncomputable def Rr (t u:TT):TT:=fun σ H Q=>t σ H fun c H1=>if c=true then u σ H1 Q else Q false H1
noncomputable def tOr (t u:TT):TT:=fun σ H Q=>t σ H fun c H1=>if c=true then Q true H1 else u σ H1 Q
noncomputable def Rt (t:TT):TT:=fun σ H Q=>t σ H fun c H1=>Q (!c) H1
theorem qj (ha:PT X a tA):PW X (.BoolOp .And [a] pos) tA:=by
 intro wh pins s σ H Q I h
 refine isTrue_and (thn (ha pins s σ H Q I h) fun c s1 e=>?_)
 cases c with
 | true=>exact isTrue_and_nil e
 | false=>exact e
theorem qW (ha:PT X a tA):PW X (.BoolOp .Or [a] pos) tA:=by
 intro wh pins s σ H Q I h
 refine isTrue_or (thn (ha pins s σ H Q I h) fun c s1 e=>?_)
 cases c with
 | false=>exact isTrue_or_nil e
 | true=>exact e
theorem ph (ha:PT X a tA) (hb:PW X (.BoolOp .And (b::rest) pos) tB'):PW X (.BoolOp .And (a::b::rest) pos) (Rr tA tB'):=by
 intro wh pins s σ H Q I h
 refine isTrue_and (thn (ha pins s σ H _ I h) fun c s1 ⟨H1,I1,q1⟩=>?_)
 cases c with
 | true=>exact hb wh pins s1 σ H1 Q I1 q1
 | false=>exact ⟨H1,I1,q1⟩
theorem pq (ha:PT X a tA) (hb:PW X (.BoolOp .Or (b::rest) pos) tB'):PW X (.BoolOp .Or (a::b::rest) pos) (tOr tA tB'):=by
 intro wh pins s σ H Q I h
 refine isTrue_or (thn (ha pins s σ H _ I h) fun c s1 ⟨H1,I1,q1⟩=>?_)
 cases c with
 | true=>exact ⟨H1,I1,q1⟩
 | false=>exact hb wh pins s1 σ H1 Q I1 q1
theorem pA (ha:PT X a tA):PT X (.UnaryOp .Not a pos) (Rt tA):=by
 intro pins s σ H Q I h
 exact isTrue_not (ha pins s σ H (fun c H1=>Q (!c) H1) I h)
noncomputable def Oa (ta tb:TE):TE:=fun σ H Q=>ta σ H fun x H1=>∃ c,x=.bl c∧if c=true then tb σ H1 Q else Q (.bl false) H1
noncomputable def Ob (ta:TE):TE:=fun σ H Q=>ta σ H fun x H1=>∃ c,x=.bl c∧Q (.bl (!c)) H1
theorem Je {op}{t:TE} (h:PE X a t):PE X (.BoolOp op [a] pos) t:=fun pins s σ H Q I hw=>BoolOp_one (h pins s σ H Q I hw)
theorem yJ (ha:PE X a ta) (hb:PE X (.BoolOp .And (b::rest) pos) tb):PE X (.BoolOp .And (a::b::rest) pos) (Oa ta tb):=by
 intro pins s σ H Q I h
 refine BoolOp_and (thn (ha pins s σ H _ I h) fun v s1 ⟨x,H1,I1,r1,q1⟩=>?_)
 obtain ⟨c,rfl,q1⟩:=q1
 cases r1
 refine wpAny_truthy_bool ?_
 cases c with
 | true=>exact hb pins s1 σ H1 Q I1 q1
 | false=>exact ⟨.bl false,H1,I1,rfl,q1⟩
theorem Pn (ha:PE X a ta):PE X (.UnaryOp .Not a pos) (Ob ta):=by
 intro pins s σ H Q I h
 refine UnaryOp_ (thn (ha pins s σ H _ I h) fun v s1 ⟨x,H1,I1,r1,q1⟩=>?_)
 obtain ⟨c,rfl,q1⟩:=q1
 cases r1
 exact not_of (wpAny_truthy_bool ⟨.bl (!c),H1,I1,rfl,q1⟩)
end
noncomputable def SqL (K:PySem.W.Frag) (H:Hp) (a:Addr) (xs:List V):Prop :=
 Rd H a (.lst xs) ∨
  ∃ (o:Obj) (its:Array Value) (n:Nat),K.lookup a=some o∧o.cls=.type "list"∧o.dict=none∧o.data=.seq its n∧its.size≤sizeLine∧Vals xs its.toList
noncomputable def SqT (K:PySem.W.Frag) (H:Hp) (a:Addr) (xs:List V):Prop :=
 Rd H a (.tup xs) ∨
  ∃ (o:Obj) (its:Array Value) (n:Nat),K.lookup a=some o∧o.cls=.type "tuple"∧o.data=.seq its n∧its.size≤sizeLine∧Vals xs its.toList
noncomputable def TX:Value->Option V
 | .none=>some .non
 | .bool b=>some (.bl b)
 | .int i _=>some (.int i)
 | .str x _=>some (.str x)
 | .bytes b _=>some (.byt b)
 | .float b _=>some (.flt b)
 | .ref a=>some (.ref a)
 | .type n=>some (.ty n)
 | _=>none
theorem RelV.abs {x:V}{u:Value} (r:RelV x u):TX u=some x:=by
 cases x with
 | non=>cases r;rfl
 | bl _=>cases r;rfl
 | int _=>obtain ⟨t,rfl⟩:=r;rfl
 | str _=>obtain ⟨t,rfl⟩:=r;rfl
 | byt _=>obtain ⟨t,rfl⟩:=r;rfl
 | flt _=>obtain ⟨t,rfl⟩:=r;rfl
 | ref _=>cases r;rfl
 | ty _=>cases r;rfl
theorem RelV.inj {x y:V}{u:Value} (r:RelV x u) (q:RelV y u):x=y:=Zab (r.abs.symm.trans q.abs)
theorem Vals.inj:∀ {xs ys:List V}{us:List Value},Vals xs us->Vals ys us->xs=ys
 | _,_,_,.nil,.nil=>rfl
 | _,_,_,.cons r t,.cons r' t'=>by rw [r.inj r',Vals.inj t t']
section
variable {X:Cx}{pins:List (Addr×Obj)}{σ:St}{H:Hp}{s:Shared}{a:Addr}{xs ys:List V}
theorem SqL.of {K:PySem.W.Frag} (h:H a=some (.lst xs)):SqL K H a xs:=.inl (.inl h)
theorem SqT.of {K:PySem.W.Frag} (h:H a=some (.tup xs)):SqT K H a xs:=.inl (.inl h)
theorem Inv.list (I:Inv X pins σ H s) (h:SqL X.K H a xs):∃ its:List Value,Vals xs its∧PlainL s.heap a its.toArray∧xs.length≤sizeLine:=by
 rcases h with h | ⟨o,its,n,hk,hc,hd,hs,hz,r⟩
 ·obtain ⟨z,its,n,r,e⟩:=h.ok I.hok
  exact ⟨its,r,⟨_,n,e,rfl,rfl,rfl⟩,z⟩
 ·refine ⟨its.toList,r,⟨o,n,I.kIn a o hk,hc,hd,by simpa using hs⟩,?_⟩
  have e:=r.length
  simp only [Array.length_toList] at e
  omega
theorem Inv.tuple (I:Inv X pins σ H s) (h:SqT X.K H a xs):∃ its:List Value,Vals xs its∧IsTup s.heap a its.toArray∧xs.length≤sizeLine:=by
 rcases h with h | ⟨o,its,n,hk,hc,hs,hz,r⟩
 ·obtain ⟨z,its,r,p⟩:=h.ok I.hok
  exact ⟨its,r,p.1,z⟩
 ·refine ⟨its.toList,r,⟨o,I.kIn a o hk,hc,n,by simpa using hs⟩,?_⟩
  have e:=r.length
  simp only [Array.length_toList] at e
  omega
theorem Inv.rW (I:Inv X pins σ H s) (h:SqL X.K H a xs) (h':SqL X.K H a ys):xs=ys:=by
 obtain ⟨its,r,⟨o,n,e,_,_,d⟩,_⟩:=I.list h
 obtain ⟨its',r',⟨o',n',e',_,_,d'⟩,_⟩:=I.list h'
 rw [e] at e';cases e'
 rw [d] at d'
 injection d' with d1 _
 have:its=its':=by simpa using congrArg Array.toList d1
 subst this
 exact r.inj r'
theorem Inv.xJ (I:Inv X pins σ H s) (h:SqT X.K H a xs) (h':SqT X.K H a ys):xs=ys:=by
 obtain ⟨its,r,⟨o,e,_,n,d⟩,_⟩:=I.tuple h
 obtain ⟨its',r',⟨o',e',_,n',d'⟩,_⟩:=I.tuple h'
 rw [e] at e';cases e'
 rw [d] at d'
 injection d' with d1 _
 have:its=its':=by simpa using congrArg Array.toList d1
 subst this
 exact r.inj r'
end
noncomputable abbrev Cx.wish (X:Cx) (E:Value->Shared->Prop):Cx:={ X with xe:=E }
noncomputable abbrev Cx.nox (X:Cx):Cx:=X.wish fun _ _=>False
theorem Cx.Ok.wish {X:Cx} (ok:X.Ok) (E:Value->Shared->Prop):(X.wish E).Ok :=
 ⟨ok.mod,ok.kind,ok.glob,ok.blt,ok.above,ok.inj,ok.has,ok.cab,ok.hd,ok.frames,ok.stk,ok.exf,ok.bs,ok.bsz,ok.noex,ok.exfs,ok.qx,ok.frf⟩
theorem Cx.Ok.gO {X:Cx}{E:Value->Shared->Prop} (ok:(X.wish E).Ok):X.Ok :=
 ⟨ok.mod,ok.kind,ok.glob,ok.blt,ok.above,ok.inj,ok.has,ok.cab,ok.hd,ok.frames,ok.stk,ok.exf,ok.bs,ok.bsz,ok.noex,ok.exfs,ok.qx,ok.frf⟩
section
variable {X:Cx}{pins:List (Addr×Obj)}{σ:St}{H:Hp}{s:Shared}{E:Value->Shared->Prop}
theorem Inv.wish (I:Inv X pins σ H s) (E:Value->Shared->Prop):Inv (X.wish E) pins σ H s:=⟨I.ok.wish E,I.os,I.bare,I.base,I.loc,I.cell,I.free,I.freeC,I.pin,I.hok,I.len⟩
theorem Inv.gO (I:Inv (X.wish E) pins σ H s):Inv X pins σ H s:=⟨I.ok.gO,I.os,I.bare,I.base,I.loc,I.cell,I.free,I.freeC,I.pin,I.hok,I.len⟩
theorem SP.gO {D:Ends}{f:Flow}{s':Shared} (h:SP (X.wish E) pins D f s'):SP X pins D f s':=by
 cases f with
 | next=>obtain ⟨σ',H',I,q⟩:=h;exact ⟨σ',H',I.gO,q⟩
 | brk=>obtain ⟨σ',H',I,q⟩:=h;exact ⟨σ',H',I.gO,q⟩
 | cont=>obtain ⟨σ',H',I,q⟩:=h;exact ⟨σ',H',I.gO,q⟩
 | ret u=>obtain ⟨v,σ',H',I,r,q⟩:=h;exact ⟨v,σ',H',I.gO,r,q⟩
theorem PE.nox {e:Expr}{t:TE} (h:PE X.nox e t):PE X e t:=fun pins s σ H Q I hw =>
 wpAny_mono (h pins s σ H Q (I.wish _) hw) (fun _ _ ⟨v,H',I',r,q⟩=>⟨v,H',I'.gO,r,q⟩) fun _ _ z=>False.elim z
theorem PT.nox {e:Expr}{t:TT} (h:PT X.nox e t):PT X e t:=fun pins s σ H Q I hw =>
 wpAny_mono (h pins s σ H Q (I.wish _) hw) (fun _ _ ⟨H',I',q⟩=>⟨H',I'.gO,q⟩) fun _ _ z=>False.elim z
theorem PSs.nox {st:List Stmt}{t:TS} (h:PSs X.nox st t):PSs X st t:=fun pins s σ H D I hw =>
 wpAny_mono (h pins s σ H D (I.wish _) hw) (fun _ _ q=>q.gO) fun _ _ z=>False.elim z
end
section
variable {X:Cx}{st:Stmt}{rest:List Stmt}{t u:TS}{e:Expr}{te:TE}{pos:Pos}
noncomputable def Oc:TS:=fun D σ H=>D.nx σ H
noncomputable def Ru (t u:TS):TS:=fun D σ H=>t { D with nx:=u D } σ H
theorem bz:PSs X [] Oc:=fun _ _ σ H _ I h=>wpAny_execs_nil ⟨σ,H,I,h⟩
theorem aA (h1:PS X st t) (h2:PSs X rest u):PSs X (st::rest) (Ru t u):=by
 intro pins s σ H D I h
 refine wpAny_execs_cons (thn (h1 pins s σ H { D with nx:=u D } I h) fun f s1 q=>?_)
 cases f with
 | next =>
  obtain ⟨σ',H',I',q⟩:=q
  exact h2 pins s1 σ' H' D I' q
 | ret v=>exact q
 | brk=>exact q
 | cont=>exact q
theorem aG (h1:PS X st t):PSs X [st] t:=by
 intro pins s σ H D I h
 refine wpAny_execs_cons (thn (h1 pins s σ H D I h) fun f s1 q=>?_)
 cases f with
 | next=>exact wpAny_execs_nil q
 | ret v=>exact q
 | brk=>exact q
 | cont=>exact q
theorem Inv.quiet {pins:List (Addr×Obj)}{σ:St}{H:Hp}{s:Shared} (I:Inv X pins σ H s):interactive X.env=false:=by simp [interactive,I.ok.kind]
noncomputable def Er (te:TE):TS:=fun D σ H=>te σ H fun _ H1=>D.nx σ H1
theorem dZ (he:PE X e te) (hs:swapsWith e none pos.line X.env=pure false:=by rfl):PS X (.Expr e pos) (Er te):=by
 intro pins s σ H D I h
 exact wpAny_Expr_any (thn (he pins s σ H _ I h) fun v s1 ⟨x,H1,I1,r1,q1⟩=>⟨σ,H1,I1,q1⟩) I.quiet hs
noncomputable def Lk (te:TE):TS:=fun D σ H=>te σ H D.rt
theorem bI (he:PE X e te):PS X (.Return (some e) pos) (Lk te):=by
 intro pins s σ H D I h
 exact wpAny_Return_some (thn (he pins s σ H _ I h) fun v s1 ⟨x,H1,I1,r1,q1⟩=>⟨x,σ,H1,I1,r1,q1⟩)
noncomputable def Rv (c:TT) (t u:TS):TS:=fun D σ H=>c σ H fun b H1=>if b=true then t D σ H1 else u D σ H1
theorem cB {c:Expr}{a b:List Stmt}{tc:TT} (hc:PT X c tc) (ha:PSs X a t) (hb:PSs X b u):PS X (.If c a b pos) (Rv tc t u):=by
 intro pins s σ H D I h
 refine wpAny_If (thn (hc pins s σ H _ I h) fun d s1 ⟨H1,I1,q1⟩=>?_)
 cases d with
 | true=>exact ha pins s1 σ H1 D I1 q1
 | false=>exact hb pins s1 σ H1 D I1 q1
end
noncomputable abbrev TG:=V->St->Hp->(St->Hp->Prop)->Prop
noncomputable abbrev TGs:=List V->St->Hp->(St->Hp->Prop)->Prop
noncomputable def PG (X:Cx) (target:Expr) (t:TG):Prop :=
 ∀ (pins:List (Addr×Obj)) (s:Shared) (σ:St) (H:Hp) (v:V) (u:Value) (Q:St->Hp->Prop),Inv X pins σ H s->RelV v u->t v σ H Q ->
  wpAny (model X.prog X.w) X.A (assign target X.env u) (fun _ s'=>∃ σ' H',Inv X pins σ' H' s'∧Q σ' H') X.xe s
noncomputable def PGs (X:Cx) (ts:List Expr) (t:TGs):Prop :=
 ∀ (pins:List (Addr×Obj)) (s:Shared) (σ:St) (H:Hp) (vs:List V) (us:List Value) (Q:St->Hp->Prop),Inv X pins σ H s->Vals vs us->t vs σ H Q ->
  wpAny (model X.prog X.w) X.A (assignInOrder ((assignEach ts X.env).map (·.2)) us) (fun _ s'=>∃ σ' H',Inv X pins σ' H' s'∧Q σ' H') X.xe s
noncomputable abbrev Pq:=V->V->V->Hp->(Hp->Prop)->Prop
noncomputable def Rw (X:Cx) (t:Pq):Prop :=
 ∀ (pins:List (Addr×Obj)) (s:Shared) (σ:St) (H:Hp) (o i v:V) (ov iv u:Value) (Q:Hp->Prop),Inv X pins σ H s->RelV o ov->RelV i iv->RelV v u->t o i v H Q ->
  wpAny (model X.prog X.w) X.A (setItem ov iv u) (fun _ s'=>∃ H',Inv X pins σ H' s'∧Q H') X.xe s
section
variable {X:Cx}{pos:Pos}
noncomputable def uD (i:Nat):TG:=fun v σ H Q=>Q (σ.set i (some v)) H
theorem cQ {i:Nat}{x:Str} (hN:X.N.Nodup) (hi:X.N[i]?=some x) (hx:Loc X.env.scope x) (hf:X.fn x=true∨X.env.scope.names.lookup x=some .local:=by first | exact .inl rfl | exact .inr rfl | assumption):PG X (.Name x pos) (uD i):=by
 intro pins s σ H v u Q I r h
 exact wpAny_assign_Name (rT I hN hi hx r (fun s' I'=>⟨_,H,I',h⟩) hf)
noncomputable def Rx:TGs:=fun vs σ H Q=>vs=[]∧Q σ H
noncomputable def Od (t:TG) (u:TGs):TGs:=fun vs σ H Q=>∃ v r,vs=v::r∧t v σ H fun σ' H'=>u r σ' H' Q
theorem rY:PGs X [] Rx:=by
 intro pins s σ H vs us Q I r h
 obtain ⟨e,h⟩:=h
 subst e
 cases r
 exact assignInOrder_nil ⟨σ,H,I,h⟩
theorem gj {e:Expr}{es:List Expr}{t:TG}{u:TGs} (h1:PG X e t) (h2:PGs X es u)
  (hs:(assignEach (e::es) X.env).map (·.2)=assign e X.env::(assignEach es X.env).map (·.2):=by rfl):PGs X (e::es) (Od t u):=by
 intro pins s σ H vs us Q I r h
 obtain ⟨v,vr,e1,h⟩:=h
 subst e1
 cases r with
 | cons r rr =>
  rw [hs]
  refine assignInOrder_cons (thn (h1 pins s σ H _ _ _ I r h) fun _ s1 ⟨σ1,H1,I1,q1⟩=>?_)
  exact h2 pins s1 σ1 H1 _ _ Q I1 rr q1
noncomputable def Ry (K:PySem.W.Frag) (n:Nat) (t:TGs):TG:=fun v σ H Q=>∃ a xs,v=.ref a∧SqT K H a xs∧xs.length=n∧t xs σ H Q
theorem vh {es:List Expr}{k:Nat}{t:TGs}{n:Nat} (hc:X.calm=true) (h:PGs X es t)
  (hn:(assignEach es X.env).length=n:=by rfl) (hst:(assignEach es X.env).findIdx? (·.1)=none:=by rfl):PG X (.Tuple es k pos) (Ry X.K n t):=by
 intro pins s σ H v u Q I r hw
 obtain ⟨a,xs,e1,hq,hl,hw⟩:=hw
 subst e1
 cases r
 obtain ⟨its,rv,ht,hz⟩:=I.tuple hq
 refine assign_Tuple_tuple (I.ok.hd hc) ht (by simp [hn,←hl,rv.length]) hst fun h' hx=>?_
 have I1:Inv X pins σ H { s with heap:=h' }:=I.kept (t':=s.toks) fun b o e=>hx b o (Zay (Zaj e)) e
 exact h pins _ σ H xs _ Q I1 (by simpa using rv) hw
noncomputable def Rz (to ti:TE) (t:Pq):TG:=fun v σ H Q=>to σ H fun o H1=>ti σ H1 fun i H2=>t o i v H2 fun H3=>Q σ H3
theorem yK {o i:Expr}{to ti:TE}{t:Pq} (ho:PE X o to) (hi:PE X i ti) (hs:Rw X t)
  (ha:∀ v,assign (.Subscript o i pos) X.env v=(do
   let ov ←holding [v] (eval o X.env)
   let iv ←holding [v,ov] (eval i X.env)
   standAt pos
   holding [v,ov,iv] (setItem ov iv v)
   release [v,ov,iv] []):=by intro _;rfl):PG X (.Subscript o i pos) (Rz to ti t):=by
 intro pins s σ H v u Q I r h
 rw [ha]
 refine wpAny_bind (wpAny_holding (thn (ho pins s σ H _ I h) fun ov s1 ⟨x,H1,I1,r1,q1⟩=>?_))
 refine wpAny_bind (wpAny_holding (thn (hi pins s1 σ H1 _ I1 q1) fun iv s2 ⟨y,H2,I2,r2,q2⟩=>?_))
 refine wpAny_bind (wpAny_standAt (wpAny_bind (wpAny_holding (thn (hs pins s2 σ H2 x y v ov iv u _ I2 r1 r2 r q2) fun _ s3 ⟨H3,I3,q3⟩=>?_))))
 exact wpAny_release ⟨σ,H3,I3,q3⟩
noncomputable def Aa (te:TE) (g:TG):TS:=fun D σ H=>te σ H fun x H1=>g x σ H1 D.nx
theorem vm {tg e:Expr}{te:TE}{g:TG} (he:PE X e te) (hg:PG X tg g) (hs:swapsWithSole [tg] e pos.line X.env=pure false:=by rfl) (hw:swappedStores [tg] e X.env=pure none:=by rfl)
  (h1:(assignEach [tg] X.env).map (·.2)=[assign tg X.env]:=by rfl):PS X (.Assign [tg] e pos) (Aa te g):=by
 intro pins s σ H D I h
 refine wpAny_Assign_stores (thn (he pins s σ H _ I h) fun v s1 ⟨x,H1,I1,r1,q1⟩=>?_) hs hw
 rw [h1]
 exact thn (hg pins s1 σ H1 x v _ I1 r1 q1) fun _ s2 q=>q
theorem bc {i:Nat}{x:Str}{e:Expr}{te:TE}{pos':Pos} (hN:X.N.Nodup) (hi:X.N[i]?=some x) (hx:Loc X.env.scope x) (he:PE X e te) (hs:swapsWith e (some (.Name x pos')) pos.line X.env=pure false:=by rfl) (hf:X.fn x=true∨X.env.scope.names.lookup x=some .local:=by first | exact .inl rfl | exact .inr rfl | assumption) :
  PS X (.Assign [.Name x pos'] e pos) (Aa te (uD i)):=by
 intro pins s σ H D I h
 refine wpAny_Assign_Name (thn (he pins s σ H _ I h) fun v s1 ⟨y,H1,I1,r1,q1⟩=>?_) hs
 exact rT I1 hN hi hx r1 (fun s2 I2=>⟨_,H1,I2,q1⟩) hf
end
section
variable {X:Cx}{pos:Pos}
end
structure It where
 go:Nat->Hp->Prop
 yld:Nat->Hp->V->Hp->Prop
 stop:Nat->Hp->Prop
noncomputable def vo (X:Cx) (pins:List (Addr×Obj)) (H:Hp) (b:Addr):Prop :=
 H b=none∧b≠X.env.locals∧b ∉ X.fs∧(b∈X.ex∨X.s₀.heap.objs.size≤b)∧(∀ x c,X.env.cells.lookup x=some c->c≠b)∧∀ p∈X.pn++pins,p.1≠b
theorem Inv.Ab {X:Cx}{pins:List (Addr×Obj)}{σ:St}{H H':Hp}{s:Shared}{b:Addr} (I:Inv X pins σ H s) (hb:s.heap.objs.size≤b) (hn:H' b=none):vo X pins H' b:=by
 refine ⟨hn,Nat.ne_of_gt (Zaq I.lt hb),I.TV hb,.inr (Zad I.sz hb),fun x c e z=>?_,fun p hp z=>?_⟩
 ·obtain ⟨v,q⟩:=I.cell x c e
  exact absurd (Zaq q.lt (by rw [z];exact hb)) (Zbb _)
 ·exact absurd (Zaq (Zaj (I.pin p hp).1) (by rw [z];exact hb)) (Zbb _)
structure Turn (P:Program) (w:World) (K:PySem.W.Frag) (tg:Expr) (J:It) (fp:List Addr) (it:Addr) (tn:Nat->Heap->Prop):Prop where
 mem:it∈fp
 obj:∀ i h,tn i h->∀ b∈fp,∃ o,h.get? b=some o∧∀ v,o.data≠.cell v
 keep:∀ i h h',tn i h->(∀ b∈fp,∀ o,h.get? b=some o->h'.get? b=some o)->tn i h'
 item:∀ (X:Cx),X.prog=P->X.w=w->X.K=K->X.calm=true->∀ (i:Nat) (pins:List (Addr×Obj)) (s:Shared) (σ:St) (H:Hp) (E:Value->Shared->Prop),Inv X pins σ H s->(∀ b∈fp,vo X pins H b)->tn i s.heap->J.go i H ->
  wpAny (model P w) X.A (pyNext (.ref it)) (fun r s1=>∃ u,r=some u ∧
   wpAny (model P w) X.A (letOwnedTupleGo tg (.ref it) u) (fun _ s2=>∃ x H',Inv X pins σ H' s2∧RelV x u∧J.yld i H x H'∧tn (i+1) s2.heap∧∀ b∈fp,H' b=none) E s1) E s
 done:∀ (X:Cx),X.prog=P->X.w=w->X.K=K->X.calm=true->∀ (i:Nat) (pins:List (Addr×Obj)) (s:Shared) (σ:St) (H:Hp) (E:Value->Shared->Prop),Inv X pins σ H s->(∀ b∈fp,vo X pins H b)->tn i s.heap->J.stop i H ->
  wpAny (model P w) X.A (pyNext (.ref it)) (fun r s1=>r=none∧Inv X pins σ H s1) E s
 self:∀ (A:Around) (i:Nat) (s:Shared) (Q:Value->Shared->Prop) (E:Value->Shared->Prop),tn i s.heap->Q (.ref it) s->wpAny (model P w) A (pyIter (.ref it)) Q E s
noncomputable abbrev TI:=St->Hp->(It->Hp->Prop)->Prop
noncomputable def PIE (X:Cx) (pins:List (Addr×Obj)) (σ:St) (tg:Expr) (R:It->Hp->Prop) (itv:Value) (s2:Shared):Prop :=
 ∃ (it:Addr) (fp:List Addr) (tn:Nat->Heap->Prop) (J:It) (H':Hp),itv=.ref it∧Inv X pins σ H' s2∧Turn X.prog X.w X.K tg J fp it tn∧tn 0 s2.heap∧(∀ b∈fp,vo X pins H' b)∧R J H'
noncomputable def PI (X:Cx) (tg iter:Expr) (wi:TI):Prop :=
 ∀ (pins:List (Addr×Obj)) (s:Shared) (σ:St) (H:Hp) (R:It->Hp->Prop),Inv X pins σ H s->wi σ H R ->
  wpAny (model X.prog X.w) X.A (eval iter X.env) (fun v s1=>wpAny (model X.prog X.w) X.A (pyIter v) (PIE X pins σ tg R) X.xe s1) X.xe s
theorem Ac {M:Model}{A:Around}{E:Value->Shared->Prop}{s:Shared}{tg:Expr}{it:Addr}{u:Value}{o:Obj}{n:String}{vs:Array Value}{Q:Unit->Shared->Prop} (ho:s.heap.get? it=some o) (hc:o.cls=.type n) (hd:o.data=.fields vs)
  (hn:["enumerate","zip","dict_itemiterator","dict_reverseitemiterator","odict_iterator","itertools.zip_longest","itertools.pairwise"].contains n=false) (hQ:Q () s):wpAny M A (letOwnedTupleGo tg (.ref it) u) Q E s:=by
 unfold letOwnedTupleGo
 cases tg <;> first
  | exact wpAny_pure hQ
  | (cases u <;> first
    | exact wpAny_pure hQ
    | (refine wpAny_bind (wpAny_load ho ?_)
       rw [hc,hd]
       show wpAny M A (if (["enumerate","zip","dict_itemiterator","dict_reverseitemiterator","odict_iterator","itertools.zip_longest","itertools.pairwise"].contains n && vs[0]? == some (rawInt _))=true then _ else _) Q E s
       rw [if_neg (by intro h;rw [hn,Bool.false_and] at h;cases h)]
       exact wpAny_pure hQ))
noncomputable def Itl (K:PySem.W.Frag) (a:Addr):It :=
 ⟨fun i H=>∃ xs x,SqL K H a xs∧xs[i]?=some x,fun i H x H'=>H'=H∧∀ xs,SqL K H a xs->xs[i]?=some x,fun i H=>∃ xs,SqL K H a xs∧xs.length≤i⟩
noncomputable def Itt (K:PySem.W.Frag) (a:Addr):It :=
 ⟨fun i H=>∃ xs x,SqT K H a xs∧xs[i]?=some x,fun i H x H'=>H'=H∧∀ xs,SqT K H a xs->xs[i]?=some x,fun i H=>∃ xs,SqT K H a xs∧xs.length≤i⟩
noncomputable def Itr (lo:Int) (n:Nat):It:=⟨fun i _=>i < n,fun i H x H'=>H'=H∧x=.int (lo+i),fun i _=>n≤i⟩
theorem Gz {P:Program}{w:World}{K:PySem.W.Frag}{tg:Expr} (a it:Addr):Turn P w K tg (Itl K a) [it] it (fun i h=>h.IsListIter it a i) where
 mem:=by simp
 obj:=fun i h st b hb=>by
  have e:b=it:=by simpa using hb
  subst e
  obtain ⟨o,e,c,d⟩:=st
  exact ⟨o,e,fun v z=>by rw [d] at z;cases z⟩
 keep:=fun i h h' st k=>st.at fun o e=>k it (by simp) o e
 item:=by
  intro X hP hw hK hc i pins s σ H E I hf st hg
  subst hP hw hK
  obtain ⟨xs,x,hq,hx⟩:=hg
  obtain ⟨its,rv,p,hz⟩:=I.list hq
  obtain ⟨u,hu,ru⟩:=rv.get hx
  obtain ⟨f0,f1,f2,f3,f4,f5⟩:=hf it (by simp)
  refine wpAny_pyNext_list_item st p.isList (x:=u) (by simpa using hu) fun h' st' sb=>?_
  have I1:Inv X pins σ H { s with heap:=h' }:=I.turned (t':=s.toks) (fun b o hb e=>(sb.2 b hb).trans e) f0 f1 f3 f4 f5
  obtain ⟨o,e,c,d⟩:=id st'
  exact ⟨u,rfl,Ac (s:={ s with heap:=h' }) e c d (by decide) ⟨x,H,I1,ru,⟨rfl,fun ys hy=>by rw [I.rW hy hq];exact hx⟩,st',fun b hb=>(hf b hb).1⟩⟩
 done:=by
  intro X hP hw hK hc i pins s σ H E I hf st hg
  subst hP hw hK
  obtain ⟨xs,hq,hx⟩:=hg
  obtain ⟨its,rv,p,hz⟩:=I.list hq
  obtain ⟨f0,f1,f2,f3,f4,f5⟩:=hf it (by simp)
  have hl:=rv.length
  exact wpAny_pyNext_list_end (I.ok.hd hc) st p.isList (by simp;omega) fun h' eb=>⟨rfl,I.turned (t':=s.toks) (fun b o hb e=>eb b o hb e) f0 f1 f3 f4 f5⟩
 self:=fun _ _ _ _ _ st h=>wpAny_pyIter_listiter st h
theorem Cu {P:Program}{w:World}{K:PySem.W.Frag}{tg:Expr} (a it:Addr):Turn P w K tg (Itt K a) [it] it (fun i h=>h.IsTupleIter it a i) where
 mem:=by simp
 obj:=fun i h st b hb=>by
  have e:b=it:=by simpa using hb
  subst e
  obtain ⟨o,e,c,d⟩:=st
  exact ⟨o,e,fun v z=>by rw [d] at z;cases z⟩
 keep:=fun i h h' st k=>st.at fun o e=>k it (by simp) o e
 item:=by
  intro X hP hw hK hc i pins s σ H E I hf st hg
  subst hP hw hK
  obtain ⟨xs,x,hq,hx⟩:=hg
  obtain ⟨its,rv,p,hz⟩:=I.tuple hq
  obtain ⟨u,hu,ru⟩:=rv.get hx
  obtain ⟨f0,f1,f2,f3,f4,f5⟩:=hf it (by simp)
  refine wpAny_pyNext_tuple_item st (show s.heap.IsTuple a its.toArray from p) (x:=u) (by simpa using hu) fun h' st' sb=>?_
  have I1:Inv X pins σ H { s with heap:=h' }:=I.turned (t':=s.toks) (fun b o hb e=>(sb.2 b hb).trans e) f0 f1 f3 f4 f5
  obtain ⟨o,e,c,d⟩:=id st'
  exact ⟨u,rfl,Ac (s:={ s with heap:=h' }) e c d (by decide) ⟨x,H,I1,ru,⟨rfl,fun ys hy=>by rw [I.xJ hy hq];exact hx⟩,st',fun b hb=>(hf b hb).1⟩⟩
 done:=by
  intro X hP hw hK hc i pins s σ H E I hf st hg
  subst hP hw hK
  obtain ⟨xs,hq,hx⟩:=hg
  obtain ⟨its,rv,p,hz⟩:=I.tuple hq
  obtain ⟨f0,f1,f2,f3,f4,f5⟩:=hf it (by simp)
  have hl:=rv.length
  exact wpAny_pyNext_tuple_end (I.ok.hd hc) st (show s.heap.IsTuple a its.toArray from p) (by simp;omega) fun h' eb=>⟨rfl,I.turned (t':=s.toks) (fun b o hb e=>eb b o hb e) f0 f1 f3 f4 f5⟩
 self:=fun _ _ _ _ _ st h=>wpAny_pyIter_tupleiter st h
theorem Cv {P:Program}{w:World}{K:PySem.W.Frag}{tg:Expr} (it:Addr) (lo:Int) (n:Nat):Turn P w K tg (Itr lo n) [it] it (fun i h=>IsRangeIter h it (lo+(i:Nat) * 1) ((n:Int) - (i:Nat)) 1) where
 mem:=by simp
 obj:=fun i h st b hb=>by
  have e:b=it:=by simpa using hb
  subst e
  exact ⟨_,st,fun v z=>by
   have z':Data.fields _=Data.cell v:=z
   cases z'⟩
 keep:=fun i h h' st k=>k it (by simp) _ st
 item:=by
  intro X hP hw hK hc i pins s σ H E I hf st hg
  subst hP hw hK
  obtain ⟨f0,f1,f2,f3,f4,f5⟩:=hf it (by simp)
  have W:=Walks.range (prog:=X.prog) (w:=X.w) (I.ok.hd hc) it lo 1 n
  refine W.item i s _ _ hg st fun v h' tk hv st' kk=>?_
  obtain ⟨t,rfl⟩:=hv
  have I1:Inv X pins σ H { s with heap:=h',toks:=tk }:=I.turned (fun b o hb e=>kk b o (by simpa using hb) e) f0 f1 f3 f4 f5
  refine ⟨_,rfl,Ac (s:={ s with heap:=h',toks:=tk }) (n:="range_iterator") st' rfl rfl (by decide) ⟨.int (lo+i),H,I1,⟨t,?_⟩,⟨rfl,rfl⟩,st',fun b hb=>(hf b hb).1⟩⟩
  rw [Int.mul_one]
 done:=by
  intro X hP hw hK hc i pins s σ H E I hf st hg
  subst hP hw hK
  obtain ⟨f0,f1,f2,f3,f4,f5⟩:=hf it (by simp)
  exact wpAny_pyNext_range_end (I.ok.hd hc) st (by have:n≤i:=hg;omega) fun h' eb=>⟨rfl,I.turned (t':=s.toks) (fun b o hb e=>eb b o hb e) f0 f1 f3 f4 f5⟩
 self:=fun _ _ _ _ _ st h=>wpAny_pyIter_rangeiter st h
section
variable {X:Cx}{tg:Expr}
theorem Ad {pins:List (Addr×Obj)}{σ:St}{H:Hp}{s:Shared}{R:It->Hp->Prop}{E:Value->Shared->Prop}{lo hi:Int}{t u v:Tok}{tk:Nat} (I:Inv X pins σ H s) (h1:-(2 ^ 62)≤lo) (h2:lo < 2 ^ 62) (h3:-(2 ^ 62)≤hi) (h4:hi < 2 ^ 62)
  (q:R (Itr lo (hi - lo).toNat) H):wpAny (model X.prog X.w) X.A (pyIter (.ref s.heap.objs.size)) (PIE X pins σ tg R) E { s with heap:=s.heap.push { cls:=.type "range",data:=.fields #[.int lo t,.int hi u,.int 1 v] },toks:=tk }:=by
 refine wpAny_pyIter_range (IsRange.new ..) (small_one h1 h2 h3 h4) ?_
 have I1:Inv X pins σ H { s with heap:=s.heap.push { cls:=.type "range",data:=.fields #[.int lo t,.int hi u,.int 1 v] },toks:=tk }:=I.kept fun b o e=>Zaa _ e
 refine ⟨(s.heap.push { cls:=.type "range",data:=.fields #[.int lo t,.int hi u,.int 1 v] }).objs.size,[(s.heap.push { cls:=.type "range",data:=.fields #[.int lo t,.int hi u,.int 1 v] }).objs.size],_,_,H,rfl,
  I1.kept (t':=tk) fun b o e=>Zaa _ e,Cv _ lo (hi - lo).toNat,?_,fun b hb=>?_,q⟩
 ·have e1:lo+((0:Nat):Int) * 1=lo:=by simp
  have e2:(((hi - lo).toNat:Nat):Int) - ((0:Nat):Int)=Builtin.Range.rangeSize lo hi 1:=by rw [rangeSize_one];split <;> omega
  show IsRangeIter _ _ (lo+((0:Nat):Int) * 1) ((((hi - lo).toNat:Nat):Int) - ((0:Nat):Int)) 1
  rw [e1,e2]
  exact Zam _ rfl
 ·have e:b=(s.heap.push { cls:=.type "range",data:=.fields #[.int lo t,.int hi u,.int 1 v] }).objs.size:=by simpa using hb
  subst e
  exact I1.Ab (Zaf _) (I1.hok.fresh (Zaf _))
noncomputable def Oe (ta:TA):TI:=fun σ H R=>ta σ H fun vs H1=>∃ j:Int,vs=[.int j]∧-(2 ^ 62)≤j∧j < 2 ^ 62∧R (Itr 0 j.toNat) H1
noncomputable def Og (ta:TA):TI:=fun σ H R=>ta σ H fun vs H1=>∃ i j:Int,vs=[.int i,.int j]∧(-(2 ^ 62)≤i∧i < 2 ^ 62∧-(2 ^ 62)≤j∧j < 2 ^ 62)∧R (Itr i (j - i).toNat) H1
theorem iI {a:Expr}{ta:TA}{p pos:Pos} (hg:Gl X "range") (hm:X.mg "range"=none) (ha:PA X [a] ta) (hs:starEach [a] X.env=[(false,eval a X.env)]:=by rfl):PI X tg (.Call (.Name "range" p) [a] [] pos) (Oe ta):=by
 intro pins s σ H R I h
 refine Call_ (o9 I hg hm boot_range (Za5 (thn (ha pos pins s σ H _ I h) fun us s1 ⟨vs,H1,I1,r1,q1⟩=>?_) hs rfl))
 obtain ⟨j,e,q1,q2,q⟩:=q1
 subst e
 cases r1 with
 | cons r rr =>
  cases rr
  obtain ⟨t,rfl⟩:=r
  exact call_range_1 (Ad I1 (by omega) (by omega) q1 q2 (by simpa using q))
theorem GC {a b:Expr}{ta:TA}{p pos:Pos} (hg:Gl X "range") (hm:X.mg "range"=none) (ha:PA X [a,b] ta) (hs:starEach [a,b] X.env=[(false,eval a X.env),(false,eval b X.env)]:=by rfl) (hs2:starEach [b] X.env=[(false,eval b X.env)]:=by rfl) :
  PI X tg (.Call (.Name "range" p) [a,b] [] pos) (Og ta):=by
 intro pins s σ H R I h
 refine Call_ (o9 I hg hm boot_range (Za5 (thn (ha pos pins s σ H _ I h) fun us s1 ⟨vs,H1,I1,r1,q1⟩=>?_) (by rw [hs,hs2]) (by rw [hs2];rfl)))
 obtain ⟨i,j,e,⟨q1,q2,q3,q4⟩,q⟩:=q1
 subst e
 cases r1 with
 | cons r rr =>
  cases rr with
  | cons r' rr =>
   cases rr
   obtain ⟨t,rfl⟩:=r
   obtain ⟨t',rfl⟩:=r'
   exact call_range_2 (Ad I1 q1 q2 q3 q4 q)
noncomputable def RC (wi:TI) (g:TG) (tb:TS):TS:=fun D σ H=>wi σ H fun J H1=>∃ W:Nat->Nat->St->Hp->Prop,(∃ m,W 0 m σ H1)∧∀ i m σ H,W i m σ H ->
 (J.stop i H∧D.nx σ H)∨(J.go i H∧∃ N:St->Hp->Prop,(∀ σ' H',N σ' H'->∃ m',m' < m∧W (i+1) m' σ' H')∧∀ x H',J.yld i H x H'->g x σ H' fun σ2 H2=>tb { D with nx:=N,ct:=N,bk:=D.nx } σ2 H2)
noncomputable def vq (fp:List Addr) (h:Heap):List (Addr×Obj):=fp.filterMap fun b=>(h.get? b).map fun o=>(b,o)
theorem mY {fp:List Addr}{h:Heap}{b:Addr}{o:Obj} (hb:b∈fp) (e:h.get? b=some o):(b,o)∈vq fp h:=List.mem_filterMap.mpr ⟨b,hb,by rw [e];rfl⟩
theorem GD {fp:List Addr}{h:Heap}{p:Addr×Obj} (hp:p∈vq fp h):p.1∈fp∧h.get? p.1=some p.2:=by
 obtain ⟨b,hb,e⟩:=List.mem_filterMap.mp hp
 cases q:h.get? b with
 | none=>rw [q] at e;cases e
 | some o =>
  rw [q] at e
  have e':(b,o)=p:=Zab e
  subst e'
  exact ⟨hb,q⟩
theorem Inv.pinned {pins:List (Addr×Obj)}{σ:St}{H:Hp}{s:Shared}{fp:List Addr} (I:Inv X pins σ H s) (hf:∀ b∈fp,vo X pins H b) (ho:∀ b∈fp,∃ o,s.heap.get? b=some o∧∀ v,o.data≠.cell v):Inv X (pins++vq fp s.heap) σ H s :=
 I.Eo fun p hp=>(Zae.mp hp).elim (fun z=>I.pin p (ZaK _ z)) fun z=>by
  obtain ⟨hb,e⟩:=GD z
  obtain ⟨f0,f1,f2,_⟩:=hf p.1 hb
  obtain ⟨o,e',d⟩:=ho p.1 hb
  rw [e] at e';cases e'
  exact ⟨e,f0,f1,f2,d⟩
theorem Inv.rZ {pins pl:List (Addr×Obj)}{σ:St}{H:Hp}{s:Shared} (I:Inv X (pins++pl) σ H s):Inv X pins σ H s:=I.Eo fun p hp=>I.pin p (ZaK _ (List.mem_append_left _ hp))
theorem fY {iter:Expr}{body:List Stmt}{wi:TI}{g:TG}{tb:TS}{pos:Pos} (hp:PassesOwn (model X.prog X.w) X.A X.env X.xe) (hc:X.calm=true) (hi:PI X tg iter wi) (hg:PG X tg g) (hb:PSs X body tb)
  (hs:∀ x,foldedSetIterable iter X.env x=pure x:=by intro _;rfl):PS X (.For tg iter body [] pos) (RC wi g tb):=by
 intro pins s σ H D I h
 refine wpAny_For (thn (hi pins s σ H _ I h) fun v s1 h1=>thn h1 fun itv s2 h2=>?_) hs
 obtain ⟨it,fp,tn,J,H2,e,I2,T,st2,f2,W,⟨m0,w0⟩,turn⟩:=h2
 subst e
 have stat:∀ {H':Hp},(∀ b∈fp,H' b=none)->∀ b∈fp,vo X pins H' b:=fun hn b hb=>⟨hn b hb,(f2 b hb).2⟩
 refine codeAny_forLoop_any (fun n s'=>∃ i σ' H',Inv X pins σ' H' s'∧tn i s'.heap∧(∀ b∈fp,H' b=none)∧W i n σ' H') ?_ m0 ⟨0,σ,H2,I2,st2,fun b hb=>(f2 b hb).1,w0⟩
 rintro n s3 ⟨i,σ3,H3,I3,st3,fr3,w3⟩
 rcases turn i n σ3 H3 w3 with ⟨stop,qn⟩ | ⟨go,N,hN,step⟩
 ·refine wpAny_passesOwn hp (thn (T.done X rfl rfl rfl hc i pins s3 σ3 H3 X.xe I3 (stat fr3) st3 stop) fun r s4 ⟨hr,I4⟩=>?_)
  subst hr
  exact wpAny_execs_nil ⟨σ3,H3,I4,qn⟩
 ·refine wpAny_passesOwn hp (thn (T.item X rfl rfl rfl hc i pins s3 σ3 H3 X.xe I3 (stat fr3) st3 go) fun r s4 ⟨u,hr,h4⟩=>?_)
  subst hr
  refine wpAny_passesOwn hp (thn h4 fun _ s5 ⟨x,H5,I5,r5,y5,st5,fr5⟩=>?_)
  have I5':=I5.pinned (stat fr5) (T.obj _ _ st5)
  refine wpAny_passesOwn hp (thn (hg _ s5 σ3 H5 x u _ I5' r5 (step x H5 y5)) fun _ s6 ⟨σ6,H6,I6,q6⟩=>?_)
  refine wpAny_passesOwn hp (thn (hb _ s6 σ6 H6 _ I6 q6) fun f s7 q7=>?_)
  have again:∀ {σ7:St}{H7:Hp},Inv X (pins++vq fp s5.heap) σ7 H7 s7->N σ7 H7->∃ m,m < n∧∃ i σ' H',Inv X pins σ' H' s7∧tn i s7.heap∧(∀ b∈fp,H' b=none)∧W i m σ' H':=fun {σ7 H7} I7 n7=>by
   obtain ⟨m',hm,w7⟩:=hN σ7 H7 n7
   refine ⟨m',hm,i+1,σ7,H7,I7.rZ,T.keep _ _ _ st5 fun b hb o e=>(I7.pin (b,o) (ZaK _ (ZaK _ (mY hb e)))).1,fun b hb=>?_,w7⟩
   obtain ⟨o,e,d⟩:=T.obj _ _ st5 b hb
   exact (I7.pin (b,o) (ZaK _ (ZaK _ (mY hb e)))).2.1
  cases f with
  | next=>obtain ⟨σ7,H7,I7,n7⟩:=q7;exact again I7 n7
  | cont=>obtain ⟨σ7,H7,I7,n7⟩:=q7;exact again I7 n7
  | brk=>obtain ⟨σ7,H7,I7,q7⟩:=q7;exact ⟨σ7,H7,I7.rZ,q7⟩
  | ret v=>obtain ⟨x7,σ7,H7,I7,r7,q7⟩:=q7;exact ⟨x7,σ7,H7,I7.rZ,r7,q7⟩
end
noncomputable abbrev R2:=V->V->Hp->VK->Prop
noncomputable def OpR (X:Cx) (f:Value->Value->Sem Value) (r:R2):Prop :=
 ∀ (pins:List (Addr×Obj)) (s:Shared) (σ:St) (H:Hp) (x y:V) (v u:Value) (Q:VK),Inv X pins σ H s->RelV x v->RelV y u->r x y H Q ->
  wpAny (model X.prog X.w) X.A (f v u) (EP X pins σ Q) X.xe s
noncomputable def jt (X:Cx) (f:Value) (r:List V->Hp->VK->Prop):Prop :=
 ∀ (pins:List (Addr×Obj)) (s:Shared) (σ:St) (H:Hp) (xs:List V) (us:List Value) (Q:VK),Inv X pins σ H s->Vals xs us->r xs H Q ->
  wpAny (model X.prog X.w) X.A (call f us) (EP X pins σ Q) X.xe s
noncomputable def tOp (r:R2) (ta tb:TE):TE:=fun σ H Q=>ta σ H fun x H1=>tb σ H1 fun y H2=>r x y H2 Q
noncomputable def rI (C:Int->Int->Prop) (g:Int->Int->V):R2:=fun x y H Q=>∃ i j,x=.int i∧y=.int j∧C i j∧Q (g i j) H
noncomputable def rI0 (g:Int->Int->V):R2:=fun x y H Q=>∃ i j,x=.int i∧y=.int j∧Q (g i j) H
section
variable {X:Cx}{a b c:Expr}{ta tb tc:TE}{pos:Pos}
theorem Pu (ha:PE X a ta) (hb:PE X b tb) {pins:List (Addr×Obj)}{s:Shared}{σ:St}{H:Hp}{R:V->V->Hp->Prop} (I:Inv X pins σ H s)
  (h:ta σ H fun x H1=>tb σ H1 fun y H2=>R x y H2) {Q:Value->Shared->Prop}{f:Value->Value->Sem Value}
  (hf:∀ v u s2 x y H2,Inv X pins σ H2 s2->RelV x v->RelV y u->R x y H2->wpAny (model X.prog X.w) X.A (f v u) Q X.xe s2) :
  wpAny (model X.prog X.w) X.A (eval a X.env) (fun v s₁=>wpAny (model X.prog X.w) X.A (eval b X.env) (fun u s₂=>wpAny (model X.prog X.w) X.A (f v u) Q X.xe s₂) X.xe s₁) X.xe s:=by
 refine thn (ha pins s σ H _ I h) fun v s1 ⟨x,H1,I1,r1,q1⟩=>?_
 refine thn (hb pins s1 σ H1 _ I1 q1) fun u s2 ⟨y,H2,I2,r2,q2⟩=>?_
 exact hf v u s2 x y H2 I2 r1 r2 q2
theorem aP {op:Operator}{r:R2} (ho:OpR X (binaryOp op) r) (ha:PE X a ta) (hb:PE X b tb):PE X (.BinOp a op b pos) (tOp r ta tb):=by
 intro pins s σ H Q I h
 exact wpAny_BinOp (Pu ha hb I h fun v u s2 x y H2 I2 rx ry q=>ho pins s2 σ H2 x y v u Q I2 rx ry q)
theorem opI {f:Value->Value->Sem Value}{C:Int->Int->Prop}{g:Int->Int->Int}
  (rule:∀ (i j:Int) (t u:Tok) (s:Shared) (Q:Value->Shared->Prop) (E:Value->Shared->Prop),C i j->Q (.int (g i j) s.toks) { s with toks:=s.toks+1 }->wpAny (model X.prog X.w) X.A (f (.int i t) (.int j u)) Q E s) :
  OpR X f (rI C fun i j=>.int (g i j)):=by
 intro pins s σ H x y v u Q I rx ry h
 obtain ⟨i,j,rfl,rfl,hc,q⟩:=h
 obtain ⟨t,rfl⟩:=rx
 obtain ⟨t',rfl⟩:=ry
 exact rule i j t t' s _ _ hc ⟨.int (g i j),H,I.tok _,⟨_,rfl⟩,q⟩
theorem RG {f:Value->Value->Sem Value}{g:Int->Int->Int}
  (rule:∀ (i j:Int) (t u:Tok) (s:Shared) (Q:Value->Shared->Prop) (E:Value->Shared->Prop),Q (.int (g i j) s.toks) { s with toks:=s.toks+1 }->wpAny (model X.prog X.w) X.A (f (.int i t) (.int j u)) Q E s) :
  OpR X f (rI0 fun i j=>.int (g i j)):=by
 intro pins s σ H x y v u Q I rx ry h
 obtain ⟨i,j,rfl,rfl,q⟩:=h
 obtain ⟨t,rfl⟩:=rx
 obtain ⟨t',rfl⟩:=ry
 exact rule i j t t' s _ _ ⟨.int (g i j),H,I.tok _,⟨_,rfl⟩,q⟩
theorem Ln {f:Value->Value->Sem Value}{g:Int->Int->Bool}
  (rule:∀ (i j:Int) (t u:Tok) (s:Shared) (Q:Value->Shared->Prop) (E:Value->Shared->Prop),Q (.bool (g i j)) s->wpAny (model X.prog X.w) X.A (f (.int i t) (.int j u)) Q E s) :
  OpR X f (rI0 fun i j=>.bl (g i j)):=by
 intro pins s σ H x y v u Q I rx ry h
 obtain ⟨i,j,rfl,rfl,q⟩:=h
 obtain ⟨t,rfl⟩:=rx
 obtain ⟨t',rfl⟩:=ry
 exact rule i j t t' s _ _ ⟨.bl (g i j),H,I,rfl,q⟩
noncomputable def Px (i j:Int):Prop:=0 < j∧j < 1073741824
noncomputable def Py (i j:Int):Prop:=0≤j∧j≤1000000∧i.natAbs < 2 ^ 64
noncomputable def Cw (i j:Int):Prop:=(-(2 ^ 64) < i∧i < 2 ^ 64)∨(-(2 ^ 64) < j∧j < 2 ^ 64)
theorem Cw.ok {i j:Int} (h:Cw i j):IntMulOk i j:=by
 rcases h with ⟨h1,h2⟩ | ⟨h1,h2⟩
 ·exact .of_left (intBits_le_64 h1 h2)
 ·exact .of_right (intBits_le_64 h1 h2)
theorem Pz:OpR X (binaryOp .Add) (rI0 fun i j=>.int (i+j)):=RG fun _ _ _ _ _ _ _ q=>add_int q
theorem yL:OpR X (binaryOp .Sub) (rI0 fun i j=>.int (i - j)):=RG fun _ _ _ _ _ _ _ q=>sub_int q
theorem PB:OpR X (binaryOp .Mult) (rI Cw fun i j=>.int (i * j)):=opI fun _ _ _ _ _ _ _ hc q=>mul_int q hc.ok
theorem uV:OpR X (binaryOp .FloorDiv) (rI Px fun i j=>.int (i / j)):=opI fun i j _ _ _ _ _ hc q=>by
 have h1:(0:Int) < j:=hc.1
 have h2:j < 1073741824:=hc.2
 exact floordiv_int (by omega) (by rw [Int.fdiv_eq_ediv_of_nonneg i (by omega)];exact q) (.inl (PyProof.noPylong_small (by omega)))
theorem bM:OpR X (binaryOp .Mod) (rI (fun _ j=>0 < j) fun i j=>.int (i % j)):=opI fun i j _ _ _ _ _ hc q=>by
 have h1:(0:Int) < j:=hc
 exact mod_int' (by omega) (by rw [Int.fmod_eq_emod_of_nonneg i (by omega)];exact q)
theorem vy:OpR X (binaryOp .Pow) (rI Py fun i j=>.int (i ^ j.toNat)):=opI fun _ _ _ _ _ _ _ hc q=>pow_int_small hc.1 hc.2.1 hc.2.2 q
end
section
variable {X:Cx}{a b c:Expr}{ta tb tc:TE}{pos:Pos}
theorem t7 {pins:List (Addr×Obj)}{σ:St}{H:Hp}{s:Shared}{Q:VK}{k k':Bool} (I:Inv X pins σ H s) (q:Q (.bl k) H) (e:k=k'):EP X pins σ Q (.bool k') s:=by
 subst e
 exact ⟨.bl k,H,I,rfl,q⟩
theorem RJ:OpR X (compareOp .Lt) (rI0 fun i j=>.bl (decide (i < j))):=Ln fun _ _ _ _ _ _ _ q=>lt_int q
theorem RK:OpR X (compareOp .LtE) (rI0 fun i j=>.bl (decide (i≤j))):=Ln fun _ _ _ _ _ _ _ q=>le_int q
theorem RL:OpR X (compareOp .Gt) (rI0 fun i j=>.bl (decide (j < i))):=Ln fun _ _ _ _ _ _ _ q=>gt_int q
theorem RM:OpR X (compareOp .GtE) (rI0 fun i j=>.bl (decide (j≤i))):=Ln fun _ _ _ _ _ _ _ q=>ge_int q
theorem GF:OpR X (compareOp .Lt) (fun x y H Q=>∃ i j,x=.str i∧y=.str j∧Q (.bl (decide (i.cps.toList < j.cps.toList))) H):=by
 intro pins s σ H x y v u Q I rx ry h
 obtain ⟨i,j,rfl,rfl,q⟩:=h
 obtain ⟨t,rfl⟩:=rx
 obtain ⟨t',rfl⟩:=ry
 exact lt_str (t7 I q rfl)
theorem GJ:OpR X (compareOp .In) (fun x y H Q=>∃ i j,x=.str i∧y=.str j∧Q (.bl (!(Builtin.Str.occurrences j i 0 j.length 1).isEmpty)) H):=by
 intro pins s σ H x y v u Q I rx ry h
 obtain ⟨i,j,rfl,rfl,q⟩:=h
 obtain ⟨t,rfl⟩:=rx
 obtain ⟨t',rfl⟩:=ry
 exact in_str (t7 I q rfl)
theorem vA:OpR X (compareOp .Is) (fun x y H Q=>y=.non∧Q (.bl (decide (x=.non))) H):=by
 intro pins s σ H x y v u Q I rx ry h
 obtain ⟨rfl,q⟩:=h
 cases ry
 refine is_none_gen (t7 I q ?_)
 cases x <;> first
  | (cases rx;rfl)
  | (obtain ⟨t,rfl⟩:=rx;rfl)
theorem Es:OpR X (compareOp .IsNot) (fun x y H Q=>y=.non∧Q (.bl (!decide (x=.non))) H):=by
 intro pins s σ H x y v u Q I rx ry h
 obtain ⟨rfl,q⟩:=h
 cases ry
 refine isnot_none_gen (t7 I q ?_)
 cases x <;> first
  | (cases rx;rfl)
  | (obtain ⟨t,rfl⟩:=rx;rfl)
theorem yM:OpR X (compareOp .NotIn) (fun x y H Q=>∃ i j,x=.str i∧y=.str j∧Q (.bl (!(!(Builtin.Str.occurrences j i 0 j.length 1).isEmpty))) H):=by
 intro pins s σ H x y v u Q I rx ry h
 obtain ⟨i,j,rfl,rfl,q⟩:=h
 obtain ⟨t,rfl⟩:=rx
 obtain ⟨t',rfl⟩:=ry
 exact notIn_str (t7 I q rfl)
theorem OpR.or {f:Value->Value->Sem Value}{r r':R2} (h:OpR X f r) (h':OpR X f r'):OpR X f (fun x y H Q=>r x y H Q∨r' x y H Q):=by
 intro pins s σ H x y v u Q I rx ry q
 rcases q with q | q
 ·exact h pins s σ H x y v u Q I rx ry q
 ·exact h' pins s σ H x y v u Q I rx ry q
theorem bC (b:Expr) {op:CmpOp} (h:op≠.In:=by decide) (h2:op≠.NotIn:=by decide):behindInMarks op b=false:=by
 have e1:(op == CmpOp.In)=false:=by cases op <;> first | rfl | exact absurd rfl h
 have e2:(op == CmpOp.NotIn)=false:=by cases op <;> first | rfl | exact absurd rfl h2
 cases b <;> simp [behindInMarks,e1,e2]
theorem uW {op:CmpOp}{r:R2} (ho:OpR X (compareOp op) r) (ha:PE X a ta) (hb:PE X b tb) (hm:behindInMarks op b=false):PE X (.Compare a [op] [b] pos) (tOp r ta tb):=by
 intro pins s σ H Q I h
 exact wpAny_Compare1 (Pu ha hb I h fun v u s2 x y H2 I2 rx ry q=>ho pins s2 σ H2 x y v u Q I2 rx ry q) hm
noncomputable def Jf (t:TE):TT:=fun σ H Q=>t σ H fun x H'=>∃ k,x=.bl k∧Q k H'
theorem aY {op:CmpOp}{r:R2} (ho:OpR X (compareOp op) r) (ha:PE X a ta) (hb:PE X b tb) (hm:behindInMarks op b=false):PT X (.Compare a [op] [b] pos) (Jf (tOp r ta tb)):=by
 intro pins s σ H Q I h
 refine wpAny_isTrue_Compare1 (thn (ha pins s σ H _ I h) fun v s1 ⟨x,H1,I1,r1,q1⟩=>thn (hb pins s1 σ H1 _ I1 q1) fun u s2 ⟨y,H2,I2,r2,q2⟩ =>
  thn (ho pins s2 σ H2 x y v u _ I2 r1 r2 q2) fun c s3 ⟨z,H3,I3,r3,k,e,q3⟩=>?_) hm
 subst e
 cases r3
 exact wpAny_truthy_bool ⟨H3,I3,q3⟩
noncomputable def Cy (r r':R2) (ta tb tc:TE):TE:=fun σ H Q=>ta σ H fun x H1=>tb σ H1 fun y H2=>r x y H2 fun z H3=>∃ k,z=.bl k ∧
 (if k=true then tc σ H3 fun w' H4=>r' y w' H4 Q else Q (.bl false) H3)
theorem Jg {op op':CmpOp}{r r':R2} (ho:OpR X (compareOp op) r) (ho':OpR X (compareOp op') r') (ha:PE X a ta) (hb:PE X b tb) (hc:PE X c tc)
  (hm:lastMarks [op,op'] [b,c]=false:=by with_unfolding_all rfl):PE X (.Compare a [op,op'] [b,c] pos) (Cy r r' ta tb tc):=by
 intro pins s σ H Q I h
 refine Compare_chain (thn (ha pins s σ H _ I h) fun v s1 ⟨x,H1,I1,r1,q1⟩=>chain_link (thn (hb pins s1 σ H1 _ I1 q1) fun u s2 ⟨y,H2,I2,r2,q2⟩ =>
  thn (ho pins s2 σ H2 x y v u _ I2 r1 r2 q2) fun d s3 ⟨z,H3,I3,r3,k,e,q3⟩=>?_)) hm
 subst e
 cases r3
 refine wpAny_truthy_bool ?_
 cases k with
 | false=>exact ite_ff ⟨.bl false,H3,I3,rfl,q3⟩
 | true=>exact ite_tt (chain_last (thn (hc pins s3 σ H3 _ I3 q3) fun w' s4 ⟨z',H4,I4,r4,q4⟩=>ho' pins s4 σ H4 y z' u w' Q I4 r2 r4 q4))
theorem vB {op op':CmpOp}{r r':R2} (ho:OpR X (compareOp op) r) (ho':OpR X (compareOp op') r') (ha:PE X a ta) (hb:PE X b tb) (hc:PE X c tc)
  (hm:lastMarks [op,op'] [b,c]=false:=by with_unfolding_all rfl):PT X (.Compare a [op,op'] [b,c] pos) (Jf (Cy r r' ta tb tc)):=by
 intro pins s σ H Q I h
 refine isTrue_chain (thn (ha pins s σ H _ I h) fun v s1 ⟨x,H1,I1,r1,q1⟩=>test_link (thn (hb pins s1 σ H1 _ I1 q1) fun u s2 ⟨y,H2,I2,r2,q2⟩ =>
  thn (ho pins s2 σ H2 x y v u _ I2 r1 r2 q2) fun d s3 ⟨z,H3,I3,r3,k,e,q3⟩=>?_)) hm
 subst e
 cases r3
 refine wpAny_truthy_bool ?_
 cases k with
 | false =>
  obtain ⟨k',e',q'⟩:=q3
  cases e'
  exact ite_ff ⟨H3,I3,q'⟩
 | true =>
  refine ite_tt (test_last (thn (hc pins s3 σ H3 _ I3 q3) fun w' s4 ⟨z',H4,I4,r4,q4⟩=>thn (ho' pins s4 σ H4 y z' u w' _ I4 r2 r4 q4) fun d' s5 ⟨z2,H5,I5,r5,k2,e2,q5⟩=>?_))
  subst e2
  cases r5
  exact wpAny_truthy_bool ⟨H5,I5,q5⟩
theorem vC:(sizeLine:Nat) < 2 ^ 63:=by rw [sizeLine_eq];decide
theorem Cz:OpR X (binaryOp .Add) (fun x y H Q=>∃ i j,x=.str i∧y=.str j∧i.length+j.length≤sizeLine∧Q (.str (i++j)) H):=by
 intro pins s σ H x y v u Q I rx ry h
 obtain ⟨i,j,rfl,rfl,hz,q⟩:=h
 obtain ⟨t,rfl⟩:=rx
 obtain ⟨t',rfl⟩:=ry
 exact add_str (fun t' tk=>⟨.str (i++j),H,I.tok _,⟨_,rfl⟩,q⟩) hz
theorem vals1 {x:V}{us:List Value} (r:Vals [x] us):∃ u,us=[u]∧RelV x u:=by
 cases r with
 | cons r1 r2=>cases r2;exact ⟨_,rfl,r1⟩
noncomputable def RN (K:PySem.W.Frag) (x:V) (H:Hp) (n:Nat):Prop :=
 match x with
 | .str y=>y.length≤sizeLine∧n=y.length
 | .byt y=>y.size≤sizeLine∧n=y.size
 | .ref p=>(∃ xs,SqL K H p xs∧n=xs.length)∨∃ xs,SqT K H p xs∧n=xs.length
 | _=>False
theorem bF:jt X (.builtin "len") (fun xs H Q=>∃ x n,xs=[x]∧RN X.K x H n∧Q (.int n) H):=by
 intro pins s σ H xs us Q I r h
 obtain ⟨x,n,rfl,e,q⟩:=h
 obtain ⟨u,rfl,rx⟩:=vals1 r
 have hl:=vC
 have hs:sizeLine=16777216:=sizeLine_eq
 cases x with
 | str y =>
  obtain ⟨t,rfl⟩:=rx
  obtain ⟨hy,e'⟩:y.length≤sizeLine∧n=y.length:=e
  subst e'
  exact len_str (by omega) ⟨.int _,H,I.tok _,⟨_,rfl⟩,q⟩
 | byt y =>
  obtain ⟨t,rfl⟩:=rx
  obtain ⟨hy,e'⟩:y.size≤sizeLine∧n=y.size:=e
  subst e'
  exact PySem.W.len_bytes (by omega) ⟨.int _,H,I.tok _,⟨_,rfl⟩,q⟩
 | ref p =>
  cases rx
  have e':(∃ xs,SqL X.K H p xs∧n=xs.length)∨∃ xs,SqT X.K H p xs∧n=xs.length:=e
  rcases e' with ⟨xs,hx,e'⟩ | ⟨xs,hx,e'⟩
  ·subst e'
   obtain ⟨its,r',pl,hz⟩:=I.list hx
   have hlen:=r'.length
   exact Calls.call_len_list pl.isList (by simp only [List.size_toArray];omega) ⟨.int xs.length,H,I.tok _,⟨_,by simp only [List.size_toArray];rw [hlen]⟩,q⟩
  ·subst e'
   obtain ⟨its,r',pl,hz⟩:=I.tuple hx
   have hlen:=r'.length
   exact len_tuple pl (by simp only [List.size_toArray];omega) ⟨.int xs.length,H,I.tok _,⟨_,by simp only [List.size_toArray];rw [hlen]⟩,q⟩
 | _=>exact (show False from e).elim
end
structure RP (h:Heap) (x dx C:Addr) (mA:Str->Option Value):Prop where
 obj:h.get? x=some (PySem.W.instObj C dx)
 ns:h.Ns1 dx mA
 ne:dx≠x
theorem t8 {h:Heap}{dx:Addr}{mA:Str->Option Value} (n:h.Ns1 dx mA):∃ od,h.get? dx=some od∧∀ name,PySem.W.lookIn name od=some (mA name):=by
 obtain ⟨o,es,ep,ho,hd,hk,_,hm⟩:=n
 refine ⟨o,ho,fun name=>?_⟩
 have e:=hm name
 unfold nsFind findBy at e
 rw [←Array.find?_toList] at e
 unfold PySem.W.lookIn
 rw [hd]
 dsimp only
 split
 ·rename_i y q
  rw [q] at e
  exact congrArg some e
 ·rename_i q
  rw [q] at e
  have a:es.toList.any (·.refKey)=false:=by
   rw [List.any_eq_false]
   intro y hy
   obtain ⟨z,t,hkey⟩:=hk y (Array.mem_toList_iff.mp hy)
   simp [DictEntry.refKey,hkey]
  have a':¬es.toList.any (·.refKey)=true:=by rw [a];exact Bool.false_ne_true
  rw [if_neg a']
  exact congrArg some e
theorem RP.look {h:Heap}{x dx C:Addr}{mA:Str->Option Value} (I:RP h x dx C mA):∃ od,PySem.W.InstAt h x (PySem.W.instObj C dx) C (some od)∧∀ name,PySem.W.lookIn name od=some (mA name) :=
 let ⟨od,ho,hl⟩:=t8 I.ns
 ⟨od,⟨I.obj,rfl,rfl,ho⟩,hl⟩
section
variable {prog:Program}{w:World}{A:Around}{E:Value->Shared->Prop}{s:Shared}{K:PySem.W.Frag}{x dx C f:Addr}{mA:Str->Option Value}{name:Str}{v:Value}
end
theorem rR.none_of {o:Option Value} (r:rR none o):o=none:=by
 cases o with
 | none=>rfl
 | some u=>exact (show False from r).elim
theorem GK {v:V}{u:Value} (r:RelV v u):PySem.W.handedIn u=true:=by
 cases v with
 | non=>cases (show u=Value.none from r);rfl
 | bl b=>cases (show u=Value.bool b from r);rfl
 | int i=>obtain ⟨t,e⟩:=(show ∃ t,u=Value.int i t from r);cases e;rfl
 | str x=>obtain ⟨t,e⟩:=(show ∃ t,u=Value.str x t from r);cases e;rfl
 | byt b=>obtain ⟨t,e⟩:=(show ∃ t,u=Value.bytes b t from r);cases e;rfl
 | flt b=>obtain ⟨t,e⟩:=(show ∃ t,u=Value.float b t from r);cases e;rfl
 | ref a=>cases (show u=Value.ref a from r);rfl
 | ty n=>cases (show u=Value.type n from r);rfl
section
variable {P:Program}{w:World}{H H':Hp}{h h':Heap}{a C dx:Addr}{fs fs':List (Str×V)}
end
structure Cls (K:PySem.W.Frag) (C:Addr):Prop where
 pg:PySem.W.plainGet K C Str.empty=true
 hd:PySem.W.hasDictIn K C=true
 po:PySem.W.plainOver K C=true
 sa:PySem.W.findIn K (.ref C) "__setattr__"=some (some (.builtin "object.__setattr__"))
theorem Cls.get {K:PySem.W.Frag}{C:Addr} (c:Cls K C) (f:Str):PySem.W.plainGet K C f=true:=c.pg
structure Con (K:PySem.W.Frag) (C:Addr) (f:Str) (v:V) (u:Value):Prop where
 at_:PySem.W.findIn K (.ref C) f=some (some u)
 rel:RelV v u
 get:PySem.W.specialIn K u "__get__"=some none
 cp:PySem.W.copiedNames.contains f=false
structure Meth (K:PySem.W.Frag) (C:Addr) (m:Str) (f:Addr):Prop where
 at_:PySem.W.findIn K (.ref C) m=some (some (.ref f))
 fn:PySem.W.isFn K (.ref f)=true
 kp:PySem.W.keepIn K (.ref f)=true
section
variable {X:Cx}{pins:List (Addr×Obj)}{σ:St}{H:Hp}{s:Shared}{a C dx:Addr}{fs:List (Str×V)}{f:Str}{v:V}{A:Around}{E:Value->Shared->Prop}
theorem Inv.made (I:Inv X pins σ H s):Inv X pins σ (upd (upd H s.heap.objs.size (.own (s.heap.objs.size+1))) (s.heap.objs.size+1) (.ins C s.heap.objs.size []))
  { s with heap:=(s.heap.push PySem.W.emptyDict).push (PySem.W.instObj C s.heap.objs.size) }:=by
 have e1:(s.heap.push PySem.W.emptyDict).get? s.heap.objs.size=some PySem.W.emptyDict:=Zam s.heap rfl
 have e2:((s.heap.push PySem.W.emptyDict).push (PySem.W.instObj C s.heap.objs.size)).get? (s.heap.objs.size+1)=some (PySem.W.instObj C s.heap.objs.size):=by
  have:=Zam (s.heap.push PySem.W.emptyDict) (o:=PySem.W.instObj C s.heap.objs.size) rfl
  rwa [Zbq] at this
 have e3:(s.heap.push PySem.W.emptyDict).Ns s.heap.objs.size (fun _=>none):=⟨PySem.W.emptyDict,#[],_,e1,rfl,(fun e he=>absurd he (by simp)),fun _=>rfl⟩
 have I1:=I.laid (a:=s.heap.objs.size) (o:=.own (s.heap.objs.size+1)) (h':=s.heap.push PySem.W.emptyDict) (t':=s.toks) (fun b u q=>Zaa _ q) (Zaf _) ⟨_,e1⟩
 refine I1.laid (a:=s.heap.objs.size+1) (o:=.ins C s.heap.objs.size []) (t':=s.toks) (fun b u q=>Zaa _ q) (Nat.le_of_eq (Zbq _ _)) ?_
 have ne:s.heap.objs.size≠s.heap.objs.size+1:=Zay (Nat.lt_succ_self _)
 refine ⟨by rw [aO ne,aX],Za9 _,ne,e2,fun _=>none,(Heap.Ns1.of_empty e3).at fun o q=>Zaa _ q,fun _=>True.intro,fun y hy=>absurd rfl hy⟩
theorem Lp {prog:Program}{w:World}{env:Env}{e:Expr}{f:Str}{pos:Pos}{s:Shared}{Q:Value->Shared->Prop} (hb:attributeBase e f env (eval e env)=eval e env)
  (h:wpAny (model prog w) A (eval e env) (fun o s₁=>wpAny (model prog w) A (getAttr o f true) Q E s₁) E s):wpAny (model prog w) A (eval (.Attribute e f pos) env) Q E s :=
 Attribute_any_ h (by rw [arm_eval_Attribute,hb])
end
section
variable {X:Cx}{o e value:Expr}{f:Str}{pos pos' tpos:Pos}{ta tv:TE}
end
section
variable {X:Cx}{pins:List (Addr×Obj)}{σ:St}{H:Hp}{s:Shared}{A:Around}{E:Value->Shared->Prop}{Q:Value->Shared->Prop}{c:Value}{b:Bool}
inductive vD (K:PySem.W.Frag) (H:Hp):V->Value->Prop where
 | non:vD K H .non (.type "NoneType")
 | bl (x:Bool):vD K H (.bl x) (.type "bool")
 | int (i:Int):vD K H (.int i) (.type "int")
 | str (x:Str):vD K H (.str x) (.type "str")
 | flt (x:UInt64):vD K H (.flt x) (.type "float")
 | lst {a:Addr}{xs:List V} (e:H a=some (.lst xs)):vD K H (.ref a) (.type "list")
 | frz {a:Addr}{o:Obj}{xs:List V} (e:H a=some (.frz o (.lst xs))):vD K H (.ref a) (.type "list")
 | tup {a:Addr}{xs:List V} (e:H a=some (.tup xs)):vD K H (.ref a) (.type "tuple")
 | dK {a:Addr}{kvs:List (Key×V)} (e:H a=some (.dK kvs)):vD K H (.ref a) (.type "dict")
 | dT {a:Addr}{kvs:List (List Key×V)} (e:H a=some (.dT kvs)):vD K H (.ref a) (.type "dict")
 | ins {a C dx:Addr}{fs:List (Str×V)} (e:H a=some (.ins C dx fs)) (cl:Cls K C) (ha:PySem.W.findIn K (.ref C) "__class__"=some (some (.builtin "object.__class__")))
   (hn:PySem.W.specialIn K (.builtin "object.__class__") "__get__"=some (some (.builtin "getset_descriptor.__get__"))) (htk:PySem.W.takesIn K (.builtin "object.__class__")=some true)
   (hm:PySem.W.mroIn K C (.type "object")=some true):vD K H (.ref a) (.ref C)
end
structure eX (k:Nat) (A:Around):Prop where
 hd:A.handled=none
 dp:A.depth+3 * k+5 < recursionLimit
 un:A.units+16 * k+200 < cLine
theorem eX.mono {j k:Nat}{A:Around} (r:eX k A) (h:j≤k):eX j A:=⟨r.hd,by have:=r.dp;omega,by have:=r.un;omega⟩
theorem eX.deeper {k:Nat}{A:Around} (r:eX (k+1) A) (env:Env):eX k (A.deeper env) :=
 ⟨r.hd,by have:=r.dp;show A.depth+1+3 * k+5 < _;omega,by have:=r.un;show A.units+3+16 * k+200 < _;omega⟩
theorem eX.in1 {k:Nat}{A:Around} (r:eX (k+1) A):eX k A.in1 :=
 ⟨r.hd,by have:=r.dp;show A.depth+3 * k+5 < _;omega,by have:=r.un;show A.units+1+16 * k+200 < _;omega⟩
theorem CG {A:Around}{C:Addr}{us:List Value}{kw:List (Str×Value)}:(A.under (.builtin "type.__call__" ⟨.ref C::us,kw⟩)).depth=A.depth+1:=by
 first | rfl | simp [Around.under,Code.weight,Code.isCreation,Code.isGuard,Code.isCaller,Code.frames,Code.isFrame,guardIds]
theorem CJ {A:Around}{C:Addr}{us:List Value}{kw:List (Str×Value)}:(A.under (.builtin "type.__call__" ⟨.ref C::us,kw⟩)).units=A.units+1:=by
 first | rfl | simp [Around.under,Code.cUnits,Code.frames,Code.isFrame]
theorem eX.make {k:Nat}{A:Around} (r:eX (k+1) A) (C:Addr) (us:List Value) (kw:List (Str×Value)):eX k (A.under (.builtin "type.__call__" ⟨.ref C::us,kw⟩)) :=
 ⟨r.hd,by have:=r.dp;rw [CG];omega,by have:=r.un;rw [CJ];omega⟩
theorem eX.depth {k:Nat}{A:Around} (r:eX k A):A.depth < recursionLimit:=by have:=r.dp;omega
theorem eX.units {k:Nat}{A:Around} (r:eX k A):A.units+64 < cLine:=by have:=r.un;omega
noncomputable def uQ:TA:=fun _ H Q=>Q [] H
noncomputable def jh (ta:TE) (tr:TA):TA:=fun σ H Q=>ta σ H fun x H1=>tr σ H1 fun xs H2=>Q (x::xs) H2
section
variable {X:Cx}{e:Expr}{es:List Expr}{te:TE}{t:TA}{pos:Pos}
theorem aC:PA X [] uQ:=fun _ _ _ _ H Q I h=>Calls.spliced_nil ⟨[],H,I,.nil,h⟩
theorem aj (ha:PE X e te) (hr:PA X es t) (hs:starEach (e::es) X.env=(false,eval e X.env)::starEach es X.env:=by rfl):PA X (e::es) (jh te t):=by
 intro pos pins s σ H Q I h
 rw [hs]
 show wpAny _ _ (spliced ((false,eval e X.env)::backTo pos (starEach es X.env))) _ _ s
 refine Calls.spliced_cons (thn (ha pins s σ H _ I h) fun u s1 ⟨x,H1,I1,r1,q1⟩=>?_)
 exact thn (hr pos pins s1 σ H1 _ I1 q1) fun us s2 ⟨xs,H2,I2,r2,q2⟩=>⟨x::xs,H2,I2,.cons r1 r2,q2⟩
noncomputable def PJ (t:TA):TE:=fun σ H Q=>t σ H fun xs H1=>xs.length≤sizeLine∧∀ p,H1 p=none->Q (.ref p) (upd H1 p (.tup xs))
noncomputable def RQ (t:TA):TE:=fun σ H Q=>t σ H fun xs H1=>xs.length≤sizeLine∧∀ p,H1 p=none->Q (.ref p) (upd H1 p (.lst xs))
theorem fG {x1} (h:PA X es t):PE X (.Tuple es x1 pos) (PJ t):=by
 intro pins s σ H Q I hq
 refine wpAny_Tuple_spliced (thn (h pos pins s σ H _ I hq) fun us s1 ⟨xs,H1,I1,r,z,q⟩=>⟨by rw [←r.length];exact z,?_⟩)
 have hf:H1 s1.heap.objs.size=none:=I1.hok.fresh (Zaf _)
 refine ⟨.ref s1.heap.objs.size,upd H1 s1.heap.objs.size (.tup xs),I1.laid (t':=s1.toks) (fun b u e=>Zaa _ e) (Zaf _) ?_,rfl,q _ hf⟩
 exact ⟨z,us,r,gD.mk (Zam _ rfl)⟩
theorem eF (h:PA X es t):PE X (.List es pos) (RQ t):=by
 intro pins s σ H Q I hq
 refine wpAny_List_spliced (thn (h pos pins s σ H _ I hq) fun us s1 ⟨xs,H1,I1,r,z,q⟩=>⟨by rw [←r.length];exact z,?_⟩)
 have hf:H1 s1.heap.objs.size=none:=I1.hok.fresh (Zaf _)
 refine ⟨.ref s1.heap.objs.size,upd H1 s1.heap.objs.size (.lst xs),I1.laid (t':=s1.toks) (fun b u e=>Zaa _ e) (Zaf _) ?_,rfl,q _ hf⟩
 exact ⟨z,us,0,r,Zam _ rfl⟩
end
noncomputable abbrev Sp:=List V->Hp->VK->XK->Prop
noncomputable abbrev CXT:=List Env->Hp->Shared->XK->Value->Shared->Prop
structure w6 (P:Program) (w:World) (K:PySem.W.Frag) (mg:Str->Option Value) (base:Heap) (A:Around) (outer:List Env) (s:Shared) (H:Hp):Prop where
 frames:A.frames=some outer
 mod:Mod K mg base
 bs:∀ b o,base.get? b=some o->s.heap.get? b=some o∧H b=none
 bsz:base.objs.size≤s.heap.objs.size
 qx:s.heap.FunFrames base outer
 frf:∀ b∈frs outer,H b=none
 hok:HOk P w H s.heap
 bare:AllBare s.gens
noncomputable def CE (outer:List Env) (P:Program) (w:World) (H:Hp) (s:Shared) (Q:VK) (u:Value) (s':Shared):Prop :=
 ∃ v H',s'.os=s.os∧AllBare s'.gens∧Un (frs outer) [] H H' s.heap s'.heap∧HOk P w H' s'.heap∧RelV v u∧Q v H'
noncomputable def CR (CX:CXT) (outer:List Env) (P:Program) (w:World) (H:Hp) (s:Shared) (Q:VK) (E:XK) (r:Result) (s':Shared):Prop :=
 match r with
 | .ok (.ret u)=>CE outer P w H s Q u s'
 | .ok _=>False
 | .error e=>CX outer H s E e s'
structure lr (P:Program) (w:World) (K:PySem.W.Frag) (mg:Str->Option Value) (base:Heap) (CX:CXT) (k:Nat) (f:Addr) (fd:FuncData) (ps:List Str) (sp:Sp):Prop where
 len:∀ vs H Q E,sp vs H Q E->vs.length=ps.length
 run:∀ (A:Around) (outer:List Env) (s:Shared) (H:Hp) (args:Args) (us:List Value) (vs:List V) (Q:VK) (E:XK),eX k A->w6 P w K mg base A outer s H->BindsTo s fd args (ps.zip us)->Vals vs us->sp vs H Q E ->
  codeAny (model P w) A (.call (.ref f) args) (CR CX outer P w H s Q E) s
theorem lr.mono {P:Program}{w:World}{K:PySem.W.Frag}{mg:Str->Option Value}{base:Heap}{CX:CXT}{j k:Nat}{f:Addr}{fd:FuncData}{ps:List Str}{sp:Sp} (F:lr P w K mg base CX j f fd ps sp) (h:j≤k) :
  lr P w K mg base CX k f fd ps sp:=⟨F.len,fun A outer s H args us vs Q E hr=>F.run A outer s H args us vs Q E (hr.mono h)⟩
theorem lr.imp {P:Program}{w:World}{K:PySem.W.Frag}{mg:Str->Option Value}{base:Heap}{CX:CXT}{k:Nat}{f:Addr}{fd:FuncData}{ps:List Str}{sp sp':Sp} (F:lr P w K mg base CX k f fd ps sp)
  (h:∀ vs H Q E,sp' vs H Q E->sp vs H Q E):lr P w K mg base CX k f fd ps sp' :=
 ⟨fun vs H Q E q=>F.len vs H Q E (h _ _ _ _ q),fun A outer s H args us vs Q E hr he hb hv hs=>F.run A outer s H args us vs Q E hr he hb hv (h _ _ _ _ hs)⟩
theorem w6.make {P:Program}{w:World}{K:PySem.W.Frag}{mg:Str->Option Value}{base:Heap}{A:Around}{outer:List Env}{s:Shared}{H:Hp} (e:w6 P w K mg base A outer s H) (C:Addr) (us:List Value) (kw:List (Str×Value)) :
  w6 P w K mg base (A.under (.builtin "type.__call__" ⟨.ref C::us,kw⟩)) outer s H:=⟨by first | exact e.frames | (simpa [Around.under,Code.envs,Code.isFrame,pushEnvs] using e.frames),e.mod,e.bs,e.bsz,e.qx,e.frf,e.hok,e.bare⟩
theorem w6.in1 {P:Program}{w:World}{K:PySem.W.Frag}{mg:Str->Option Value}{base:Heap}{A:Around}{outer:List Env}{s:Shared}{H:Hp} (e:w6 P w K mg base A outer s H) :
  w6 P w K mg base A.in1 outer s H:=⟨e.frames,e.mod,e.bs,e.bsz,e.qx,e.frf,e.hok,e.bare⟩
section
variable {X:Cx}{pins:List (Addr×Obj)}{σ:St}{H:Hp}{s s':Shared}
theorem Inv.env0 (I:Inv X pins σ H s):w6 X.prog X.w X.K X.mg X.base X.A X.stack s H :=
 ⟨I.ok.frames,I.ok.mod,I.bs,Zad I.ok.bsz I.sz,I.stack,I.yH,I.hok,I.bare⟩
theorem Inv.after {Q:VK}{u:Value} (I:Inv X pins σ H s) (h:CE X.stack X.prog X.w H s Q u s'):EP X pins σ Q u s':=by
 obtain ⟨v,H',os,bare,un,hok,r,q⟩:=h
 obtain ⟨hh,g,d,t,os'⟩:=s'
 obtain rfl:os'=s.os:=os
 exact ⟨v,H',I.call (h':=hh) (g':=g) (d':=d) (t':=t) (ch:=[]) un hok bare (fun b z=>absurd z (by simp)),r,q⟩
end
noncomputable def qF (sp:Sp) (dvs:List V) (E:XK) (t:TA):TE:=fun σ H Q=>t σ H fun vs H1=>sp (vs++dvs) H1 Q E
noncomputable def Binds (K:PySem.W.Frag) (fd:FuncData) (ps:List Str) (ds:List Value):Prop :=
 ∀ (s:Shared) (us:List Value),K.In s.heap->(us++ds).length=ps.length->BindsTo s fd ⟨us,[]⟩ (ps.zip (us++ds))
theorem Binds.all {K:PySem.W.Frag}{fd:FuncData}{ps:List Str} (h:∀ us:List Value,us.length=ps.length->bindArgs fd ⟨us,[]⟩=pure (ps.zip us)):Binds K fd ps []:=fun s us _ hl=>by
 rw [ZaE] at hl ⊢
 exact .of_eq (h us hl)
noncomputable def uc (CX:CXT) (X:Cx) (E:XK):Prop:=∀ (pins:List (Addr×Obj)) (σ:St) (H:Hp) (s:Shared) (e:Value) (s':Shared),Inv X pins σ H s->CX X.stack H s E e s'->X.xe e s'
section
variable {X:Cx}{CX:CXT}{k:Nat}{f C:Addr}{fd:FuncData}{ps:List Str}{sp:Sp}{dvs:List V}{ds:List Value}{E:XK}{x m:Str}{p pos apos:Pos}{e o:Expr}{es:List Expr}{ta:TE}{t:TA}
theorem PK {pins:List (Addr×Obj)}{σ:St}{H:Hp}{s:Shared}{Q:VK}{us:List Value}{vs:List V} (F:lr X.prog X.w X.K X.mg X.base CX k f fd ps sp) (hr:eX k X.A) (hb:Binds X.K fd ps ds) (hd:Vals dvs ds) (hx:uc CX X E)
  (I:Inv X pins σ H s) (r:Vals vs us) (h:sp (vs++dvs) H Q E):wpAny (model X.prog X.w) X.A (call (.ref f) us) (EP X pins σ Q) X.xe s:=by
 have r2:Vals (vs++dvs) (us++ds):=r.append hd
 have hl:(us++ds).length=ps.length:=by rw [←r2.length];exact F.len _ _ _ _ h
 refine wpAny_call (codeAny_mono (F.run X.A X.stack s H ⟨us,[]⟩ (us++ds) (vs++dvs) Q E hr I.env0 (hb s us I.kIn hl) r2 h) fun r s' hq=>?_)
 cases r with
 | error e=>exact hx pins σ H s e s' I hq
 | ok fl =>
  cases fl with
  | ret u=>exact I.after hq
  | next=>exact False.elim hq
  | brk=>exact False.elim hq
  | cont=>exact False.elim hq
theorem Et (F:lr X.prog X.w X.K X.mg X.base CX k f fd ps sp) (hr:eX k X.A) (hg:Gl X x) (hm:X.mg x=some (.ref f)) (hk:PySem.W.keepIn X.K (.ref f)=true) (hb:Binds X.K fd ps ds) (hd:Vals dvs ds) (hx:uc CX X E)
  (ha:PA X (e::es) t) (hdb:(x == ("__debug__":Str))=false:=by decide) (he:starEach (e::es) X.env=(false,eval e X.env)::starEach es X.env:=by rfl) (hpl:(backTo pos (starEach es X.env)).any (·.1)=false:=by rfl) :
  PE X (.Call (.Name x p) (e::es) [] pos) (qF sp dvs E t):=by
 intro pins s σ H Q I h
 refine wpAny_Call_Name_kw (rU I hg hm ?_ hdb)
 refine PySem.W.callWith_K (h₀:=X.base) I.ok.mod.kin hk (thn (ha pos pins s σ H _ I h) fun us s1 ⟨vs,H1,I1,r,q⟩=>⟨I1.kIn,?_⟩) he hpl
 exact PK F hr hb hd hx I1 r q
structure Mk (K:PySem.W.Frag) (C f:Addr):Prop where
 makes:PySem.W.makesIn K C=true
 init:PySem.W.findIn K (.ref C) "__init__"=some (some (.ref f))
 fn:PySem.W.isFn K (.ref f)=true
 kp:PySem.W.keepIn K (.ref C)=true
end
section
variable {X:Cx}{CX:CXT}{k:Nat}{f C:Addr}{fd:FuncData}{ps ks:List Str}{sp:Sp}{E:XK}{x m:Str}{p pos apos kpos:Pos}{e o:Expr}{es:List Expr}{kws:List Keyword}{te ta:TE}{t tk:TA}{nm:Option Str}
structure TY (K:PySem.W.Frag) (fd:FuncData) (ps ks:List Str) (g:List Value->List Value->List Value) (gV:List V->List V->List V):Prop where
 to:∀ (s:Shared) (us ws:List Value),K.In s.heap->(g us ws).length=ps.length->BindsTo s fd ⟨us,ks.zip ws⟩ (ps.zip (g us ws))
 rel:∀ {vs:List V}{us:List Value}{zs:List V}{ws:List Value},Vals vs us->Vals zs ws->Vals (gV vs zs) (g us ws)
variable {g:List Value->List Value->List Value}{gV:List V->List V->List V}
end
structure bZ (N P:List Str) (sc:Scope):Prop where
 kind:sc.kind=.function
 co:sc.isCoroutine=false
 gen:sc.isGenerator=false
 nd:N.Nodup
 pre:N.take P.length=P
 par:∀ x∈P,sc.names.lookup x=some .local∨sc.names.lookup x=some .cell
 nofree:∀ y∈sc.names,y.2≠.free
theorem xK {kindOf:Str->Option NameKind}{x:Str}:∀ {binds:List (Str×Value)}{m:Str->Option Value},(∀ v,(x,v) ∉ binds)->bindL kindOf binds m x=m x
 | [],_,_=>rfl
 | (n,v)::r,m,h=>by
  unfold bindL
  rw [xK fun w hw=>h w (List.mem_cons_of_mem _ hw)]
  split
  ·have:x≠n:=by rintro rfl;exact h v List.mem_cons_self
   simp [this]
  ·rfl
theorem xM {kindOf:Str->Option NameKind}{x:Str}:∀ {binds:List (Str×Value)}{m:Str->Option Value},(∀ v,(x,v) ∉ binds)->bindC kindOf binds m x=m x
 | [],_,_=>rfl
 | (n,v)::r,m,h=>by
  unfold bindC
  rw [xM fun w hw=>h w (List.mem_cons_of_mem _ hw)]
  split
  ·rfl
  ·have:x≠n:=by rintro rfl;exact h v List.mem_cons_self
   simp [this]
theorem xN {kindOf:Str->Option NameKind}{x:Str}{v:Value}:∀ {P:List Str}{vs:List Value}{i:Nat}{m:Str->Option Value},P.Nodup->P[i]?=some x->vs[i]?=some v->kindOf x=some .local ->
  bindL kindOf (P.zip vs) m x=some v
 | [],_,_,_,_,h,_,_=>by simp at h
 | _::_,[],_,_,_,_,h,_=>by simp at h
 | p::P,w::vs,0,m,nd,h1,h2,hk=>by
  simp at h1 h2;subst h1;subst h2
  show bindL kindOf ((p,w)::P.zip vs) m p=_
  unfold bindL
  rw [xK fun v hv=>(List.nodup_cons.mp nd).1 (List.of_mem_zip hv).1,if_pos hk]
  simp
 | p::P,w::vs,i+1,m,nd,h1,h2,hk=>by
  show bindL kindOf ((p,w)::P.zip vs) m x=_
  unfold bindL
  exact xN (i:=i) (List.nodup_cons.mp nd).2 (by simpa using h1) (by simpa using h2) hk
theorem xO {kindOf:Str->Option NameKind}{x:Str}{v:Value}:∀ {P:List Str}{vs:List Value}{i:Nat}{m:Str->Option Value},P.Nodup->P[i]?=some x->vs[i]?=some v->kindOf x≠some .local ->
  bindC kindOf (P.zip vs) m x=some v
 | [],_,_,_,_,h,_,_=>by simp at h
 | _::_,[],_,_,_,_,h,_=>by simp at h
 | p::P,w::vs,0,m,nd,h1,h2,hk=>by
  simp at h1 h2;subst h1;subst h2
  show bindC kindOf ((p,w)::P.zip vs) m p=_
  unfold bindC
  rw [xM fun v hv=>(List.nodup_cons.mp nd).1 (List.of_mem_zip hv).1,if_neg hk]
  simp
 | p::P,w::vs,i+1,m,nd,h1,h2,hk=>by
  show bindC kindOf ((p,w)::P.zip vs) m x=_
  unfold bindC
  exact xO (i:=i) (List.nodup_cons.mp nd).2 (by simpa using h1) (by simpa using h2) hk
noncomputable def start (N:List Str) (vs:List V):St:=vs.map some++List.replicate (N.length - vs.length) none
noncomputable def ud (CX:CXT) (P:Program) (w:World) (K:PySem.W.Frag) (mg:Str->Option Value) (base:Heap) (N:List Str) (qual:Str) (scope:Scope) (f:Addr) (cd:Value) (A:Around) (outer:List Env) (s:Shared) (H:Hp) (E:XK):Cx where
 prog:=P
 w:=w
 K:=K
 mg:=mg
 base:=base
 A:=A.deeper (envOfC qual scope s.heap.objs.size f cd)
 N:=N
 s₀:=s
 H₀:=H
 env:=envOfC qual scope s.heap.objs.size f cd
 outer:=outer
 stack:=envOfC qual scope s.heap.objs.size f cd::outer
 ex:=[]
 calm:=true
 fn:=fun _=>true
 pn:=[]
 xe:=fun e s'=>wpAny (model P w) (A.deeper (envOfC qual scope s.heap.objs.size f cd)) (leaving (envOfC qual scope s.heap.objs.size f cd) e) (fun _ s''=>CX outer H s E e s'') (fun e' s''=>CX outer H s E e' s'') s'
theorem Ae {sc:Scope}{n:Nat}{x:Str} (h:sc.names.lookup x=some .cell):∃ c,(cellsFrom n sc.names []).lookup x=some c:=by
 have q:=PySem.W.cellsFrom_some sc.names n [] (.inl h)
 exact Option.isSome_iff_exists.mp q
theorem GP {CX:CXT}{P:Program}{w:World}{K:PySem.W.Frag}{mg:Str->Option Value}{base:Heap}{N ps:List Str}{qual:Str}{scope:Scope}{f:Addr}{cd:Value}{A:Around}{outer:List Env}{s s1:Shared}{H:Hp}{E:XK}{us:List Value}{vs:List V}
  (S:bZ N ps scope) (hd:A.handled=none) (e0:w6 P w K mg base A outer s H) (hl:vs.length=ps.length) (r:Vals vs us)
  (x:InCallC s s.heap.objs.size (bindL (envOfC qual scope s.heap.objs.size f cd).kindOf (ps.zip us) fun _=>none) (cellsFrom (s.heap.objs.size+1) scope.names []) (bindC (envOfC qual scope s.heap.objs.size f cd).kindOf (ps.zip us) fun _=>none) s1) :
  Inv (ud CX P w K mg base N qual scope f cd A outer s H E) [] (start N vs) H s1:=by
 have hpl:ps.length≤N.length:=by have:=congrArg List.length S.pre;rw [Zat] at this;omega
 obtain ⟨h1,tk,rfl,hk⟩:=x.done
 have noA:∀ b:Addr,b ∉ (ud CX P w K mg base N qual scope f cd A outer s H E).ex:=fun b z=>absurd (show b∈([]:List Addr) from z) (by simp)
 refine ⟨⟨e0.mod,S.kind,rfl,rfl,Zaf _,fun y z c h1 h2=>?_,fun y hy=>?_,fun y c _ h=>?_,fun _=>hd,Around.frames_deeper e0.frames,.inr ⟨rfl,rfl⟩,fun b z=>absurd z (noA b),e0.bs,e0.bsz,fun b _ _=>noA b,fun b z=>absurd z (noA b),e0.qx,e0.frf⟩,
  rfl,e0.bare,Un.kept hk,⟨_,x.toInCall.ns,fun i y v h1 h2 h3=>?_⟩,fun y c h=>⟨_,x.cell y c h⟩,e0.hok.fresh (Zaf _),fun y c h=>?_,fun p hp=>absurd (show p∈([]:List (Addr×Obj)) from hp) (by simp),e0.hok.kept hk,?_⟩
 ·exact name_of_addr x.apart (Zbv h1) (Zbv h2)
 ·have hy:scope.names.lookup y=some .cell∨scope.names.lookup y=some .free:=hy
  rcases hy with hy | hy
  ·exact Ae hy
  ·exact absurd rfl (S.nofree _ (Zbv hy))
 ·exact Nat.le_of_lt (x.above y c (Zbv h))
 ·have hi:i < vs.length:=by
   unfold start at h2
   by_cases hi:i < vs.length
   ·exact hi
   ·rw [ZaC (by simpa using hi)] at h2
    rw [Za6] at h2
    split at h2 <;> cases h2
  have ha:vs[i]?=some v:=by
   unfold start at h2
   rw [Zax (by simpa using hi),Zag] at h2
   cases e:vs[i]? with
   | none=>rw [e] at h2;cases h2
   | some a=>rw [e] at h2;cases h2;rfl
  obtain ⟨u,hu,rv⟩:=r.get ha
  have hp:ps[i]?=some y:=by
   rw [←S.pre,List.getElem?_take_of_lt (by omega)];exact h1
  have ndP:ps.Nodup:=by rw [←S.pre];exact S.nd.sublist (Zba _ _)
  refine ⟨u,rv,?_⟩
  rcases S.par y (Zau hp) with k | k
  ·exact .inl ⟨k,xN ndP hp hu k⟩
  ·obtain ⟨c,e⟩:=Ae (n:=s.heap.objs.size+1) k
   refine .inr ⟨.inl k,c,e,?_⟩
   have q:=x.cell y c e
   rw [xO ndP hp hu (by show scope.names.lookup y≠_;rw [k];decide)] at q
   exact q
 ·exact e0.hok.fresh (Nat.le_of_lt (x.above y c (Zbv h)))
 ·unfold start
  show _=N.length
  rw [List.length_append,List.length_map,List.length_replicate]
  omega
theorem Oh {CX:CXT}{P:Program}{w:World}{K:PySem.W.Frag}{mg:Str->Option Value}{base:Heap}{k:Nat}{f:Addr}{name qual:Str}{params:Arguments}{body:List Stmt}{scope:Scope}{dV kV doc pm cdv ct oc:Value}{an od:Option Addr}
  {osl:Array (Option Value)}{N ps:List Str}{sp:Sp} (lk:K.lookup f=some ⟨oc,od,.func (PySem.W.fnOf name qual params body scope dV kV doc pm an cdv ct),osl⟩) (hcd:PySem.W.codeIn K cdv qual=true) (S:bZ N ps scope)
  (len:∀ vs H Q E,sp vs H Q E->vs.length=ps.length)
  (hbody:∀ (A:Around) (outer:List Env) (s:Shared) (H:Hp) (vs:List V) (Q:VK) (E:XK),eX k (A.deeper (envOfC qual scope s.heap.objs.size f cdv))->sp vs H Q E ->
   ∃ t,PSs (ud CX P w K mg base N qual scope f cdv A outer s H E) body t∧t { nx:=fun _ H'=>Q .non H',rt:=Q } (start N vs) H) :
  lr P w K mg base CX (k+1) f (PySem.W.fnOf name qual params body scope dV kV doc pm an cdv ct) ps sp:=by
 refine ⟨len,fun A outer s H args us vs Q E hr e0 hb r hsp=>?_⟩
 have hl:=len _ _ _ _ hsp
 have KX:K.In s.heap:=e0.mod.kin.keeps fun b o e=>(e0.bs b o e).1
 have lim:s.heap.NoLimit:=e0.mod.nolimit.keeps fun b o e=>(e0.bs b o e).1
 have hkind:∀ y∈ps.zip us,scope.names.lookup y.1=some .local∨(scope.names.lookup y.1=some .cell∧((cellsFrom (s.heap.objs.size+1) scope.names []).lookup y.1).isSome=true):=fun ⟨n,v⟩ hy=>by
  rcases S.par n (List.of_mem_zip hy).1 with q | q
  ·exact .inl q
  ·exact .inr ⟨q,PySem.W.cellsFrom_some _ _ _ (.inl q)⟩
 refine codeAny_call_function hr.depth (KX _ _ lk) rfl S.co S.gen rfl (PySem.W.codeRec_of KX hcd) (hb _ _ _ _ ?_)
 refine wpAny_newFunctionEnv_cells S.kind hkind fun env he s1 x=>?_
 subst he
 refine ⟨lim.keeps x.toInCall.keep,codeAny_func ?_⟩
 obtain ⟨t,ht,hq⟩:=hbody A outer s H vs Q E (hr.deeper _) hsp
 have I:Inv (ud CX P w K mg base N qual scope f cdv A outer s H E) [] (start N vs) H s1:=GP S hr.hd e0 hl r x
 refine wpAny_mono (ht [] s1 (start N vs) H _ I hq) (fun fl s' hs=>?_) fun e s' hs=>hs
 have fin:∀ {σ':St}{H':Hp}{v:V}{u:Value},Inv (ud CX P w K mg base N qual scope f cdv A outer s H E) [] σ' H' s'->RelV v u->Q v H'->CE outer P w H s Q u s' :=
  fun {σ' H' v u} J rv q=>⟨v,H',J.os,J.bare,J.base,J.hok,rv,q⟩
 cases fl with
 | ret u =>
  obtain ⟨v,σ',H',J,rv,q⟩:=hs
  exact fin J rv q
 | next =>
  obtain ⟨σ',H',J,q⟩:=hs
  exact fin (v:=V.non) (u:=Value.none) J rfl q
 | brk =>
  obtain ⟨_,_,_,q⟩:=hs
  exact False.elim q
 | cont =>
  obtain ⟨_,_,_,q⟩:=hs
  exact False.elim q
section
variable {X:Cx}{x:Str}{p pos:Pos}{e:Expr}{es:List Expr}{t:TA}{id T:String}{r:List V->Hp->VK->Prop}
noncomputable def tCB (r:List V->Hp->VK->Prop) (t:TA):TE:=fun σ H Q=>t σ H fun vs H1=>r vs H1 Q
theorem aZ (hc:jt X (.builtin id) r) (hg:Gl X x) (hm:X.mg x=none) (hv:bootBuiltins x=some (.builtin id)) (ha:PA X (e::es) t) (hn:x≠"__name__":=by decide) (hdb:(x == ("__debug__":Str))=false:=by decide)
  (he:starEach (e::es) X.env=(false,eval e X.env)::starEach es X.env:=by rfl) (hpl:(backTo pos (starEach es X.env)).any (·.1)=false:=by rfl):PE X (.Call (.Name x p) (e::es) [] pos) (tCB r t):=by
 intro pins s σ H Q I h
 refine wpAny_Call_Name_kw (o9 I hg hm hv ?_ hn hdb)
 exact PyProof.Rows.callWith_builtin1 (thn (ha pos pins s σ H _ I h) fun us s1 ⟨vs,H1,I1,r1,q1⟩=>hc pins s1 σ H1 vs us Q I1 r1 q1) he hpl
theorem lN (hc:jt X (.type T) r) (hg:Gl X x) (hm:X.mg x=none) (hv:bootBuiltins x=some (.type T)) (ha:PA X (e::es) t) (hn:x≠"__name__":=by decide) (hdb:(x == ("__debug__":Str))=false:=by decide)
  (he:starEach (e::es) X.env=(false,eval e X.env)::starEach es X.env:=by rfl) (hpl:(backTo pos (starEach es X.env)).any (·.1)=false:=by rfl):PE X (.Call (.Name x p) (e::es) [] pos) (tCB r t):=by
 intro pins s σ H Q I h
 refine wpAny_Call_Name_kw (o9 I hg hm hv ?_ hn hdb)
 exact Za5 (thn (ha pos pins s σ H _ I h) fun us s1 ⟨vs,H1,I1,r1,q1⟩=>hc pins s1 σ H1 vs us Q I1 r1 q1) he hpl
end
end L2
namespace HT
open PySem PyProof.Rows
section
open PySem.SeqAt
open PySem.AutoSeq1 (wpAny_loadPart')
open PySem.MeetsSeq PySem.MeetsSeq2 PySem.MeetsSeq3
end
section
variable {prog:Program}{w:World}{A:Around}{E:Value->Shared->Prop}{s:Shared}
theorem Lq {t b:Addr}{vs ws:List Value}{Q:Value->Shared->Prop} (ht:IsTup s.heap t vs.toArray) (hb:IsTup s.heap b ws.toArray) (hv:vs≠[])
  (h1:ws=[]->Q (.ref t) s) (h2:ws≠[]->Q (.ref s.heap.objs.size) { s with heap:=s.heap.push { cls:=.type "tuple",data:=.seq (vs++ws).toArray } })
  (hsz:vs.length+ws.length≤sizeLine):wpAny (model prog w) A (binaryOp .Add (.ref t) (.ref b)) Q E s:=by
 obtain ⟨⟨cls,dd,data,sl⟩,ho,hc,n,hd⟩:=id ht
 obtain ⟨⟨cls2,dd2,data2,sl2⟩,ho2,hc2,n2,hd2⟩:=id hb
 simp only at hc hd hc2 hd2
 subst hc hd hc2 hd2
 have e:vs.toArray++ws.toArray=(vs++ws).toArray:=by simp
 by_cases hw:ws=[]
 ·exact concat_meets ⟨_,ho,rfl⟩ ⟨_,ho2,rfl⟩ noFill_tuple_add seq_tuple_add PySem.F.slot_tuple_add PySem.F.entry_tuple_add (PySem.F.args_tuple_add_2 _ _)
   (tuple_addW1 t b vs.toArray ws.toArray n n2 dd dd2 sl sl2 (by simpa using hv) (by simp [hw])) ⟨ho,ho2,h1 hw⟩
 ·refine concat_meets ⟨_,ho,rfl⟩ ⟨_,ho2,rfl⟩ noFill_tuple_add seq_tuple_add PySem.F.slot_tuple_add PySem.F.entry_tuple_add (PySem.F.args_tuple_add_2 _ _)
   (tuple_addW2 t b vs.toArray ws.toArray n n2 dd dd2 sl sl2 (by simpa using hv) (by simpa using hw) (by rw [List.size_toArray,List.size_toArray];exact hsz)) ⟨ho,ho2,?_⟩
  rw [e]
  exact h2 hw
noncomputable def sIx (n d:Nat):Option Int->Nat
 | none=>d
 | some v=>if v < 0 then (v+(n:Int)).toNat else min v.toNat n
theorem pB (n d:Nat):sIx n d none=d:=rfl
theorem sr (n d k:Nat):sIx n d (some (k:Int))=min k n:=by
 show (if (k:Int) < 0 then ((k:Int)+(n:Int)).toNat else min (k:Int).toNat n)=min k n
 rw [if_neg (by omega),Int.toNat_natCast]
end
end HT
namespace L2
open PySem PySem.Spec PyProof.Rows
noncomputable abbrev TO:=St->Hp->(Option Int->Hp->Prop)->Prop
noncomputable def PO (X:Cx) (e:Option Expr) (t:TO):Prop :=
 ∀ (pins:List (Addr×Obj)) (s:Shared) (σ:St) (H:Hp) (Q:Option Int->Hp->Prop),Inv X pins σ H s->t σ H Q ->
  wpAny (model X.prog X.w) X.A (evalPart e X.env) (fun u s'=>∃ o H',Inv X pins σ H' s'∧IsPart u o∧Q o H') X.xe s
noncomputable def Eu:TO:=fun _ H Q=>Q none H
noncomputable def Oi (t:TE):TO:=fun σ H Q=>t σ H fun x H1=>∃ i,x=.int i∧Q (some i) H1
section
variable {X:Cx}{e:Expr}{te:TE}{lo hi:Option Expr}{tl th:TO}{pos p2:Pos}
theorem dw:PO X none Eu:=by
 intro pins s σ H Q I h
 rw [evalPart_none]
 exact wpAny_pure ⟨none,H,I,.none,h⟩
theorem cR (h:PE X e te):PO X (some e) (Oi te):=by
 intro pins s σ H Q I hw
 rw [evalPart_some]
 refine thn (h pins s σ H _ I hw) fun u s1 ⟨x,H1,I1,r1,q1⟩=>?_
 obtain ⟨i,rfl,q⟩:=q1
 obtain ⟨t,rfl⟩:=r1
 exact ⟨some i,H1,I1,.int i t,q⟩
noncomputable def SlR (X:Cx) (r:V->Option Int->Option Int->Hp->VK->Prop):Prop :=
 ∀ (pins:List (Addr×Obj)) (s:Shared) (σ:St) (H:Hp) (x:V) (v vl vu:Value) (lo hi:Option Int) (sl:Addr) (Q:VK),Inv X pins σ H s->RelV x v->s.heap.IsSliceOf sl vl vu .none->IsPart vl lo->IsPart vu hi->r x lo hi H Q ->
  ∃ T id,typeLookup (.type T) "__getitem__"=pure (some (.builtin id))∧s.TypeIs v T∧wpAny (model X.prog X.w) X.A (getItem v (.ref sl)) (EP X pins σ Q) X.xe s
theorem SlR.or {r r':V->Option Int->Option Int->Hp->VK->Prop} (h:SlR X r) (h':SlR X r'):SlR X (fun x lo hi H Q=>r x lo hi H Q∨r' x lo hi H Q):=by
 intro pins s σ H x v vl vu lo hi sl Q I rx hs pl pu q
 rcases q with q | q
 ·exact h pins s σ H x v vl vu lo hi sl Q I rx hs pl pu q
 ·exact h' pins s σ H x v vl vu lo hi sl Q I rx hs pl pu q
noncomputable def tSl (r:V->Option Int->Option Int->Hp->VK->Prop) (te:TE) (tl th:TO):TE:=fun σ H Q=>te σ H fun x H1=>tl σ H1 fun l H2=>th σ H2 fun u H3=>r x l u H3 Q
theorem cO {r:V->Option Int->Option Int->Hp->VK->Prop} (hr:SlR X r) (he:PE X e te) (hl:PO X lo tl) (hu:PO X hi th):PE X (.Subscript e (.Slice lo hi none p2) pos) (tSl r te tl th):=by
 intro pins s σ H Q I h
 refine Subscript_ (thn (he pins s σ H _ I h) fun v s1 ⟨x,H1,I1,r1,q1⟩=>?_)
 refine wpAny_Slice (thn (hl pins s1 σ H1 _ I1 q1) fun vl s2 ⟨l,H2,I2,pl,q2⟩=>thn (hu pins s2 σ H2 _ I2 q2) fun vu s3 ⟨u,H3,I3,pu,q3⟩=>?_)
 rw [evalPart_none]
 refine wpAny_pure ?_
 have I4:Inv X pins σ H3 { s3 with heap:=s3.heap.push { cls:=.type "slice",data:=.fields #[vl,vu,.none] } }:=I3.kept (t':=s3.toks) fun b ob q=>Zaa _ q
 obtain ⟨T,id,hT,ht,hg⟩:=hr pins { s3 with heap:=s3.heap.push { cls:=.type "slice",data:=.fields #[vl,vu,.none] } } σ H3 x v vl vu l u s3.heap.objs.size Q I4 r1 (Heap.IsSliceOf.new ..) pl pu q3
 show wpAny (model X.prog X.w) X.A (subscriptTail e (.Slice lo hi none p2) v (.ref s3.heap.objs.size)) (EP X pins σ Q) X.xe { s3 with heap:=s3.heap.push { cls:=.type "slice",data:=.fields #[vl,vu,.none] } }
 exact tail_any (ops:=[.ref s3.heap.objs.size,v]) ht hT hg (by with_unfolding_all rfl)
noncomputable def GQ (xs:List V) (lo hi:Option Int):List V:=(xs.drop (HT.sIx xs.length 0 lo)).take (HT.sIx xs.length xs.length hi - HT.sIx xs.length 0 lo)
theorem Af (xs:List V) (lo hi:Option Int):(GQ xs lo hi).length≤xs.length:=by
 unfold GQ
 rw [Zat,ZaB]
 omega
noncomputable def Oj (K:PySem.W.Frag):R2:=fun x y H Q=>∃ a b xs ys,x=.ref a∧y=.ref b∧SqT K H a xs∧SqT K H b ys∧xs≠[]∧xs.length+ys.length≤sizeLine ∧
 (ys=[]->Q (.ref a) H)∧(ys≠[]->∀ p,H p=none->Q (.ref p) (upd H p (.tup (xs++ys))))
theorem Vals.yN {xs:List V}{us:List Value} (r:Vals xs us):us=[]↔xs=[]:=by
 cases r with
 | nil=>simp
 | cons _ _=>simp
theorem Lr:OpR X (binaryOp .Add) (Oj X.K):=by
 intro pins s σ H x y v u Q I rx ry h
 obtain ⟨a,b,xs,ys,rfl,rfl,ha,hb,hx,hz,q1,q2⟩:=h
 cases rx
 cases ry
 obtain ⟨its,r1,p1,_⟩:=I.tuple ha
 obtain ⟨its2,r2,p2,_⟩:=I.tuple hb
 refine HT.Lq p1 p2 (fun z=>hx (r1.yN.mp z)) (fun z=>⟨.ref a,H,I,rfl,q1 (r2.yN.mp z)⟩) (fun z=>?_) (by rw [←r1.length,←r2.length];exact hz)
 refine ⟨.ref s.heap.objs.size,_,I.laid (t':=s.toks) (o:=.tup (xs++ys)) (fun b ob q=>Zaa _ q) (Zaf _) ?_,rfl,q2 (fun w=>z (r2.yN.mpr w)) _ (I.hok.fresh (Zaf _))⟩
 exact ⟨by rw [List.length_append];exact hz,_,r1.append r2,gD.new _ _⟩
end
noncomputable def ixN (n:Nat) (i:Int):Option Nat:=if 0≤i then (if i < n then some i.toNat else none) else if -(n:Int)≤i then some (i+n).toNat else none
noncomputable def atI {α:Type} (xs:List α) (i:Int):Option α:=(ixN xs.length i).bind fun j=>xs[j]?
theorem Ew {n:Nat}{i:Int}{j:Nat} (h:ixN n i=some j):seqIndex? i n=some j∧j < n∧-(n:Int)≤i∧i < n:=by
 unfold ixN at h
 by_cases h0:0≤i
 ·rw [if_pos h0] at h
  by_cases h1:i < n
  ·rw [if_pos h1] at h
   have e:i.toNat=j:=Zab h
   exact ⟨by rw [seqIndex_of h0 h1,e],by omega,by omega,h1⟩
  ·rw [if_neg h1] at h;cases h
 ·rw [if_neg h0] at h
  by_cases h1:-(n:Int)≤i
  ·rw [if_pos h1] at h
   have e:(i+n).toNat=j:=Zab h
   exact ⟨by rw [seqIndex_neg (by omega) h1,e],by omega,h1,by omega⟩
  ·rw [if_neg h1] at h;cases h
theorem yO {α:Type}{xs:List α}{i:Int}{v:α} (h:atI xs i=some v):∃ j,seqIndex? i xs.length=some j∧xs[j]?=some v∧j < xs.length∧-(xs.length:Int)≤i∧i < xs.length:=by
 unfold atI at h
 cases e:ixN xs.length i with
 | none=>rw [e] at h;cases h
 | some j =>
  rw [e] at h
  obtain ⟨h1,h2,h3,h4⟩:=Ew e
  exact ⟨j,h1,h,h2,h3,h4⟩
theorem mZ {α:Type}{xs:List α}{j:Nat}{v:α} (h:xs[j]?=some v):atI xs (j:Int)=some v:=by
 have hj:j < xs.length:=(Zap.mp h).1
 have e:ixN xs.length (j:Int)=some j:=by
  unfold ixN
  rw [if_pos (by omega),if_pos (by omega)];simp
 unfold atI;rw [e];exact h
noncomputable def Ls (b:Expr):Prop:=∀ o i,subscripted b false o i=operate [o,i] (getItem o i)
noncomputable def IxR (X:Cx) (r:R2):Prop :=
 ∀ (value slice:Expr) (pins:List (Addr×Obj)) (s:Shared) (σ:St) (H:Hp) (x y:V) (v u:Value) (Q:VK),Inv X pins σ H s->RelV x v->RelV y u->r x y H Q ->
  subscripted slice false v u=operate [v,u] (getItem v u)->wpAny (model X.prog X.w) X.A (subscriptTail value slice v u) (EP X pins σ Q) X.xe s
noncomputable def MtR (X:Cx) (id:String) (r:V->List V->Hp->VK->Prop):Prop :=
 ∀ (pins:List (Addr×Obj)) (s:Shared) (σ:St) (H:Hp) (x:V) (xs:List V) (v:Value) (us:List Value) (Q:VK),Inv X pins σ H s->RelV x v->Vals xs us->r x xs H Q ->
  wpAny (model X.prog X.w) X.A (call (.builtin id) (v::us)) (EP X pins σ Q) X.xe s
section
variable {X:Cx}{a b:Expr}{ta tb:TE}{pos:Pos}
theorem IxR.or {r r':R2} (h:IxR X r) (h':IxR X r'):IxR X (fun x y H Q=>r x y H Q∨r' x y H Q):=by
 intro value slice pins s σ H x y v u Q I rx ry q hs
 rcases q with q | q
 ·exact h value slice pins s σ H x y v u Q I rx ry q hs
 ·exact h' value slice pins s σ H x y v u Q I rx ry q hs
theorem MtR.or {id:String}{r r':V->List V->Hp->VK->Prop} (h:MtR X id r) (h':MtR X id r'):MtR X id (fun x xs H Q=>r x xs H Q∨r' x xs H Q):=by
 intro pins s σ H x xs v us Q I rx rs q
 rcases q with q | q
 ·exact h pins s σ H x xs v us Q I rx rs q
 ·exact h' pins s σ H x xs v us Q I rx rs q
theorem aU {r:R2} (hr:IxR X r) (ha:PE X a ta) (hb:PE X b tb) (hs:Ls b):PE X (.Subscript a b pos) (tOp r ta tb):=by
 intro pins s σ H Q I h
 exact Subscript_ (Pu ha hb I h fun v u s2 x y H2 I2 rx ry q=>hr a b pins s2 σ H2 x y v u Q I2 rx ry q (hs _ _))
noncomputable def RT (K:PySem.W.Frag):R2:=fun x y H Q=>∃ p xs i v,x=.ref p∧y=.int i∧SqL K H p xs∧atI xs i=some v∧Q v H
noncomputable def RV (K:PySem.W.Frag):R2:=fun x y H Q=>∃ p xs i v,x=.ref p∧y=.int i∧SqT K H p xs∧atI xs i=some v∧Q v H
noncomputable def RW:R2:=fun x y H Q=>∃ z i c,x=.str z∧y=.int i∧z.length≤sizeLine∧atI z.cps.toList i=some c∧Q (.str ⟨#[c]⟩) H
theorem Lw:IxR X (RT X.K):=by
 intro value slice pins s σ H x y v u Q I rx ry h hs
 obtain ⟨p,xs,i,z,rfl,rfl,hq,he,q⟩:=h
 cases rx
 obtain ⟨t,rfl⟩:=ry
 obtain ⟨its,r,pl,hz⟩:=I.list hq
 obtain ⟨j,h1,h2,h3,h4,h5⟩:=yO he
 obtain ⟨w,ew,rw'⟩:=r.get h2
 have hl:=r.length
 have hn:=vC
 have fin:EP X pins σ Q w s:=⟨z,H,I,rw',q⟩
 by_cases h0:0≤i
 ·have hj:i.toNat=j:=by
   rw [seqIndex_of h0 h5] at h1
   exact Zab h1
  exact item_listR pl.isList h0 (by omega) (by rw [hj];simpa using ew) fin hs
 ·have hj:(i+(its.toArray.size:Int)).toNat=j:=by
   rw [seqIndex_neg (by omega) h4] at h1
   rw [List.size_toArray,←hl]
   exact Zab h1
  exact subscriptTail_builtinR (x:=w) pl.isList.typeIs slot_list_getitem.lookup
   (wpAny_getItem_list_neg (Q:=fun r s'=>r=w∧EP X pins σ Q r s') pl.isList (by omega) (by rw [List.size_toArray] <;> omega) (by omega) (by rw [hj];simpa using ew) ⟨rfl,fin⟩) hs
theorem PL:IxR X (RV X.K):=by
 intro value slice pins s σ H x y v u Q I rx ry h hs
 obtain ⟨p,xs,i,z,rfl,rfl,hq,he,q⟩:=h
 cases rx
 obtain ⟨t,rfl⟩:=ry
 obtain ⟨its,r,pl,hz⟩:=I.tuple hq
 obtain ⟨j,h1,h2,h3,h4,h5⟩:=yO he
 obtain ⟨w,ew,rw'⟩:=r.get h2
 have hl:=r.length
 have hn:=vC
 have fin:EP X pins σ Q w s:=⟨z,H,I,rw',q⟩
 exact subscriptTail_builtinR (x:=w) pl.typeIs slot_tuple_getitem.lookup
  (getItem_tuple (j:=j) (Q:=fun r s'=>r=w∧EP X pins σ Q r s') pl (by omega) (by omega) (by rw [List.size_toArray,←hl];exact h1) (by simpa using ew) ⟨rfl,fin⟩) hs
theorem PN:IxR X RW:=by
 intro value slice pins s σ H x y v u Q I rx ry h hs
 obtain ⟨z,i,c,rfl,rfl,hz,he,q⟩:=h
 obtain ⟨t,rfl⟩:=rx
 obtain ⟨t',rfl⟩:=ry
 obtain ⟨j,h1,h2,h3,h4,h5⟩:=yO he
 have hl:z.cps.toList.length=z.length:=by simp [Str.length]
 rw [hl] at h1 h4 h5
 have hn:=vC
 exact tail_any (typeIs_str s z t) slot_str_getitem.lookup (getItem_str (c:=c) (by
  have e1:decide (i < -(2 ^ 63:Int))=false:=decide_eq_false (by omega)
  have e2:decide (i ≥ 2 ^ 63)=false:=decide_eq_false (by omega)
  rw [e1,e2,Bool.or_false]) (by rw [h1];simpa using h2) ⟨.str ⟨#[c]⟩,H,I.tok _,⟨_,rfl⟩,q⟩) hs
noncomputable def rIx (K:PySem.W.Frag):R2:=fun x y H Q=>RT K x y H Q∨RV K x y H Q∨RW x y H Q
theorem aM:IxR X (rIx X.K):=Lw.or (PL.or PN)
theorem CK (its:List Value) (n j:Nat) (u:Value):Obj.mapSeq (·.setIfInBounds j u) { cls:=.type "list",data:=.seq its.toArray n }={ cls:=.type "list",data:=.seq (its.set j u).toArray n }:=by
 simp [Obj.mapSeq]
theorem Inv.lst {pins:List (Addr×Obj)}{σ:St}{H:Hp}{s:Shared}{p:Addr}{xs:List V} (I:Inv X pins σ H s) (h:H p=some (.lst xs)) :
  ∃ (its:List Value) (n:Nat),Vals xs its∧s.heap.get? p=some { cls:=.type "list",data:=.seq its.toArray n }∧xs.length≤sizeLine:=by
 obtain ⟨z,its,n,r,e⟩:=I.hok p _ h
 exact ⟨its,n,r,e,z⟩
theorem Inv.PP {pins:List (Addr×Obj)}{σ:St}{H:Hp}{s:Shared}{p:Addr}{xs ys:List V}{its its':List Value}{n n':Nat}{f:Obj->Obj} (I:Inv X pins σ H s) (h:H p=some (.lst xs))
  (ho:s.heap.get? p=some { cls:=.type "list",data:=.seq its.toArray n }) (hf:f { cls:=.type "list",data:=.seq its.toArray n }={ cls:=.type "list",data:=.seq its'.toArray n' }) (r:Vals ys its') (hz:ys.length≤sizeLine) (t:Nat) :
  Inv X pins σ (upd H p (.lst ys)) { s with heap:=s.heap.update p f,toks:=t }:=by
 have e:(s.heap.update p f).get? p=some { cls:=.type "list",data:=.seq its'.toArray n' }:=by
  rw [Heap.get?_update_self f ho (by rw [hf] <;> rfl),hf]
 refine I.write (x:=p) (e:=p) (by rw [h];trivial) (.inl rfl) (fun b u hb q=>(Za8 _ _ (Za4 hb)).trans q) ⟨_,e⟩ ?_
 exact ⟨hz,its',n',r,e⟩
noncomputable def Ol:V->V->V->Hp->(Hp->Prop)->Prop:=fun o i v H Q=>∃ p xs k j,o=.ref p∧i=.int k∧H p=some (.lst xs)∧ixN xs.length k=some j∧Q (upd H p (.lst (xs.set j v)))
theorem set_list:Rw X Ol:=by
 intro pins s σ H o i v ov iv u Q I ro ri rv h
 obtain ⟨p,xs,k,j,rfl,rfl,hp,hj,q⟩:=h
 cases ro
 obtain ⟨t,rfl⟩:=ri
 obtain ⟨its,n,r,ho,hz⟩:=I.lst hp
 obtain ⟨h1,h2,h3,h4⟩:=Ew hj
 have hl:=r.length
 have hn:=vC
 have I':Inv X pins σ (upd H p (.lst (xs.set j v))) { s with heap:=s.heap.update p (Obj.mapSeq (·.setIfInBounds j u)) } :=
  I.PP hp ho (CK its n j u) (r.set rv j) (by rw [ZbF];exact hz) s.toks
 by_cases h0:0≤k
 ·have hk:k.toNat=j:=by
   rw [seqIndex_of h0 h4] at h1
   exact Zab h1
  exact PySem.W.ki_setAt ho h0 (by omega) (by rw [List.size_toArray,←hl];exact h4) (by rw [hk];exact ⟨_,I',q⟩)
 ·have hk:(k+(its.toArray.size:Int)).toNat=j:=by
   rw [seqIndex_neg (by omega) h3] at h1
   rw [List.size_toArray,←hl]
   exact Zab h1
  exact PySem.W.ki_setBack ho (by omega) (by rw [List.size_toArray,←hl];exact h3) (by omega) (by rw [hk];exact ⟨_,I',q⟩)
theorem yP (lo hi:Option Int) (n:Nat):(sliceBounds lo hi none n).1=((HT.sIx n 0 lo:Nat):Int)∧(sliceBounds lo hi none n).2.1=((HT.sIx n n hi:Nat):Int)∧(sliceBounds lo hi none n).2.2=1:=by
 refine ⟨?_,?_,rfl⟩
 ·cases lo with
  | none=>simp [sliceBounds,HT.sIx]
  | some i =>
   simp only [sliceBounds,HT.sIx,Option.getD_none,show (1:Int) > 0 by decide,if_true]
   by_cases h:i < 0
   ·simp only [h,if_true] <;> omega
   ·simp only [h,if_false] <;> omega
 ·cases hi with
  | none=>simp [sliceBounds,HT.sIx]
  | some i =>
   simp only [sliceBounds,HT.sIx,Option.getD_none,show (1:Int) > 0 by decide,if_true]
   by_cases h:i < 0
   ·simp only [h,if_true] <;> omega
   ·simp only [h,if_false] <;> omega
theorem xf (its:List Value) (lo hi:Option Int):slicePick its.toArray lo hi none=((its.drop (HT.sIx its.length 0 lo)).take (HT.sIx its.length its.length hi - HT.sIx its.length 0 lo)).toArray:=by
 obtain ⟨h1,h2,h3⟩:=yP lo hi its.toArray.size
 unfold slicePick
 rw [h1,h2,h3]
 simp only [sliceRange_one,pick_run,List.size_toArray] <;> rfl
noncomputable def RX (K:PySem.W.Frag):V->Option Int->Option Int->Hp->VK->Prop:=fun x lo hi H Q=>∃ a xs,x=.ref a∧SqL K H a xs∧∀ p,H p=none->Q (.ref p) (upd H p (.lst (GQ xs lo hi)))
theorem d7:SlR X (RX X.K):=by
 intro pins s σ H x v vl vu lo hi sl Q I rx hs pl pu h
 obtain ⟨a,xs,rfl,hx,q⟩:=h
 cases rx
 obtain ⟨its,r,ht,hz⟩:=I.list hx
 have hlen:=r.length
 refine ⟨"list",_,slot_list_getitem.lookup,ht.isList.typeIs,?_⟩
 refine wpAny_getItem_list_slice ht.isList hs pl pu .none (by simp) ?_ (by rw [List.size_toArray] <;> omega)
 rw [xf,←hlen]
 refine ⟨.ref s.heap.objs.size,_,I.laid (t':=s.toks) (o:=.lst (GQ xs lo hi)) (fun b ob q=>Zaa _ q) (Zaf _) ?_,rfl,q _ (I.hok.fresh (Zaf _))⟩
 exact ⟨Zad (Af xs lo hi) hz,_,0,(r.drop (HT.sIx xs.length 0 lo)).take (HT.sIx xs.length xs.length hi - HT.sIx xs.length 0 lo),Zam _ rfl⟩
noncomputable def Om:V->Bool
 | .non=>true
 | .bl _=>true
 | .int _=>true
 | .str _=>true
 | _=>false
noncomputable def eqV:V->V->Bool
 | .non,.non=>true
 | .bl a,.bl b=>a == b
 | .bl a,.int b=>(if a then 1 else 0) == b
 | .int a,.bl b=>a == (if b then 1 else 0)
 | .int a,.int b=>a == b
 | .str a,.str b=>a == b
 | _,_=>false
theorem jt.or {f:Value}{r r':List V->Hp->VK->Prop} (h:jt X f r) (h':jt X f r'):jt X f (fun xs H Q=>r xs H Q∨r' xs H Q):=by
 intro pins s σ H xs us Q I rs q
 rcases q with q | q
 ·exact h pins s σ H xs us Q I rs q
 ·exact h' pins s σ H xs us Q I rs q
theorem yQ:jt X (.type "list") (fun xs H Q=>∃ p ys,xs=[.ref p]∧(SqL X.K H p ys∨SqT X.K H p ys)∧∀ l,H l=none->Q (.ref l) (upd H l (.lst ys))):=by
 intro pins s σ H xs us Q I r h
 obtain ⟨p,ys,rfl,hq,q⟩:=h
 obtain ⟨u,rfl,rx⟩:=vals1 r
 cases rx
 have fin:∀ (its:List Value),Vals ys its->ys.length≤sizeLine->∀ (h':Heap) (c':Nat),(∀ b o',s.heap.get? b=some o'->h'.get? b=some o') ->
   h'.get? s.heap.objs.size=some { cls:=.type "list",dict:=none,data:=.seq its.toArray c',slots:=#[] }->EP X pins σ Q (.ref s.heap.objs.size) { s with heap:=h' }:=fun its r' hz h' c' kp e =>
  ⟨.ref s.heap.objs.size,_,I.laid (t':=s.toks) kp (Zaf _) (show dM X.prog X.w _ h' _ (.lst ys) from ⟨hz,its,c',r',e⟩),rfl,q _ (I.hok.fresh (Zaf _))⟩
 rcases hq with hq | hq
 ·obtain ⟨its,r',pl,hz⟩:=I.list hq
  have hlen:=r'.length
  obtain ⟨o,ho,hc,n,hd⟩:=pl.isList
  exact call_list_seq p (.inl rfl) ho hc hd (fun h' c' kp e=>fin its r' hz h' c' kp e) (by simp only [List.size_toArray] <;> omega)
 ·obtain ⟨its,r',pl,hz⟩:=I.tuple hq
  have hlen:=r'.length
  obtain ⟨o,ho,hc,n,hd⟩:=pl
  exact call_list_seq p (.inr rfl) ho hc hd (fun h' c' kp e=>fin its r' hz h' c' kp e) (by simp only [List.size_toArray] <;> omega)
theorem lu:jt X (.type "tuple") (fun xs H Q=>∃ p ys,xs=[.ref p]∧((SqL X.K H p ys∧∀ l,H l=none->Q (.ref l) (upd H l (.tup ys)))∨(SqT X.K H p ys∧Q (.ref p) H))):=by
 intro pins s σ H xs us Q I r h
 obtain ⟨p,ys,rfl,h⟩:=h
 obtain ⟨u,rfl,rx⟩:=vals1 r
 cases rx
 rcases h with ⟨hq,q⟩ | ⟨hq,q⟩
 ·obtain ⟨its,r',pl,hz⟩:=I.list hq
  have hlen:=r'.length
  refine call_tuple_list pl.isList (fun h' kp=>?_) (by simp only [List.size_toArray] <;> omega)
  have I1:Inv X pins σ H { s with heap:=h' }:=I.kept (t':=s.toks) kp
  have I2:Inv X pins σ (upd H h'.objs.size (.tup ys)) { s with heap:=h'.push { cls:=.type "tuple",data:=.seq its.toArray } } :=
   I1.laid (t':=s.toks) (fun b o e=>Zaa _ e) (Zaf _) (show dM X.prog X.w _ _ _ (.tup ys) from ⟨hz,its,r',gD.new _ _⟩)
  exact ⟨.ref h'.objs.size,_,I2,rfl,q _ (I1.hok.fresh (Zaf _))⟩
 ·obtain ⟨its,r',pl,hz⟩:=I.tuple hq
  exact call_tuple_same pl ⟨.ref p,H,I,rfl,q⟩
noncomputable def tyV (K:PySem.W.Frag) (T:String) (x:V) (H:Hp):Prop:=match x with
 | .str _=>T="str"
 | .int _=>T="int"
 | .ref p=>(T="list"∧∃ xs,SqL K H p xs)∨(T="tuple"∧∃ o,K.lookup p=some o∧o.cls=.type "tuple"∧o.dict=none) ∨
   (T="dict"∧((∃ kvs,H p=some (.dK kvs))∨∃ kvs,H p=some (.dT kvs)))∨(T="set"∧∃ S n,H p=some (.set S n))
 | _=>False
theorem PQ {pins:List (Addr×Obj)}{σ:St}{H:Hp}{s:Shared}{T:String}{x:V}{v:Value} (I:Inv X pins σ H s) (r:RelV x v) (ty:tyV X.K T x H) :
  s.TypeIs v T∧∀ a,v=.ref a->∃ ob,s.heap.get? a=some ob∧ob.dict=none:=by
 cases x with
 | str z =>
  obtain ⟨t,rfl⟩:=r
  cases (show T="str" from ty)
  exact ⟨typeIs_str s z t,fun _ e=>nomatch e⟩
 | int i =>
  obtain ⟨t,rfl⟩:=r
  cases (show T="int" from ty)
  exact ⟨typeIs_int s i t,fun _ e=>nomatch e⟩
 | ref p =>
  cases r
  rcases ty with ⟨rfl,xs,hq⟩ | ⟨rfl,o,hk,hc,hd⟩ | ⟨rfl,hk⟩ | ⟨rfl,S,n,hk⟩
  ·obtain ⟨its,_,pl,_⟩:=I.list hq
   refine ⟨pl.isList.typeIs,fun a e=>?_⟩
   cases e
   obtain ⟨o,n,e,c,hd,_⟩:=pl
   exact ⟨o,e,hd⟩
  ·refine ⟨⟨o,I.kIn p o hk,hc⟩,fun a e=>?_⟩
   cases e
   exact ⟨o,I.kIn _ o hk,hd⟩
  ·have z:∃ o,s.heap.get? p=some o∧o.ExactDict:=by
    rcases hk with ⟨kvs,hk⟩ | ⟨kvs,hk⟩
    ·obtain ⟨_,_,_,_,o,_,_,e,ex,_⟩:=I.hok p _ hk
     exact ⟨o,e,ex⟩
    ·obtain ⟨_,_,_,_,o,_,_,e,ex,_⟩:=I.hok p _ hk
     exact ⟨o,e,ex⟩
   obtain ⟨o,e,ex⟩:=z
   refine ⟨⟨o,e,ex.1⟩,fun a e2=>?_⟩
   cases e2
   exact ⟨o,e,ex.2.1⟩
  ·obtain ⟨o,_,_,_,e,ex,_⟩:=I.hok p _ hk
   refine ⟨⟨o,e,ex.1⟩,fun a e2=>?_⟩
   cases e2
   exact ⟨o,e,ex.2.1⟩
 | _=>exact False.elim ty
noncomputable def tBM (K:PySem.W.Frag) (T:String) (r:V->List V->Hp->VK->Prop) (to:TE) (t:TA):TE:=fun σ H Q=>to σ H fun x H1=>tyV K T x H1∧t σ H1 fun xs H2=>r x xs H2 Q
variable {o e:Expr}{es:List Expr}{to:TE}{t:TA}{name:Str}{apos cpos:Pos}{T id:String}{r:V->List V->Hp->VK->Prop}
theorem eQ (pa:PlainAttrs T) (slot:Slot T name id) (hty:typeOf (.builtin id)=pure (.type "method_descriptor")) (hm:MtR X id r) (ho:PE X o to) (ha:PA X (e::es) t)
  (hbase:attributeBase o name X.env (eval o X.env)=eval o X.env:=by rfl)
  (hfew:((backTo cpos (starEach (e::es) X.env)).all (fun x=>!x.1) && (backToKw cpos (keywordEach [] X.env)).all (fun x=>x.1.isSome)
   && decide ((e::es).length+([]:List Keyword).length+(if ([]:List Keyword).isEmpty then 0 else 1) < 30))=true:=by rfl)
  (hline:(apos.endLine == cpos.line)=true:=by rfl) (hs:starEach (e::es) X.env=(false,eval e X.env)::starEach es X.env:=by rfl) (hplain:(backTo cpos (starEach es X.env)).any (·.1)=false:=by rfl) :
  PE X (.Call (.Attribute o name apos) (e::es) [] cpos) (tBM X.K T r to t):=by
 intro pins s σ H Q I h
 refine wpAny_Call_method_late hbase hfew hline rfl (thn (ho pins s σ H _ I h) fun v s1 ⟨x,H1,I1,r1,ty,q1⟩=>?_)
 obtain ⟨h1,h2⟩:=PQ I1 r1 ty
 refine ⟨T,id,pa,slot,hty,h1,h2,?_⟩
 have hA:=ha cpos pins s1 σ H1 _ I1 q1
 rw [hs] at hA ⊢
 refine Calls.callWith_builtin (by show (false || (backTo cpos (starEach es X.env)).any (·.1))=false;rw [hplain] <;> rfl) (Calls.evalArgs_plain ?_)
 exact thn hA fun us s2 ⟨vs,H2,I2,r2,q2⟩=>hm pins s2 σ H2 x vs v us Q I2 r1 r2 q2
end
noncomputable def MtM (X:Cx) (id:String) (r:V->List V->Hp->VK->Prop):Prop :=
 ∀ (pins:List (Addr×Obj)) (s:Shared) (σ:St) (H:Hp) (x:V) (xs:List V) (v:Value) (us:List Value) (Q:VK),Inv X pins σ H s->RelV x v->Vals xs us->r x xs H Q ->
  wpAny (model X.prog X.w) X.A (call (.builtin id) (v::us)) (EP X pins σ Q) X.xe s
theorem Vals.one:∀ {x:V}{us:List Value},Vals [x] us->∃ u,us=[u]∧RelV x u
 | _,_,.cons r .nil=>⟨_,rfl,r⟩
theorem Vals.two:∀ {x y:V}{us:List Value},Vals [x,y] us->∃ u v,us=[u,v]∧RelV x u∧RelV y v
 | _,_,_,.cons r (.cons q .nil)=>⟨_,_,rfl,r,q⟩
theorem Vals.zero:∀ {us:List Value},Vals [] us->us=[]
 | _,.nil=>rfl
theorem Vals.reverse {xs:List V}{us:List Value} (h:Vals xs us):Vals xs.reverse us.reverse:=by
 induction h with
 | nil=>exact .nil
 | cons r t ih=>rw [List.reverse_cons,List.reverse_cons];exact Vals.append ih (.cons r .nil)
theorem Vals.rep {xs:List V}{us:List Value} (h:Vals xs us):∀ k:Nat,Vals (List.replicate k xs).flatten (List.replicate k us).flatten
 | 0=>.nil
 | k+1=>by
  rw [Zbi,Zbi,Zbt,Zbt]
  exact Vals.append h (Vals.rep h k)
section
variable {X:Cx}{pins:List (Addr×Obj)}{σ:St}{H:Hp}{s:Shared}{l b:Addr}{xs ys zs:List V}
theorem Inv.RZ {its its':List Value}{n:Nat}{f:Array Value->Array Value}{t':Nat} (I:Inv X pins σ H s) (hH:H l=some (.lst xs))
  (e:s.heap.get? l=some { cls:=.type "list",data:=.seq its.toArray n }) (hf:f its.toArray=its'.toArray) (hv:Vals ys its') (hz:ys.length≤sizeLine) :
  Inv X pins σ (upd H l (.lst ys)) { s with heap:=s.heap.update l (Obj.mapSeq f),toks:=t' }:=by
 have q:=PySem.IsL.update e f
 rw [hf] at q
 refine I.write (x:=l) (e:=l) (by rw [hH];exact trivial) (.inl rfl) (fun b' u hb hu=>(Za8 s.heap (Obj.mapSeq f) (Za4 hb)).trans hu) ⟨_,q⟩ ?_
 exact ⟨hz,its',_,hv,q⟩
theorem Inv.R0 {its:List Value}{t':Nat} (I:Inv X pins σ H s) (hv:Vals ys its) (hz:ys.length≤sizeLine) :
  Inv X pins σ (upd H s.heap.objs.size (.lst ys)) { s with heap:=s.heap.push { cls:=.type "list",data:=.seq its.toArray },toks:=t' } :=
 I.laid (fun _ _ q=>Zaa _ q) (Zaf _) ⟨hz,its,0,hv,Zam _ rfl⟩
theorem Inv.fresh (I:Inv X pins σ H s):H s.heap.objs.size=none:=I.hok.fresh (Zaf _)
theorem Inv.R4 (I:Inv X pins σ H s) (hH:H l=some (.lst xs)):xs.length≤sizeLine∧∃ (its:List Value) (n:Nat),Vals xs its∧xs.length=its.length∧s.heap.get? l=some { cls:=.type "list",data:=.seq its.toArray n }:=by
 obtain ⟨z,its,n,r,e⟩:=I.hok l _ hH
 exact ⟨z,its,n,r,r.length,e⟩
end
section
variable {X:Cx}
noncomputable def Ex:V->List V->Hp->VK->Prop:=fun x vs H Q=>∃ l xs y,x=.ref l∧vs=[y]∧H l=some (.lst xs)∧xs.length < sizeLine∧Q .non (upd H l (.lst (xs++[y])))
theorem cX:MtM X "list.append" Ex:=by
 intro pins s σ H x vs v us Q I rx rv h
 obtain ⟨l,xs,y,rfl,rfl,hH,hz,q⟩:=h
 cases rx
 obtain ⟨u,rfl,ru⟩:=rv.one
 obtain ⟨z,its,n,r,hl,e⟩:=I.R4 hH
 refine call_meets F.slot_list_append ⟨_,e,rfl⟩ F.entry_list_append (F.args_list_append_2 _ _) (PySem.list_append l its.toArray n u (by rw [List.size_toArray];omega)) ⟨e,?_⟩
 refine ⟨.non,_,I.RZ (its':=its++[u]) hH e (by simp) (r.append (.cons ru .nil)) ?_,rfl,q⟩
 rw [List.length_append,List.length_singleton]
 omega
end
section
variable {prog:Program}{w:World}{A:Around}{E:Value->Shared->Prop}{s:Shared}
end
section
variable {X:Cx}
end
end L2
namespace Att
open PySem PySem.W PySem.Calls PyProof.Rows
theorem uR {P:Params}{h:Heap}:∀ (ns:List Int) (vs:List Value),WellAll P h vs (ns.map WData.int)->IntsAre vs ns:=by
 intro ns
 induction ns with
 | nil =>
  intro vs w
  rw [List.map_nil] at w
  cases w
  exact .nil
 | cons n ns ih =>
  intro vs w
  rw [Zah] at w
  cases w with
  | cons a b =>
   cases a
   exact .cons _ _ (ih _ b)
theorem GR {l:OpenLaw}{n:Nat} (hn:l.most=some n) {P:Params}{h:Heap}{args:List WData}{vals:List Value}
  (hpre:l.row.toRowW.claim.pre args=true) (hwl:WellAll P h vals args) :
  ∃ a vs ns,vals=[Value.ref a]∧args=[WData.list (ns.map WData.int)]∧h.get? a=some { cls:=.type "list",data:=.seq vs.toArray }∧IntsAre vs ns∧ns.length≤n:=by
 have hsh:WShape.hasAll [] args [.list .int]=true:=(pre_splitW hpre).1
 have hc:l.pre.holds [] { args:=args }=true:=(pre_splitW hpre).2
 obtain ⟨d,r,rfl,h1,h2⟩:=hasAllW_cons hsh
 obtain rfl:=hasAllW_nil h2
 obtain ⟨xs,rfl,h3⟩:=hasW_list h1
 obtain ⟨ns,rfl⟩:=items_int h3
 have hlen:ns.length≤n:=by
  unfold OpenLaw.pre at hc
  have h4:(WTm.not (.lt (.lit (.int (n:Int))) (.len (.arg 0)))).holds [] { args:=[.list (ns.map .int)] }=true:=by
   have h4:=(holds_andW hc).1
   rw [hn] at h4
   exact h4
  have h5:=condW_of h4 (w_not (w_lt w_lit (w_len_list (w_arg rfl))))
  rw [List.length_map] at h5
  refine Nat.le_of_not_lt fun q=>?_
  have q':(n:Int) < ((ns.length:Nat):Int):=by omega
  first
   | (rw [decide_eq_true q'] at h5;exact absurd h5 (by decide))
   | (simp at h5;omega)
 cases hwl with
 | cons w1 w2 =>
  cases w2
  cases w1 with
  | list ho hall=>exact ⟨_,_,ns,rfl,rfl,ho,uR ns _ hall,hlen⟩
theorem GX (l:OpenLaw) (args:List WData):l.row.toRowW.claim.post args (.bool true) args=true :=
 postW_of (r:=l.row.toRowW) (X:=(true == true))
  (show WShape.has [] (.bool true) .bool=true by first | rfl | decide | simp [WShape.has,WShape.arms,WShape.armsAll])
  (show (WTm.eq .res (.lit (.bool true))).value [] { args:=args,res:=some (.bool true),after:=args }=some (.bool (true == true)) from w_eq_bool (w_res rfl) w_lit) rfl
theorem Ag {l:OpenLaw}{n:Nat}{q:Program}{loose:List Str}{XP:(Str->Option Value)->Heap->Prop}{YP:World->Heap->Prop}{d:DefRec}
  (hn:l.most=some n) (hdf:d.params.defaults=[])
  (call:∀ (w:World) (s₀ s₁:Shared) (mg mb:Str->Option Value) (fa:Addr) (o:Obj) (pm cd doc:Value) (a:Addr) (vs:List Value) (ns:List Int),
   Ground q loose [] XP w s₀ mg mb s₁.heap->YP w s₁.heap ->
   s₁.heap.get? fa=some o->o.data=.func (docDef d.name d.params d.body d.scope pm cd doc)->s₁.heap.CodeRec cd d.name->mg d.name=some (.ref fa) ->
   s₁.heap.get? a=some { cls:=.type "list",data:=.seq vs.toArray }->IntsAre vs ns->ns.length≤n->s₁.gens=#[] ->
   codeAny (model l.prog w) callerA (.call (.ref fa) ⟨[.ref a],[]⟩) (fun r s'=>r=.ok (.ret (.bool true))∧OldK s₁.heap s'.heap∧s'.os=s₁.os∧AllBare s'.gens) s₁) :
  WalkO q loose XP YP l.row.toRowW d [] (fun f vs=>PySem.call f vs):=by
 intro w s₀ s₁ mg mb G Y fa o pm cd doc dV kV ho hd hcd hD hmg hg args vals as hpre hlay hrd hwl hlo
 obtain rfl:dV=.none:=Dflts.none hD hdf
 obtain rfl:kV=.none:=Dflts.noKw hD
 obtain ⟨a,vs,ns,rfl,rfl,hobj,hints,hlen⟩:=GR hn hpre hwl
 refine enter_call (codeAny_mono (call w s₀ s₁ mg mb fa o pm cd doc a vs ns G Y ho (fd_plain hd) hcd hmg hobj hints hlen hg) fun r s' hq=>?_)
 obtain ⟨rfl,h2,h3,h4⟩:=hq
 exact ⟨.inl ⟨.bool true,.bool true,[],rfl,fun _=>rfl,.bool true,GX l _,fun _=>⟨List.Pairwise.nil,fun _ hm=>(nomatch hm)⟩⟩,h2,h3,h4⟩
section
variable {prog:Program}{w:World}{A:Around}{E:Value->Shared->Prop}{s:Shared}{K:Frag}
end
end Att
namespace L2
open PySem PySem.Spec PyProof.Rows
theorem ue:∀ {vs:List Value}{ns:List Int},IntsAre vs ns->Vals (ns.map V.int) vs
 | _,_,.nil=>.nil
 | _,_,.cons n t h=>.cons ⟨t,rfl⟩ (ue h)
noncomputable def Only (H:Hp):Prop:=∀ b,H b=none∨∃ o xs,H b=some (.frz o (.lst xs))
theorem Jh {P:Program}{w:World}{K:PySem.W.Frag}{mg mb:Str->Option Value}{CX:CXT}{k:Nat}{fa a:Addr}{fd:FuncData}{x:Str}{sp:Sp}{s₁:Shared}{vs:List Value}{ns:List Int}
  (KX:K.In s₁.heap) (hns:s₁.heap.Ns mainGlobals mg) (hb:s₁.heap.Ns builtinsNs mb) (hbb:∀ x:Str,x≠"__name__"->mb x=bootBuiltins x) (hlim:s₁.heap.NoLimit) (hg:s₁.gens=#[])
  (ha:s₁.heap.get? a=some { cls:=.type "list",data:=.seq vs.toArray }) (hi:IntsAre vs ns) (hl:ns.length≤sizeLine) (hr:eX k callerA)
  (F:∀ base:Heap,K.In base->base.Ns mainGlobals mg->lr P w K mg base CX k fa fd [x] sp) (hbind:∀ (s:Shared) (u:Value),BindsTo s fd ⟨[u],[]⟩ [(x,u)])
  (hsp:∀ H:Hp,Only H->SqL K H a (ns.map V.int)->sp [.ref a] H (fun v _=>v=.bl true) fun _ _ _=>False)
  (hCX:∀ H e s',CX [] H s₁ (fun _ _ _=>False) e s'->False) :
  codeAny (model P w) callerA (.call (.ref fa) ⟨[.ref a],[]⟩) (fun r s'=>r=.ok (.ret (.bool true))∧OldK s₁.heap s'.heap∧s'.os=s₁.os∧AllBare s'.gens) s₁:=by
 have rv:=ue hi
 have lenV:=hi.length
 have core:∀ H:Hp,Only H->SqL K H a (ns.map V.int)->HOk P w H s₁.heap->(∀ b,H b≠none->b=a)->(H a≠none->K.lookup a=none) ->
   codeAny (model P w) callerA (.call (.ref fa) ⟨[.ref a],[]⟩) (fun r s'=>r=.ok (.ret (.bool true))∧OldK s₁.heap s'.heap∧s'.os=s₁.os∧AllBare s'.gens) s₁:=by
  intro H hO hS hok hA hK
  have base_of:∀ {b:Addr}{o:Obj},s₁.heap.get? b=some o->H b=none->(yF s₁.heap H).get? b=some o:=fun e n=>Jd e n
  have noA:∀ {b:Addr}{o:Obj}{es:Array DictEntry}{ep:Nat},s₁.heap.get? b=some o->o.data=.dict es ep->H b=none:=fun {b o es ep} e d=>by
   cases q:H b with
   | none=>rfl
   | some u =>
    have e':b=a:=hA b (by rw [q];simp)
    subst e'
    rw [ha] at e;cases e
    have d':Data.seq vs.toArray _=Data.dict es ep:=d
    cases d'
  have nsK:∀ {b:Addr}{m:Str->Option Value},s₁.heap.Ns b m->(yF s₁.heap H).Ns b m:=fun {b m} ⟨o,es,ep,e,d,r⟩=>⟨o,es,ep,base_of e (noA e d),d,r⟩
  have hKb:K.In (yF s₁.heap H):=fun b o e=>base_of (KX b o e) (by
   cases q:H b with
   | none=>rfl
   | some u =>
    have e':b=a:=hA b (by rw [q];simp)
    subst e'
    rw [hK (by rw [q];simp)] at e;cases e)
  have hM:Mod K mg (yF s₁.heap H):=⟨hKb,nsK hns,⟨mb,nsK hb,hbb⟩,let ⟨mc,h1,h2⟩:=hlim;⟨mc,nsK h1,h2⟩⟩
  have e0:w6 P w K mg (yF s₁.heap H) callerA [] s₁ H:=⟨rfl,hM,fun b o e=>Lh e,Nat.le_of_eq (Gy _ _),trivial,fun b hb=>absurd (show b∈([]:List Addr) from hb) (by simp),hok,.of_eq hg⟩
  refine codeAny_mono ((F _ hKb (nsK hns)).run callerA [] s₁ H ⟨[.ref a],[]⟩ [.ref a] [.ref a] _ _ hr e0 (hbind s₁ (.ref a)) (.cons rfl .nil) (hsp H hO hS)) fun r s' h=>?_
  cases r with
  | error e=>exact (hCX H e s' h).elim
  | ok fl =>
   cases fl with
   | next=>exact False.elim h
   | brk=>exact False.elim h
   | cont=>exact False.elim h
   | ret u =>
    obtain ⟨v,H',os,bare,un,hok',r',q⟩:=h
    have q':v=.bl true:=q
    subst q'
    obtain rfl:u=Value.bool true:=r'
    refine ⟨rfl,OldK.of_keep fun b o e=>?_,os,bare⟩
    cases q:H b with
    | none=>exact un.keep b o e q (by intro z;exact absurd (show b∈([]:List Addr) from z) (by simp)) (by simp)
    | some u =>
     rcases hO b with z | ⟨ob,xs,z⟩
     ·rw [q] at z;cases z
     ·have z2:=un.frzs b ob _ z
      obtain ⟨e1,_⟩:=hok b _ z
      obtain ⟨e2,_⟩:=hok' b _ z2
      rw [e] at e1;cases e1
      exact e2
 cases hk:K.lookup a with
 | some o =>
  have e:=KX a o hk
  rw [ha] at e
  cases e
  refine core (fun _=>none) (fun _=>.inl rfl) (.inr ⟨_,vs.toArray,_,hk,rfl,rfl,rfl,by rw [List.size_toArray,lenV];exact hl,by simpa using rv⟩) (fun b u z=>by have z':(none:Option HO)=some u:=z;cases z') (fun b z=>absurd rfl z) fun z=>absurd rfl z
 | none =>
  refine core (fun b=>if b=a then some (.frz { cls:=.type "list",data:=.seq vs.toArray } (.lst (ns.map V.int))) else none) (fun b=>?_) (.inl (.inr ⟨{ cls:=.type "list",data:=.seq vs.toArray },if_pos rfl⟩)) (fun b u z=>?_) (fun b z=>?_) fun _=>hk
  ·by_cases hb:b=a
   ·exact .inr ⟨_,_,if_pos hb⟩
   ·exact .inl (if_neg hb)
  ·by_cases hb:b=a
   ·have z':=(if_pos hb).symm.trans z
    cases z'
    subst hb
    exact ⟨ha,by rw [List.length_map];exact hl,vs,_,rv,ha⟩
   ·have z':=(if_neg hb).symm.trans z
    cases z'
  ·by_cases hb:b=a
   ·exact hb
   ·exact absurd (if_neg hb) z
theorem Lx {l:PySem.W.OpenLaw}{n k:Nat}{q:Program}{loose:List Str}{XP:(Str->Option Value)->Heap->Prop}{YP:World->Heap->Prop}{d:DefRec}{K:Params->PySem.W.Frag}{CX:World->CXT}{sp:World->Sp}{x:Str}
  (hn:l.most=some n) (hn2:n≤sizeLine) (hdf:d.params.defaults=[]) (hr:eX k callerA)
  (hY:∀ (w:World) (h:Heap),YP w h->(K w.params).In h)
  (F:∀ (w:World) (mg:Str->Option Value) (fa:Addr) (h:Heap),(K w.params).In h->h.Ns mainGlobals mg->mg d.name=some (.ref fa) ->
   ∃ fd:FuncData,(∀ (s:Shared) (u:Value),BindsTo s fd ⟨[u],[]⟩ [(x,u)]) ∧
    ∀ base:Heap,(K w.params).In base->base.Ns mainGlobals mg->lr l.prog w (K w.params) mg base (CX w) k fa fd [x] (sp w))
  (hsp:∀ (w:World) (H:Hp) (a:Addr) (ns:List Int),ns.length≤n->Only H->SqL (K w.params) H a (ns.map V.int)->sp w [.ref a] H (fun v _=>v=.bl true) fun _ _ _=>False)
  (hCX:∀ (w:World) (H:Hp) (s:Shared) (e:Value) (s':Shared),CX w [] H s (fun _ _ _=>False) e s'->False) :
  PySem.W.WalkO q loose XP YP l.row.toRowW d [] (fun f vs=>PySem.call f vs):=by
 refine Att.Ag hn hdf fun w s₀ s₁ mg mb fa o pm cd doc a vs ns G Y ho hd hcd hmg hobj hints hlen hg=>?_
 have KX:=hY w _ Y
 obtain ⟨fd,hb,hF⟩:=F w mg fa _ KX G.T.g hmg
 exact Jh KX G.T.g G.T.b G.T.builtins G.T.nolimit hg hobj hints (Zad hlen hn2) hr hF hb (fun H hO hS=>hsp w H a ns hlen hO hS) fun H e s'=>hCX w H s₁ e s'
noncomputable def inClass (s:Stmt) (j:Nat):Stmt:=match s with
 | .ClassDef _ _ _ body _ _ _ _ _ _ _=>body.getD j (.Pass ⟨0,0,0,0⟩)
 | _=>.Pass ⟨0,0,0,0⟩
noncomputable def b7 (s:Stmt):Arguments:=match s with
 | .FunctionDef _ a _ _ _ _ _ _ _ _=>a
 | _=>{ posonlyargs:=[],args:=[],vararg:=none,kwonlyargs:=[],kw_defaults:=[],kwarg:=none,defaults:=[] }
noncomputable def bQ (s:Stmt):List Stmt:=match s with
 | .FunctionDef _ _ b _ _ _ _ _ _ _=>b
 | _=>[]
noncomputable def aL (s:Stmt):Scope:=match s with
 | .FunctionDef _ _ _ _ _ _ sc _ _ _=>sc
 | _=>{ kind:=.function,names:=[],isGenerator:=false,isCoroutine:=false }
noncomputable abbrev CX0:CXT:=fun _ _ _ _ _ _=>False
noncomputable abbrev E0:XK:=fun _ _ _=>False
theorem R5 {X:Cx}:uc CX0 X E0:=fun _ _ _ _ _ _ _ h=>h.elim
structure Fun (K:PySem.W.Frag) (x qual:Str) (st:Stmt) (f:Addr) (fd:FuncData):Prop where
 ex:∃ (oc:Value) (od:Option Addr) (kV doc pm:Value) (an:Option Addr) (cdv ct:Value) (osl:Array (Option Value)),
  fd=PySem.W.fnOf x qual (b7 st) (bQ st) (aL st) .none kV doc pm an cdv ct∧K.lookup f=some ⟨oc,od,.func fd,osl⟩∧PySem.W.codeIn K cdv qual=true
 kp:PySem.W.keepIn K (.ref f)=true
section
variable {P:Program}{w:World}{K:PySem.W.Frag}{mg:Str->Option Value}{base:Heap}
theorem Fun.ok {x qual:Str}{st:Stmt}{f:Addr}{fd:FuncData}{N ps:List Str}{k:Nat}{sp:Sp} (F:Fun K x qual st f fd) (S:bZ N ps (aL st)) (len:∀ vs H Q E,sp vs H Q E->vs.length=ps.length)
  (hbody:∀ (cdv:Value) (A:Around) (outer:List Env) (s:Shared) (H:Hp) (vs:List V) (Q:VK) (E:XK),eX k (A.deeper (envOfC qual (aL st) s.heap.objs.size f cdv))->sp vs H Q E ->
   ∃ t,PSs (ud CX0 P w K mg base N qual (aL st) f cdv A outer s H E).nox (bQ st) t∧t { nx:=fun _ H'=>Q .non H',rt:=Q } (start N vs) H):lr P w K mg base CX0 (k+1) f fd ps sp:=by
 obtain ⟨oc,od,kV,doc,pm,an,cdv,ct,osl,rfl,lk,hcd⟩:=F.ex
 refine Oh lk hcd S len fun A outer s H vs Q E hr hsp=>?_
 obtain ⟨t,h,q⟩:=hbody cdv A outer s H vs Q E hr hsp
 exact ⟨t,h.nox,q⟩
theorem Fun.binds {x qual:Str}{st:Stmt}{f:Addr}{fd:FuncData}{ps:List Str} (F:Fun K x qual st f fd)
  (h:∀ (kV doc pm:Value) (an:Option Addr) (cdv ct:Value) (us:List Value),us.length=ps.length->bindArgs (PySem.W.fnOf x qual (b7 st) (bQ st) (aL st) .none kV doc pm an cdv ct) ⟨us,[]⟩=pure (ps.zip us)):Binds K fd ps []:=by
 obtain ⟨oc,od,kV,doc,pm,an,cdv,ct,osl,rfl,lk,hcd⟩:=F.ex
 exact .all (h kV doc pm an cdv ct)
theorem dD {x qual:Str}{st:Stmt}{f:Addr}{oc:Value}{od an:Option Addr}{osl:Array (Option Value)}{kV doc pm cdv ct:Value} (l:K.lookup f=some ⟨oc,od,.func (PySem.W.fnOf x qual (b7 st) (bQ st) (aL st) .none kV doc pm an cdv ct),osl⟩)
  (c:PySem.W.codeIn K cdv qual=true) (k:PySem.W.keepIn K (.ref f)=true):Fun K x qual st f (PySem.W.fnOf x qual (b7 st) (bQ st) (aL st) .none kV doc pm an cdv ct):=⟨⟨oc,od,kV,doc,pm,an,cdv,ct,osl,rfl,l,c⟩,k⟩
end
theorem dg {n:Nat} (h:n≤1000):n < sizeLine:=Nat.lt_of_le_of_lt h (by decide)
section
variable {X:Cx}
theorem pv (i:Nat) {x:Str}{pos:Pos} (hN:X.N[i]?=some x:=by rfl) (hv:Vis X.env.scope x:=by first | exact Or.inl rfl | exact Or.inr (Or.inl rfl) | exact Or.inr (Or.inr rfl)) (hd:(x == ("__debug__":Str))=false:=by decide)
  (hcd:(x == ("__classdict__":Str))=false:=by decide):PE X (.Name x pos) (qU i):=Cr hN hv hd hcd
end
theorem dG {c A B:Prop} [Decidable c] (h1:c->A) (h2:¬c->B):if c then A else B:=by
 by_cases h:c
 ·rw [if_pos h]
  exact h1 h
 ·rw [if_neg h]
  exact h2 h
noncomputable def bh (H H':Hp):Prop:=∀ b o,H b=some o->H' b=some o
theorem bh.refl (H:Hp):bh H H:=fun _ _ h=>h
theorem bh.trans {H H1 H2:Hp} (a:bh H H1) (b:bh H1 H2):bh H H2:=fun c o h=>b c o (a c o h)
theorem bh.free {H H':Hp} (e:bh H H') {l:Addr} (h:H' l=Option.none):H l=Option.none:=by
 cases q:H l with
 | none=>rfl
 | some o =>
  rw [e l o q] at h
  cases h
theorem bh.seq {K:PySem.W.Frag}{H H':Hp}{a:Addr}{xs:List V} (e:bh H H') (h:SqL K H a xs):SqL K H' a xs:=by
 rcases h with (h | ⟨o,h⟩) | h
 ·exact .inl (.inl (e _ _ h))
 ·exact .inl (.inr ⟨o,e _ _ h⟩)
 ·exact .inr h
end L2
set_option maxHeartbeats 4000000
namespace Mth
noncomputable def num:List Bool->Nat
 | []=>0
 | b::r=>b.toNat+2 * num r
noncomputable def sub (l m:List Bool):Bool:=(List.range l.length).all fun i=>!l.getD i false || m.getD i false
theorem uX:∀ {l m:List Bool},l.length=m.length->num l=num m->l=m
 | [],[],_,_=>rfl
 | [],_::_,h,_=>by simp at h
 | _::_,[],h,_=>by simp at h
 | a::l,b::m,h,e=>by
  have e':a.toNat+2 * num l=b.toNat+2 * num m:=e
  have hh:a=b∧num l=num m:=by cases a <;> cases b <;> simp at e' ⊢ <;> omega
  rw [hh.1,uX (by simpa using h) hh.2]
noncomputable def pl (W:Nat) (c:Int×Int):Nat:=c.2.toNat * W+c.1.toNat
noncomputable def cellOf (W:Nat) (i:Nat):Int×Int:=(((i % W:Nat):Int),((i / W:Nat):Int))
structure InR (W H:Nat) (c:Int×Int):Prop where
 c0:0≤c.1
 c1:c.1 < W
 r0:0≤c.2
 r1:c.2 < H
end Mth
namespace L2
open PySem PySem.Spec PyProof.Rows
theorem qX {env:Env}:∀ (names:List (Str×NameKind)) (cs:List (Str×Addr)),(∀ x∈names,x.2=.free->∃ c,env.cells.lookup x.1=some c) ->
  (∀ x c,cs.lookup x=some c->env.cells.lookup x=some c) ->
  ∃ cl,(forIn names cs fun x s=>if (x.snd == NameKind.free)=true then do let d ←cellOf env x.fst;pure (ForInStep.yield ((x.fst,d)::s)) else pure (ForInStep.yield s):Sem _)=pure cl ∧
   (∀ x c,cl.lookup x=some c->env.cells.lookup x=some c)∧(∀ x c,cs.lookup x=some c->cl.lookup x=some c)∧∀ x,(x,NameKind.free)∈names->∃ c,cl.lookup x=some c
 | [],cs,_,h2=>⟨cs,rfl,h2,fun _ _ e=>e,fun _ h=>nomatch h⟩
 | (n,k)::r,cs,h1,h2=>by
  rw [List.forIn_cons]
  by_cases hk:k=.free
  ·subst hk
   obtain ⟨c,hc⟩:=h1 (n,.free) List.mem_cons_self rfl
   have ec:cellOf env n=pure c:=by unfold cellOf;simp only [hc]
   obtain ⟨cl,e,p1,p2,p3⟩:=qX r ((n,c)::cs) (fun x hx=>h1 x (List.mem_cons_of_mem _ hx)) (fun x d e=>by
    rw [List.lookup_cons] at e
    by_cases hx:x=n
    ·subst hx;simp at e;subst e;exact hc
    ·have hb:(x == n)=false:=beq_eq_false_iff_ne.mpr hx
     rw [hb] at e;exact h2 x d e)
   refine ⟨cl,?_,p1,fun x d e'=>?_,fun x hx=>?_⟩
   ·simp only [beq_self_eq_true,if_true,ec]
    exact e
   ·by_cases hx:x=n
    ·subst hx
     have:=h2 _ _ e'
     rw [hc] at this;cases this
     exact p2 x c (by simp)
    ·have hb:(x == n)=false:=beq_eq_false_iff_ne.mpr hx
     exact p2 x d (by rw [List.lookup_cons,hb];exact e')
   ·rcases Zao.mp hx with e | hx
    ·cases e;exact ⟨c,p2 n c (by simp)⟩
    ·exact p3 x hx
  ·obtain ⟨cl,e,p1,p2,p3⟩:=qX r cs (fun x hx=>h1 x (List.mem_cons_of_mem _ hx)) h2
   have hb:(k == NameKind.free)=false:=by simpa using hk
   refine ⟨cl,?_,p1,p2,fun x hx=>?_⟩
   ·simp only [hb,ZbE,if_false]
    exact e
   ·rcases Zao.mp hx with e | hx
    ·cases e;exact absurd rfl hk
    ·exact p3 x hx
theorem CN {scope:Scope}{env:Env} (h:∀ x∈scope.names,x.2=.free->∃ c,env.cells.lookup x.1=some c):∃ cl,closureFor scope env=pure cl ∧
  (∀ x c,cl.lookup x=some c->env.cells.lookup x=some c)∧∀ x,(x,NameKind.free)∈scope.names->∃ c,cl.lookup x=some c:=by
 obtain ⟨cl,e,p1,_,p3⟩:=qX scope.names [] h (fun _ _ e=>nomatch e)
 refine ⟨cl,?_,p1,p3⟩
 simp only [closureFor]
 rw [e]
 rfl
noncomputable abbrev oA (env:Env) (x:Str×NameKind):Str×NameKind:=if (x.2 == NameKind.free && env.scope.kind == .function && env.kindOf x.1 == some .cell)=true then (x.1,NameKind.cell) else x
theorem GZ (env:Env) (x:Str×NameKind):(oA env x).1=x.1:=by unfold oA;split <;> rfl
theorem su {env:Env}:∀ (names:List (Str×NameKind)) (x:Str),(names.map (oA env)).lookup x=(names.lookup x).map fun k=>(oA env (x,k)).2
 | [],x=>rfl
 | (n,k)::r,x=>by
  rw [Zah]
  have e1:oA env (n,k)=(n,(oA env (n,k)).2):=by
   have:=GZ env (n,k)
   cases h:oA env (n,k) with
   | mk a b=>rw [h] at this;cases this;rfl
  rw [e1,List.lookup_cons,List.lookup_cons,su r x]
  by_cases hx:x=n
  ·subst hx;simp
  ·have hb:(x == n)=false:=beq_eq_false_iff_ne.mpr hx
   rw [hb]
theorem xg (scope:Scope) (env:Env):(relabel scope env).names=scope.names.map (oA env):=by
 unfold relabel
 show List.map _ _=_
 refine List.map_congr_left fun x _=>?_
 obtain ⟨n,k⟩:=x
 rfl
theorem jG (scope:Scope) (env:Env) (x:Str):(relabel scope env).names.lookup x=(scope.names.lookup x).map fun k=>(oA env (x,k)).2:=by
 rw [xg,su]
theorem jx {scope:Scope}{env:Env}{x:Str}{k:NameKind} (hk:k≠.free) (h:scope.names.lookup x=some k):(relabel scope env).names.lookup x=some k:=by
 rw [jG,h]
 simp [oA,hk]
theorem sy {scope:Scope}{env:Env}{x:Str} (h:scope.names.lookup x=some .free):(relabel scope env).names.lookup x=some .cell∨(relabel scope env).names.lookup x=some .free:=by
 rw [jG,h]
 simp only [Option.map_some,oA]
 split
 ·exact .inl rfl
 ·exact .inr rfl
theorem CP {scope:Scope}{env:Env}{x:Str} (h0:scope.names.lookup x≠some .cell) (h:(relabel scope env).names.lookup x=some .cell∨(relabel scope env).names.lookup x=some .free):scope.names.lookup x=some .free:=by
 rw [jG] at h
 cases e:scope.names.lookup x with
 | none=>rw [e] at h;simp at h
 | some k =>
  by_cases hk:k=.free
  ·rw [hk]
  ·rw [e] at h
   simp [oA,hk] at h
   subst h
   exact absurd e h0
theorem lookup_mem {β:Type}:∀ {l:List (Str×β)}{x:Str}{v:β},l.lookup x=some v->(x,v)∈l
 | [],_,_,h=>nomatch h
 | (n,k)::r,x,v,h=>by
  rw [List.lookup_cons] at h
  by_cases hx:x=n
  ·subst hx;simp at h;subst h;exact List.mem_cons_self
  ·have hb:(x == n)=false:=beq_eq_false_iff_ne.mpr hx
   rw [hb] at h
   exact List.mem_cons_of_mem _ (lookup_mem h)
noncomputable abbrev Cx.comp (X:Cx) (N:List Str) (scope:Scope) (cl:List (Str×Addr)) (C:Addr) (s2:Shared) (H2:Hp) (fp:List Addr):Cx where
 prog:=X.prog
 w:=X.w
 K:=X.K
 mg:=X.mg
 base:=X.base
 A:=X.A
 N:=N
 s₀:=s2
 H₀:=H2
 env:=compEnvC scope cl C X.env
 outer:=X.stack
 stack:=X.stack
 ex:=fp
 fn:=fun _=>false
 calm:=X.calm
 pn:=[]
 xe:=fun _ _=>False
noncomputable def vG (XN N:List Str) (xs scope:Scope) (fr:List (Option Nat)):Bool :=
 decide (fr.length=N.length) && (scope.kind == .function) && (scope.names.all fun x=>!(x.2 == .cell)) && (scope.names.all fun x=>!(x.2 == .local) || scope.names.lookup x.1 == some .local) &&
 (scope.names.all fun x=>!(x.2 == .free) || (xs.names.lookup x.1 == some .cell || xs.names.lookup x.1 == some .free)) &&
 (List.range N.length).all fun j=>match fr[j]?,N[j]? with
  | some (some i),some x=>decide (XN[i]?=some x) && (scope.names.lookup x == some .free)
  | _,_=>true
theorem Ah {XN N:List Str}{xs scope:Scope}{fr:List (Option Nat)} (h:vG XN N xs scope fr=true) :
  fr.length=N.length∧scope.kind=.function∧(∀ x∈scope.names,x.2≠.cell)∧(∀ x∈scope.names,x.2=.local->scope.names.lookup x.1=some .local) ∧
  (∀ x∈scope.names,x.2=.free->xs.names.lookup x.1=some .cell∨xs.names.lookup x.1=some .free) ∧
  ∀ (j i:Nat) (x:Str),fr[j]?=some (some i)->N[j]?=some x->XN[i]?=some x∧scope.names.lookup x=some .free:=by
 unfold vG at h
 simp only [Zbl,decide_eq_true_eq,ZaX] at h
 obtain ⟨⟨⟨⟨⟨h1,h2⟩,h3⟩,h4⟩,h5⟩,h6⟩:=h
 refine ⟨h1,by simpa using h2,fun x hx=>by simpa using h3 x hx,fun x hx e=>?_,fun x hx e=>?_,fun j i x e1 e2=>?_⟩
 ·have:=h4 x hx
  simp [e] at this
  exact this
 ·have:=h5 x hx
  simp [e] at this
  exact this
 ·have hj:j < N.length:=(Zap.mp e2).1
  have:=h6 j (Zbh.mpr hj)
  rw [e1,e2] at this
  simpa using this
noncomputable def frσ (fr:List (Option Nat)) (σ:St):St:=fr.map fun o=>match o with
 | some i=>match σ[i]? with
  | some v=>v
  | none=>none
 | none=>none
theorem Ly {fr:List (Option Nat)}{σ:St}{j:Nat}{v:V} (h:(frσ fr σ)[j]?=some (some v)):∃ i,fr[j]?=some (some i)∧σ[i]?=some (some v):=by
 unfold frσ at h
 rw [Zag] at h
 cases e:fr[j]? with
 | none=>rw [e] at h;cases h
 | some o =>
  rw [e] at h
  cases o with
  | none=>cases h
  | some i =>
   simp only [Option.map_some] at h
   cases e2:σ[i]? with
   | none=>rw [e2] at h;cases h
   | some w=>rw [e2] at h;exact ⟨i,rfl,by simpa [e2] using h⟩
noncomputable def Lz (X:Cx) (ifs:List Expr) (t:TT):Prop :=
 ∀ (pins:List (Addr×Obj)) (s:Shared) (σ:St) (H:Hp) (Q:Bool->Hp->Prop),Inv X pins σ H s->t σ H Q ->
  wpAny (model X.prog X.w) X.A (forIn ifs true fun c r=>if r=true then do let ok ←isTrue c X.env (eval c X.env);pure (ForInStep.yield ok) else pure (ForInStep.yield r)) (TP X pins σ Q) X.xe s
noncomputable def R6:TT:=fun _ H Q=>Q true H
theorem qY {X:Cx}:Lz X [] R6:=fun _ _ _ H _ I h=>wpAny_tests_nil ⟨H,I,h⟩
noncomputable def R7 (D:Addr) (tc:TT) (te:TE):TS:=fun E σ H=>tc σ H fun b H1=>if b=true then te σ H1 fun v H2=>∃ ys,H2 D=some (.lst ys)∧ys.length < sizeLine∧E.nx σ (upd H2 D (.lst (ys++[v]))) else E.nx σ H1
noncomputable def endC (Q:VK) (D:Addr):Ends:={ nx:=fun _ H=>Q (.ref D) H,rt:=fun _ _=>False }
noncomputable def Ai (wi:TI) (fr:List (Option Nat)) (g:TG) (tc:TT) (te:TE):TE:=fun σ H Q=>wi σ H fun J H1=>∀ D,H1 D=none->∃ W:Nat->Nat->St->Hp->Prop,(∃ m,W 0 m (frσ fr σ) (upd H1 D (.lst [])))∧∀ i m σ H,W i m σ H ->
 (J.stop i H∧(endC Q D).nx σ H)∨(J.go i H∧∃ N:St->Hp->Prop,(∀ σ' H',N σ' H'->∃ m',m' < m∧W (i+1) m' σ' H')∧∀ x H',J.yld i H x H'->g x σ H' fun σ2 H2=>R7 D tc te { endC Q D with nx:=N,ct:=N,bk:=(endC Q D).nx } σ2 H2)
section
variable {prog:Program}{w:World}{A:Around}{R:Result->Shared->Prop}{s:Shared}
theorem Ha {elt target iter:Expr}{ifs:List Expr}{scope:Scope}{pos:Pos}{it acc:Value}{env:Env} (I:Nat->Shared->Prop)
  (turn:∀ n s,I n s->wpAny (model prog w) A (pyNext it) (fun r s₁=>match r with
   | none=>R (.ok .next) s₁
   | some v=>wpAny (model prog w) A (letOwnedTupleGo target it v) (fun _ s₁=>wpAny (model prog w) A (assign target env v) (fun _ s₂ =>
     wpAny (model prog w) A (forIn ifs true fun c r=>if r=true then do let ok ←isTrue c env (eval c env);pure (ForInStep.yield ok) else pure (ForInStep.yield r)) (fun ok s₃ =>
      if ok=true then wpAny (model prog w) A (eval elt env) (fun x s₄ =>
       wpAny (model prog w) A (call (.builtin "list.append") [acc,x]) (fun _ s₅=>∃ m,m < n∧I m s₅) (notedBy (model prog w) A env fun e s'=>R (.error e) s') s₄) (notedBy (model prog w) A env fun e s'=>R (.error e) s') s₃
      else ∃ m,m < n∧I m s₃) (notedBy (model prog w) A env fun e s'=>R (.error e) s') s₂) (notedBy (model prog w) A env fun e s'=>R (.error e) s') s₁) (notedBy (model prog w) A env fun e s'=>R (.error e) s') s₁) (notedBy (model prog w) A env fun e s'=>R (.error e) s') s)
  (n:Nat) (h:I n s) :
  codeAny (model prog w) A (.compLoop (.ListComp elt [⟨target,iter,ifs,0⟩] scope pos) 0 it acc env) R s:=by
 refine codeAny_loop rfl I (fun n s hI=>?_) n h
 show wpAny _ A ((compTurn (.ListComp elt [⟨target,iter,ifs,0⟩] scope pos) 0 it acc env).onRaise (fun x=>do noteFrame x env;theTreesLotGoes x)) _ _ s
 refine wpAny_noted ?_
 rw [compTurn_list]
 refine wpAny_bind (wpAny_standAt (wpAny_bind (wpAny_mono (turn n s hI) (fun r s₁ h₁=>?_) fun _ _ h'=>h')))
 cases r with
 | none=>exact wpAny_pure h₁
 | some v =>
  refine wpAny_bind (wpAny_mono h₁ (fun _ s₁' h₁'=>?_) fun _ _ h'=>h')
  refine wpAny_bind (wpAny_mono h₁' (fun _ s₂ h₂=>wpAny_bind (wpAny_mono h₂ (fun ok s₃ h₃=>?_) fun _ _ h'=>h')) fun _ _ h'=>h')
  cases ok with
  | false=>exact wpAny_pure ⟨rfl,h₃⟩
  | true =>
   exact wpAny_bind (wpAny_bind (wpAny_mono h₃ (fun x s₄ h₄=>wpAny_bind (wpAny_mono h₄ (fun _ s₅ h₅=>wpAny_pure (wpAny_pure ⟨rfl,h₅⟩)) fun _ _ h'=>h')) fun _ _ h'=>h'))
end
structure Apart (X:Cx) (pins:List (Addr×Obj)) (C:Addr):Prop where
 ne:C≠X.env.locals
 ab:X.s₀.heap.objs.size≤C
 cells:∀ x c,X.env.cells.lookup x=some c->c≠C
 pins:∀ p∈X.pn++pins,p.1≠C
section
variable {X:Cx}{elt tg iter:Expr}{ifs:List Expr}{scope:Scope}{pos pos':Pos}{wi:TI}{g:TG}{tc:TT}{te:TE}{pins:List (Addr×Obj)}{σ:St}{H:Hp}{s:Shared}
theorem Aj (N:List Str) (fr:List (Option Nat)) (hc:X.calm=true) (hi:PI X tg iter wi) (hg:∀ cl C s2 H2 fp,PG (X.comp N scope cl C s2 H2 fp) tg g)
  (ht:∀ cl C s2 H2 fp,Lz (X.comp N scope cl C s2 H2 fp) ifs tc) (he:∀ cl C s2 H2 fp,PE (X.comp N scope cl C s2 H2 fp) elt te)
  (ok:vG X.N N X.env.scope scope fr=true) (hs:∀ x,foldedSetIterable iter X.env x=pure x) {Q:VK}{Q':Value->Shared->Prop}{use:Option (Value->Sem Unit)}
  (I:Inv X pins σ H s) (h:Ai wi fr g tc te σ H Q)
  (fin:∀ D C s' H',Inv X pins σ H' s'->H' C=none->Apart X pins C->(∃ m,s'.heap.Ns C m)->Q (.ref D) H'->compPost (model X.prog X.w) X.A X.xe use Q' (.ref D) C (.ok .next) s') :
  wpAny (model X.prog X.w) X.A (comprehension (.ListComp elt [⟨tg,iter,ifs,0⟩] scope pos) scope X.env pos' (newList []) false (eval iter X.env) use) Q' X.xe s:=by
 obtain ⟨o1,o2,o3,o4,o5,o6⟩:=Ah ok
 obtain ⟨cl,hclos,c1,c2⟩:=CN (scope:=scope) (env:=X.env) (fun x hx hf=>I.ok.has x.1 (o5 x hx hf))
 refine wpAny_comprehension_free (use:=use) rfl hs hclos o2 o4 (thn (hi pins s σ H _ I h) fun xv s1 h1=>thn h1 fun itv s2 h2=>?_)
 obtain ⟨it,fp,tn,J,H2,rfl,I2,T,st2,f2,hW⟩:=h2
 refine wpAny_newObj_type (wpAny_newFunctionEnv o3 (by intro y hy;simp at hy) (fun h₁ hns₁ hsb₁=>?_) o2)
 dsimp only at hns₁ hsb₁ ⊢
 generalize hHH:s2.heap.push { cls:=.type "list",dict:=none,data:=.seq ([]:List Value).toArray }=HH at hns₁ hsb₁ ⊢
 have hC:HH.objs.size=s2.heap.objs.size+1:=by rw [←hHH,Zbq]
 have hDC:s2.heap.objs.size≠HH.objs.size:=by rw [hC];exact Zay (Nat.lt_succ_self _)
 have hCle:s2.heap.objs.size≤HH.objs.size:=by rw [hC];exact Nat.le_succ _
 have neC:∀ b,b < s2.heap.objs.size->b≠HH.objs.size:=fun b hb=>by rw [hC];exact Zay (Nat.lt_succ_of_lt hb)
 have old:∀ b o,s2.heap.get? b=some o->h₁.get? b=some o:=fun b o e=>hsb₁.extBut b o (neC b (Zaj e)) (Zaa _ (hHH ▸ Zaa _ e))
 have atD:h₁.get? s2.heap.objs.size=some { cls:=.type "list",data:=.seq ([]:List Value).toArray }:=hsb₁.extBut _ _ hDC (Zaa _ (hHH ▸ Zam _ rfl))
 have ltf:∀ b∈fp,b < s2.heap.objs.size:=fun b hb=>let ⟨o,e,_⟩:=T.obj _ _ st2 b hb;Zaj e
 have ltc:∀ x c,X.env.cells.lookup x=some c->c < s2.heap.objs.size:=fun x c e=>let ⟨v,q⟩:=I2.cell x c e;q.lt
 have ltp:∀ p∈X.pn++pins,p.1 < s2.heap.objs.size:=fun p hp=>Zaj (I2.pin p hp).1
 have fresh:H2 s2.heap.objs.size=none:=I2.hok.fresh (Zaf _)
 have freshC:H2 HH.objs.size=none:=I2.hok.fresh hCle
 have ap:Apart X pins HH.objs.size:=⟨Nat.ne_of_gt (Zaq I2.lt hCle),Zad I2.sz hCle,fun x c e=>neC c (ltc x c e),fun p hp=>neC _ (ltp p hp)⟩
 have okY:(X.comp N scope cl HH.objs.size s2 H2 fp).Ok:={
  mod:=I2.ok.mod
  kind:=o2
  glob:=I2.ok.glob
  blt:=I2.ok.blt
  above:=hCle
  inj:=fun x y c a b=>I2.ok.inj x y c (c1 _ _ a) (c1 _ _ b)
  has:=fun x hx=>c2 x (lookup_mem (CP (fun z=>o3 _ (lookup_mem z) rfl) hx))
  cab:=fun x c hx _=>by cases hx
  hd:=I2.ok.hd
  frames:=I2.ok.frames
  stk:=.inl rfl
  exf:=fun b hb=>⟨neC b (ltf b hb),fun x c e=>(f2 b hb).2.2.2.2.1 x c (c1 x c e)⟩
  bs:=I2.bs
  bsz:=Zad I2.ok.bsz I2.sz
  noex:=fun b o e hb=>by
   rcases (f2 b hb).2.2.2.1 with z | z
   ·exact I2.ok.noex b o e z
   ·exact absurd (Zaq (Zaj e) (Zad I2.ok.bsz z)) (Zbb _)
  exfs:=fun b hb hf=>by
   rcases Zao.mp (I2.yG b hf) with z | z
   ·exact (f2 b hb).2.1 z
   ·exact (f2 b hb).2.2.1 z
  qx:=I2.stack
  frf:=I2.yH }
 have IY:Inv (X.comp N scope cl HH.objs.size s2 H2 fp) [] (frσ fr σ) (upd H2 s2.heap.objs.size (.lst [])) { s2 with heap:=h₁,toks:=s2.toks+([]:List (Str×Value)).length }:={
  ok:=okY
  os:=rfl
  bare:=I2.bare
  base:=Un.laid old (Zaf _) fresh
  loc:=by
   refine ⟨_,hns₁,fun j x v e1 e2 e3=>?_⟩
   obtain ⟨i,f1,f2'⟩:=Ly e2
   obtain ⟨g1,g2⟩:=o6 j i x f1 e1
   have k2:=o5 _ (lookup_mem g2) rfl
   obtain ⟨m2,hm2,l2⟩:=I2.loc
   obtain ⟨u,ru,lk⟩:=l2 i x v g1 f2' (.inr k2)
   refine ⟨u,ru,.inr ⟨sy g2,?_⟩⟩
   obtain ⟨c,hcl⟩:=c2 x (lookup_mem g2)
   refine ⟨c,hcl,?_⟩
   rcases lk with ⟨k,_⟩ | ⟨_,c',e',z⟩
   ·rcases k2 with k2 | k2
    ·rw [show X.env.kindOf x=X.env.scope.names.lookup x from rfl,k2] at k;cases k
    ·rw [show X.env.kindOf x=X.env.scope.names.lookup x from rfl,k2] at k;cases k
   ·rw [c1 x c hcl] at e'
    cases e'
    obtain ⟨oc,hoc,hd⟩:=z
    exact ⟨oc,old c oc hoc,hd⟩
  cell:=fun x c e=>by
   obtain ⟨v,oc,hoc,hd⟩:=I2.cell x c (c1 x c e)
   exact ⟨v,oc,old c oc hoc,hd⟩
  free:=(aO (Za4 hDC)).trans freshC
  freeC:=fun x c e=>by
   rw [aO (Zay (ltc x c (c1 x c e)))]
   exact I2.freeC x c (c1 x c e)
  pin:=fun p hp=>by cases hp
  hok:=I2.hok.laid old (Zaf _) ⟨Za9 _,[],0,.nil,atD⟩
  len:=by unfold frσ;rw [List.length_map];exact o1 }
 have stat:∀ {H':Hp}{pp:List (Addr×Obj)},pp=[]->(∀ b∈fp,H' b=none)->∀ b∈fp,vo (X.comp N scope cl HH.objs.size s2 H2 fp) pp H' b:=fun {H' pp} hp hn b hb=>by
  subst hp
  exact ⟨hn b hb,neC b (ltf b hb),fun z=>okY.exfs b hb z,.inl hb,fun x c e=>(f2 b hb).2.2.2.2.1 x c (c1 x c e),fun p hp=>by cases hp⟩
 have back:∀ {σ':St}{H':Hp}{s':Shared},Inv (X.comp N scope cl HH.objs.size s2 H2 fp) [] σ' H' s'->Inv X pins σ H' s':=fun {σ' H' s'} I' =>
  I2.call' (ch:=fp) I'.os I'.base I'.hok I'.bare fun b hb=>⟨(f2 b hb).2.2.2.1,(f2 b hb).2.1,(f2 b hb).2.2.2.2.1,(f2 b hb).2.2.2.2.2⟩
 have loop:∀ s₃:Shared,s₃={ s2 with heap:=h₁,toks:=s2.toks+([]:List (Str×Value)).length } ->
   codeAny (model X.prog X.w) X.A (.compLoop (.ListComp elt [⟨tg,iter,ifs,0⟩] scope pos) 0 (.ref it) (.ref s2.heap.objs.size) (compEnvC scope cl HH.objs.size X.env))
    (compPost (model X.prog X.w) X.A X.xe use Q' (.ref s2.heap.objs.size) HH.objs.size) s₃:=by
  rintro s₃ rfl
  obtain ⟨W,⟨m0,w0⟩,turn⟩:=hW s2.heap.objs.size fresh
  refine Ha (fun n s'=>∃ i σ' H',Inv (X.comp N scope cl HH.objs.size s2 H2 fp) [] σ' H' s'∧tn i s'.heap∧(∀ b∈fp,H' b=none)∧W i n σ' H') ?_ m0
   ⟨0,_,_,IY,T.keep _ _ _ st2 fun b _ o e=>old b o e,fun b hb=>by rw [aO (Zay (ltf b hb))];exact (f2 b hb).1,w0⟩
  rintro n s3 ⟨i,σ3,H3,I3,st3,fr3,w3⟩
  rcases turn i n σ3 H3 w3 with ⟨stop,q⟩ | ⟨go,Nx,hN,step⟩
  ·refine thn (T.done (X.comp N scope cl HH.objs.size s2 H2 fp) rfl rfl rfl hc i [] s3 σ3 H3 _ I3 (stat rfl fr3) st3 stop) fun r s4 ⟨hr,I4⟩=>?_
   subst hr
   obtain ⟨m4,hm4,_⟩:=I4.loc
   exact fin _ _ s4 H3 (back I4) I4.free ap ⟨m4,hm4⟩ q
  ·refine thn (T.item (X.comp N scope cl HH.objs.size s2 H2 fp) rfl rfl rfl hc i [] s3 σ3 H3 _ I3 (stat rfl fr3) st3 go) fun r s4 ⟨u,hr,h4⟩=>?_
   subst hr
   refine thn h4 fun _ s5 ⟨x,H5,I5,r5,y5,st5,fr5⟩=>?_
   have I5':=I5.pinned (stat rfl fr5) (T.obj _ _ st5)
   refine wpAny_mono (hg cl HH.objs.size s2 H2 fp _ s5 σ3 H5 x u _ I5' r5 (step x H5 y5)) (fun _ s6 ⟨σ6,H6,I6,q6⟩=>?_) fun _ _ f=>f.elim
   have again:∀ {s7:Shared}{σ7:St}{H7:Hp},Inv (X.comp N scope cl HH.objs.size s2 H2 fp) ([]++vq fp s5.heap) σ7 H7 s7->Nx σ7 H7 ->
     ∃ m,m < n∧∃ i σ' H',Inv (X.comp N scope cl HH.objs.size s2 H2 fp) [] σ' H' s7∧tn i s7.heap∧(∀ b∈fp,H' b=none)∧W i m σ' H':=fun {s7 σ7 H7} I7 n7=>by
    obtain ⟨m',hm,w7⟩:=hN σ7 H7 n7
    refine ⟨m',hm,i+1,σ7,H7,I7.rZ,T.keep _ _ _ st5 fun b hb o e=>(I7.pin (b,o) (ZaK _ (ZaK _ (mY hb e)))).1,fun b hb=>?_,w7⟩
    obtain ⟨o,e,d⟩:=T.obj _ _ st5 b hb
    exact (I7.pin (b,o) (ZaK _ (ZaK _ (mY hb e)))).2.1
   refine wpAny_mono (ht cl HH.objs.size s2 H2 fp _ s6 σ6 H6 _ I6 q6) (fun b s7 ⟨H7,I7,q7⟩=>?_) fun _ _ f=>f.elim
   cases b with
   | false =>
    rw [if_neg (by decide)] at q7 ⊢
    exact again I7 q7
   | true =>
    rw [if_pos rfl] at q7 ⊢
    refine wpAny_mono (he cl HH.objs.size s2 H2 fp _ s7 σ6 H7 _ I7 q7) (fun y s8 ⟨v,H8,I8,r8,q8⟩=>?_) fun _ _ f=>f.elim
    obtain ⟨ys,e8,l8,n8⟩:=q8
    refine wpAny_mono (cX (X:=X.comp N scope cl HH.objs.size s2 H2 fp) _ s8 σ6 H8 (.ref s2.heap.objs.size) [v] (.ref s2.heap.objs.size) [y] (fun _ H9=>Nx σ6 H9) I8 rfl (.cons r8 .nil) ⟨_,ys,v,rfl,rfl,e8,l8,n8⟩) (fun _ s9 ⟨_,H9,I9,_,n9⟩=>?_) fun _ _ f=>f.elim
    exact again I9 n9
 exact codeAny_compStart_list (loop _ rfl) (T.self _ 0 _ _ _ (T.keep _ _ _ st2 fun b _ o e=>old b o e) (loop _ rfl))
theorem ql (N:List Str) (fr:List (Option Nat)) (hc:X.calm=true) (hi:PI X tg iter wi) (hg:∀ cl C s2 H2 fp,PG (X.comp N scope cl C s2 H2 fp) tg g)
  (ht:∀ cl C s2 H2 fp,Lz (X.comp N scope cl C s2 H2 fp) ifs tc) (he:∀ cl C s2 H2 fp,PE (X.comp N scope cl C s2 H2 fp) elt te)
  (ok:vG X.N N X.env.scope scope fr=true:=by kernel_rfl) (hs:∀ x,foldedSetIterable iter X.env x=pure x:=by intro _;rfl) :
  PE X (.ListComp elt [⟨tg,iter,ifs,0⟩] scope pos) (Ai wi fr g tc te):=by
 intro pins s σ H Q I h
 rw [eval_ListComp]
 refine Aj (use:=none) N fr hc hi hg ht he ok hs I h fun D C s' H' I' hn ap hm q=>?_
 obtain ⟨m,hm⟩:=hm
 exact ⟨m,hm,fun h' sb=>⟨.ref D,H',I'.turned (t':=s'.toks) (fun b o hb e=>(sb.2 b hb).trans e) hn ap.ne (.inr ap.ab) ap.cells ap.pins,rfl,q⟩⟩
theorem LC {i:Nat}{y:Str}{py spos:Pos} (N:List Str) (fr:List (Option Nat)) (hc:X.calm=true) (hN:X.N.Nodup) (hiy:X.N[i]?=some y) (hy:X.env.scope.names.lookup y=some .local) (hi:PI X tg iter wi)
  (hg:∀ cl C s2 H2 fp,PG (X.comp N scope cl C s2 H2 fp) tg g) (ht:∀ cl C s2 H2 fp,Lz (X.comp N scope cl C s2 H2 fp) ifs tc) (he:∀ cl C s2 H2 fp,PE (X.comp N scope cl C s2 H2 fp) elt te)
  (ok:vG X.N N X.env.scope scope fr=true:=by kernel_rfl) (hs:∀ x,foldedSetIterable iter X.env x=pure x:=by intro _;rfl)
  (hsw:swapsWith (.ListComp elt [⟨tg,iter,ifs,0⟩] scope pos) (some (.Name y py)) spos.line X.env=pure true:=by rfl) :
  PS X (.Assign [.Name y py] (.ListComp elt [⟨tg,iter,ifs,0⟩] scope pos) spos) (Aa (Ai wi fr g tc te) (uD i)):=by
 intro pins s σ H D I h
 rw [exec_Assign_Name_used _ _ _ _ hsw]
 refine wpAny_bind (wpAny_standAt (wpAny_bind ?_))
 show wpAny _ X.A (do let _ ←comprehension (.ListComp elt [⟨tg,iter,ifs,0⟩] scope pos) scope X.env _ (newList []) false (eval iter X.env) (some (assign (.Name y py) X.env))) _ _ s
 refine wpAny_bind (wpAny_mono (Aj (use:=some (assign (.Name y py) X.env)) (Q':=fun _ s'=>SP X pins D .next s') N fr hc hi hg ht he ok hs I h fun Da C s' H' I' hn ap hm q=>?_) (fun _ s' hq=>wpAny_pure (wpAny_pure hq)) fun _ _ e=>e)
 obtain ⟨m,hm⟩:=hm
 show wpAny _ X.A (assign (.Name y py) X.env (.ref Da)) _ _ _
 refine wpAny_assign_Name (xH I' hN hiy (.inl hy) (v:=.ref Da) rfl (fun s'' I'' hsb=>?_) (.inr hy))
 obtain ⟨a,sb,ha⟩:=hsb
 have hne:C≠a:=by
  rcases ha with z | z
  ·rw [z];exact ap.ne
  ·exact Za4 (ap.cells y a z)
 exact ⟨m,hm.sameBut sb hne,fun h' sb'=>⟨_,H',I''.turned (t':=s''.toks) (fun b o hb e=>(sb'.2 b hb).trans e) hn ap.ne (.inr ap.ab) ap.cells ap.pins,q⟩⟩
end
section
variable {X:Cx}{pins:List (Addr×Obj)}{σ:List (Option V)}{H:Hp}{s:Shared}{h':Heap}
theorem Inv.uY {t':Nat}{ch:List Addr} (I:Inv X pins σ H s) (k:∀ b o,b ∉ ch->s.heap.get? b=some o->h'.get? b=some o) (hf:∀ b∈ch,vo X pins H b):Inv X pins σ H { s with heap:=h',toks:=t' }:=by
 have nit:∀ b u,H b=some u->b ∉ ch:=fun b u e z=>by rw [(hf b z).1] at e;cases e
 refine I.step (g':=s.gens) (d':=s.drawn) (ch:=ch) (fun b hb=>⟨(hf b hb).2.2.2.1,(hf b hb).2.1,(hf b hb).2.2.2.2.1,(hf b hb).2.2.2.2.2⟩) (fun b o _ _ hc e _=>k b o hc e) (fun b o _ _ hc e _=>⟨o.slots,k b o hc e⟩) (fun _ _ _ _ n=>n)
  (fun b o hc e=>⟨o,k b o hc e⟩) (fun _ _ e=>e) (fun _ _ _ e=>e) (fun b ps e=>⟨#[],by rw [e];simp⟩) (fun m hm=>?_) (fun b u e=>?_) I.bare
 ·obtain ⟨o,es,ep,ho,r⟩:=hm
  exact ⟨o,es,ep,k _ o (fun z=>(hf _ z).2.1 rfl) ho,r⟩
 ·refine (I.hok b u e).stay (fun c v hc q=>k c v ?_ q) (fun _ q=>q) fun _ _ q=>q
  rcases hc with z | z
  ·rw [z];exact nit b u e
  ·exact nit c _ z
theorem Inv.xP {t':Nat}{ch:List Addr}{a:Addr}{o:HO} (I:Inv X pins σ H s) (k:∀ b o,b ∉ ch->s.heap.get? b=some o->h'.get? b=some o) (hf:∀ b∈ch,vo X pins H b) (ha:s.heap.objs.size≤a)
  (new:dM X.prog X.w (upd H a o) h' a o):Inv X pins σ (upd H a o) { s with heap:=h',toks:=t' }:=by
 have hn:H a=none:=I.hok.fresh ha
 have nit:∀ b u,H b=some u->b ∉ ch:=fun b u e z=>by rw [(hf b z).1] at e;cases e
 have ne:∀ b ob,s.heap.get? b=some ob->b≠a:=fun b ob e z=>by rw [z] at e;exact absurd (Zaq (Zaj e) ha) (Zbb _)
 refine I.step (g':=s.gens) (d':=s.drawn) (ch:=ch) (fun b hb=>⟨(hf b hb).2.2.2.1,(hf b hb).2.1,(hf b hb).2.2.2.2.1,(hf b hb).2.2.2.2.2⟩) (fun b o _ _ hc e _=>k b o hc e) (fun b o _ _ hc e _=>⟨o.slots,k b o hc e⟩) (fun b ob _ e n=>by rw [aO (ne b ob e)];exact n)
  (fun b o hc e=>⟨o,k b o hc e⟩) (fun b xs e=>by rw [aO (b8 e hn)];exact e) (fun b ob u e=>by rw [aO (b8 e hn)];exact e) (fun b ps e=>⟨#[],by rw [aO (b8 e hn),e];simp⟩) (fun m hm=>?_) (fun b u e=>?_) I.bare
 ·obtain ⟨o,es,ep,ho,r⟩:=hm
  exact ⟨o,es,ep,k _ o (fun z=>(hf _ z).2.1 rfl) ho,r⟩
 ·by_cases hb:b=a
  ·subst hb;rw [aX] at e;cases e;exact new
  ·rw [aO hb] at e
   refine (I.hok b u e).stay (fun c v hc q=>k c v ?_ q) (fun c q=>by rw [aO (b8 q hn)];exact q) fun c xs q=>by rw [aO (b8 q hn)];exact q
   rcases hc with z | z
   ·rw [z];exact nit b u e
   ·exact nit c _ z
end
noncomputable def Itf (f:Nat->V) (n:Nat):It:=⟨fun i _=>i < n,fun i H x H'=>H'=H∧x=f i,fun i _=>i=n⟩
noncomputable def sgn (z:Str) (i:Nat):V:=.str ⟨#[z.cps.getD i 0]⟩
theorem xQ {P:Program}{w:World}{A:Around} (hh:A.handled=none) (it:Addr) (z:Str) (t:Tok):Walks P w A it [it] [it] z.cps.size (SignAt z) (fun i h=>h.IsStrIter it (strIterType z) z t i):=by
 unfold strIterType
 split
 ·exact Walks.strAscii hh it z t
 ·exact Walks.strWide hh it z t
theorem Ji {P:Program}{w:World}{K:PySem.W.Frag}{tg:Expr} (it:Addr) (z:Str) (t:Tok):Turn P w K tg (Itf (sgn z) z.cps.size) [it] it (fun i h=>h.IsStrIter it (strIterType z) z t i) where
 mem:=by simp
 obj:=fun i h st b hb=>by
  have e:b=it:=by simpa using hb
  subst e
  obtain ⟨o,e,c,d⟩:=st
  exact ⟨o,e,fun v z=>by rw [d] at z;cases z⟩
 keep:=fun i h h' st k=>let ⟨o,e,r⟩:=st;⟨o,k it (by simp) o e,r⟩
 item:=by
  intro X hP hw hK hc i pins s σ H E I hf st hg
  subst hP hw hK
  obtain ⟨f0,f1,f2,f3,f4,f5⟩:=hf it (by simp)
  have W:=xQ (P:=X.prog) (w:=X.w) (I.ok.hd hc) it z t
  refine W.item i s _ _ hg st fun v h' tk hv st' kk=>?_
  obtain ⟨c,u,hx,rfl⟩:=hv
  have I1:Inv X pins σ H { s with heap:=h',toks:=tk }:=I.turned (fun b o hb e=>kk b o (by simpa using hb) e) f0 f1 f3 f4 f5
  obtain ⟨o,e,cc,d⟩:=id st'
  have ec:z.cps.getD i 0=c:=by rw [Zbj,hx];rfl
  refine ⟨_,rfl,Ac (s:={ s with heap:=h',toks:=tk }) e cc d (by unfold strIterType;split <;> decide) ⟨sgn z i,H,I1,⟨u,?_⟩,⟨rfl,rfl⟩,st',fun b hb=>(hf b hb).1⟩⟩
  rw [ec]
 done:=by
  intro X hP hw hK hc i pins s σ H E I hf st hg
  subst hP hw hK
  have hg':i=z.cps.size:=hg
  subst hg'
  obtain ⟨f0,f1,f2,f3,f4,f5⟩:=hf it (by simp)
  have W:=xQ (P:=X.prog) (w:=X.w) (I.ok.hd hc) it z t
  exact W.done s _ _ st fun h' tk kk=>⟨rfl,I.turned (fun b o hb e=>kk b o (by simpa using hb) e) f0 f1 f3 f4 f5⟩
 self:=fun A i s Q E st h=>by
  unfold strIterType at st
  split at st
  ·exact wpAny_pyIter_striter_ascii st h
  ·exact wpAny_pyIter_striter_wide st h
noncomputable def Ite (K:PySem.W.Frag) (a:Addr):It :=
 ⟨fun i H=>∃ xs x,SqL K H a xs∧xs[i]?=some x,fun i H x H'=>∃ p y,H p=none∧x=.ref p∧H'=upd H p (.tup [.int i,y])∧∀ xs,SqL K H a xs->xs[i]?=some y,fun i H=>∃ xs,SqL K H a xs∧xs.length≤i⟩
theorem Hc {P:Program}{w:World}{K:PySem.W.Frag}{elts:List Expr}{x1:Nat}{pos:Pos} (a e it:Addr) (hei:e≠it) :
  Turn P w K (.Tuple elts x1 pos) (Ite K a) [e,it] e (fun i h=>(∃ old,IsEnum h e it (i:Int) old)∧h.IsListIter it a i) where
 mem:=by simp
 obj:=fun i h st b hb=>by
  obtain ⟨⟨old,he⟩,o,ho,c,d⟩:=st
  rcases Zao.mp hb with z | z
  ·subst z;exact ⟨_,he,fun v q=>by cases q⟩
  ·have z:b=it:=by simpa using z
   subst z
   exact ⟨o,ho,fun v q=>by rw [d] at q;cases q⟩
 keep:=fun i h h' st k=>by
  obtain ⟨⟨old,he⟩,hit⟩:=st
  exact ⟨⟨old,k e (by simp) _ he⟩,hit.at fun o q=>k it (by simp) o q⟩
 item:=by
  intro X hP hw hK hc i pins s σ H E I hf st hg
  subst hP hw hK
  obtain ⟨xs,x,hq,hx⟩:=hg
  obtain ⟨its,rv,p,hz⟩:=I.list hq
  obtain ⟨u,hu,ru⟩:=rv.get hx
  obtain ⟨⟨old,he⟩,hit⟩:=st
  have hl:=p.isList
  have hai:a≠it:=by
   rintro rfl
   obtain ⟨o1,e1,c1,_⟩:=hl
   obtain ⟨o2,e2,c2,_⟩:=hit
   rw [e1] at e2;cases e2;rw [c1] at c2;exact absurd c2 (by decide)
  have hae:a≠e:=by
   rintro rfl
   obtain ⟨o1,e1,c1,_⟩:=hl
   rw [he] at e1;cases e1;exact absurd (show Value.type "enumerate"=Value.type "list" from c1) (by decide)
  have D:=Draws.list (prog:=X.prog) (w:=X.w) (A:=X.A.in1) (I.ok.hd hc) it a hai its.toArray
  have hlt:i < its.toArray.size:=by
   have:=(Zap.mp hu).1
   simpa using this
  refine wpAny_pyNext_enum_itemD D he ⟨hit,hl⟩ hlt hei (by simp [hei,Za4 hae]) fun v h1 tk hP ho hst hT hsz hk=>?_
  have ev:v=u:=by
   have hP':its.toArray[i]?=some v:=hP
   rw [List.getElem?_toArray,hu] at hP'
   exact (Zab hP').symm
  subst ev
  refine ⟨_,rfl,wpAny_letOwnedTupleGo_enum ho fun h2 he2 hs2=>?_⟩
  have elt:e < s.heap.objs.size:=Zaj he
  have hT2:h2.get? s.heap.objs.size=some { cls:=.type "tuple",data:=.seq #[.int i tk,v] }:=(hs2.2 _ (Nat.ne_of_gt elt)).trans hT
  refine ⟨.ref s.heap.objs.size,upd H s.heap.objs.size (.tup [.int i,x]),I.xP (ch:=[e,it]) (fun b o hb q=>?_) hf (Zaf _) ⟨by show 2≤sizeLine;decide,[.int i tk,v],.cons ⟨tk,rfl⟩ (.cons ru .nil),gD.mk hT2⟩,rfl,⟨_,x,I.hok.fresh (Zaf _),rfl,rfl,fun ys hy=>by rw [I.rW hy hq];exact hx⟩,⟨⟨v,by simpa using he2⟩,?_⟩,fun b hb=>?_⟩
  ·have h1':b≠e:=fun z=>hb (by simp [z])
   have h2':b≠it:=fun z=>hb (by simp [z])
   exact (hs2.2 b h1').trans (hk b o h1' h2' q)
  ·exact hst.1.at fun o q=>(hs2.2 it (Za4 hei)).trans q
  ·rw [aO ?_]
   ·exact (hf b hb).1
   ·rcases Zao.mp hb with z | z
    ·rw [z];exact Zay elt
    ·have z:b=it:=by simpa using z
     rw [z]
     obtain ⟨o2,e2,_⟩:=hit
     exact Zay (Zaj e2)
 done:=by
  intro X hP hw hK hc i pins s σ H E I hf st hg
  subst hP hw hK
  obtain ⟨xs,hq,hx⟩:=hg
  obtain ⟨its,rv,p,hz⟩:=I.list hq
  obtain ⟨⟨old,he⟩,hit⟩:=st
  have hl:=p.isList
  have ln:=rv.length
  refine wpAny_pyNext_enum_end (I.ok.hd hc) he hit hl (by rw [List.getElem?_toArray];exact Zbp.mpr (by omega)) fun h1 eb=>⟨rfl,?_⟩
  exact I.uY (t':=s.toks) (ch:=[e,it]) (fun b o hb q=>eb b o (fun z=>hb (by simp [z])) q) hf
 self:=fun A i s Q E st h=>by
  obtain ⟨⟨old,he⟩,_⟩:=st
  exact wpAny_pyIter_enum he h
noncomputable def Oo (K:PySem.W.Frag) (ta:TA):TI:=fun σ H R=>ta σ H fun vs H1=>∃ a,vs=[.ref a]∧(∃ xs,SqL K H1 a xs)∧R (Ite K a) H1
theorem Ey {X:Cx}{l:Expr}{ta:TA}{elts:List Expr}{x1:Nat}{tpos p pos:Pos} (hg:Gl X "enumerate") (hm:X.mg "enumerate"=none) (ha:PA X [l] ta) (hs:starEach [l] X.env=[(false,eval l X.env)]:=by rfl) :
  PI X (.Tuple elts x1 tpos) (.Call (.Name "enumerate" p) [l] [] pos) (Oo X.K ta):=by
 intro pins s σ H R I h
 refine Call_ (o9 I hg hm boot_enumerate (Za5 (thn (ha pos pins s σ H _ I h) fun us s1 ⟨vs,H1,I1,r1,q1⟩=>?_) hs rfl))
 obtain ⟨a,e,⟨xs,hq⟩,q⟩:=q1
 subst e
 cases r1 with
 | cons r rr =>
  cases rr
  cases r
  obtain ⟨its,rv,p,hz⟩:=I1.list hq
  refine call_enumerate_list p.isList fun h1 he hit hsz hk=>?_
  refine wpAny_pyIter_enum he ?_
  have I2:Inv X pins σ H1 { s1 with heap:=h1 }:=I1.kept (t':=s1.toks) hk
  refine ⟨s1.heap.objs.size+1,[s1.heap.objs.size+1,s1.heap.objs.size],_,_,H1,rfl,I2,Hc a _ _ (by simp),⟨⟨_,he⟩,hit⟩,fun b hb=>?_,q⟩
  rcases Zao.mp hb with z | z
  ·subst z;exact I1.Ab (Nat.le_succ _) (I1.hok.fresh (Nat.le_succ _))
  ·have z:b=s1.heap.objs.size:=by simpa using z
   subst z;exact I1.Ab (Zaf _) (I1.hok.fresh (Zaf _))
section
variable {X:Cx}{a b c e:Expr}{ta tb tc te:TE}{pos p2:Pos}
theorem all_range (bs:List Bool):(List.range bs.length).all (fun i=>bs.getD i true)=bs.all id:=by
 rw [Bool.eq_iff_iff]
 simp only [ZaX,Zbh,id]
 constructor
 ·intro h x hx
  obtain ⟨i,hi,rfl⟩:=List.mem_iff_getElem.mp hx
  have:=h i hi
  simpa [ZaD,hi] using this
 ·intro h i hi
  have:=h bs[i] (List.getElem_mem hi)
  simpa [ZaD,hi] using this
theorem Ak (hc:X.calm=true):jt X (.builtin "all") (fun xs H Q=>∃ (p:Addr) (bs:List Bool),xs=[.ref p]∧SqL X.K H p (bs.map V.bl)∧Q (.bl (bs.all id)) H):=by
 intro pins s σ H xs us Q I rv h
 obtain ⟨p,bs,rfl,hq,q⟩:=h
 obtain ⟨u,rfl,ru⟩:=rv.one
 cases ru
 obtain ⟨its,r,pl,hz⟩:=I.list hq
 have ln:=r.length
 rw [List.length_map] at ln
 refine call_all_walk (wpAny_pyIter_list pl.isList ?_)
 have hne:p≠s.heap.objs.size:=by
  obtain ⟨o,n,e,_⟩:=pl
  exact Zay (Zaj e)
 refine ⟨s.heap.objs.size,_,_,_,_,_,fun i=>bs.getD i true,rfl,Walks.list (A:=X.A.in1) (I.ok.hd hc) s.heap.objs.size p hne its.toArray,⟨⟨_,Zam _ rfl,rfl,rfl⟩,pl.isList.at fun o e=>Zaa _ e⟩,?_,fun h' tk kk=>?_⟩
 ·intro i v s' Q' E' hP hQ
  have hP':its.toArray[i]?=some v:=hP
  rw [List.getElem?_toArray] at hP'
  have hi:i < its.length:=(Zap.mp hP').1
  have hb:(bs.map V.bl)[i]?=some (V.bl (bs.getD i true)):=by
   rw [Zag,Zac (by omega)]
   simp [ZaD,show i < bs.length by omega]
  obtain ⟨u,hu,ru⟩:=r.get hb
  rw [hP'] at hu;cases hu
  cases ru
  exact wpAny_truthy_bool hQ
 ·have en:(List.range its.toArray.size).all (fun i=>bs.getD i true)=bs.all id:=by
   rw [List.size_toArray,←ln];exact all_range bs
  rw [en]
  refine ⟨.bl _,H,?_,rfl,q⟩
  refine I.kept fun b o e=>kk b o ?_ (Zaa _ e)
  simp
  exact Zay (Zaj e)
theorem Ez:∀ {ys:List Str}{us:List Value},Vals (ys.map V.str) us->StrsAre us ys
 | [],us,r=>by rw [List.map_nil] at r;cases r;exact .nil
 | y::ys,us,r=>by
  rw [Zah] at r
  cases r with
  | cons r1 r2 =>
   obtain ⟨t,e⟩:=r1
   subst e
   exact .cons y t (Ez r2)
theorem sE:MtR X "str.join" (fun x xs H Q=>∃ (z:Str) (p:Addr) (ys:List Str),x=.str z∧xs=[.ref p]∧SqL X.K H p (ys.map V.str)∧(ys.map (·.length)).sum+ys.length * z.length≤16777216∧Q (.str (Txt.join z ys)) H):=by
 intro pins s σ H x xs v us Q I rx rv h
 obtain ⟨z,p,ys,rfl,rfl,hq,hz,q⟩:=h
 obtain ⟨t,rfl⟩:=rx
 obtain ⟨u,rfl,ru⟩:=rv.one
 cases ru
 obtain ⟨its,r,pl,_⟩:=I.list hq
 refine join_list pl.isList (by simpa using Ez r) hz fun t' k=>⟨.str _,H,I.tok _,⟨t',rfl⟩,q⟩
theorem Hd:OpR X (compareOp .LtE) (fun x y H Q=>∃ i j,x=.str i∧y=.str j∧Q (.bl (!(decide (j.cps.toList < i.cps.toList)))) H):=by
 intro pins s σ H x y v u Q I rx ry h
 obtain ⟨i,j,rfl,rfl,q⟩:=h
 obtain ⟨t,rfl⟩:=rx
 obtain ⟨t',rfl⟩:=ry
 exact PySem.P.le_str (t7 I q rfl)
noncomputable def R8:V->Option Int->Option Int->Hp->VK->Prop:=fun x lo hi H Q=>∃ z,x=.str z∧z.length≤sizeLine∧Q (.str (Txt.slice z lo hi)) H
theorem CQ:SlR X R8:=by
 intro pins s σ H x v vl vu lo hi sl Q I rx hs pl pu h
 obtain ⟨z,rfl,hz,q⟩:=h
 obtain ⟨t,rfl⟩:=rx
 obtain ⟨o,e,c,d⟩:=hs
 refine ⟨"str",_,F.slot_str_getitem.lookup,typeIs_str _ _ _,?_⟩
 have fin:∀ t' k,EP X pins σ Q (.str (Txt.slice z lo hi) t') { s with toks:=k }:=fun t' k=>⟨.str _,H,I.tok _,⟨t',rfl⟩,q⟩
 cases pl with
 | none =>
  cases pu with
  | none=>exact wpAny_getItem_str_slice (l:=none) (u:=none) (st:=none) ⟨o,e,c,d⟩ rfl (post_val_or_str ⟨Zad (Txt.slice_le z _ _) hz,fin⟩)
  | int j u=>exact wpAny_getItem_str_slice (l:=none) (u:=some (j,u)) (st:=none) ⟨o,e,c,d⟩ rfl (post_val_or_str ⟨Zad (Txt.slice_le z _ _) hz,fin⟩)
 | int i t2 =>
  cases pu with
  | none=>exact wpAny_getItem_str_slice (l:=some (i,t2)) (u:=none) (st:=none) ⟨o,e,c,d⟩ rfl (post_val_or_str ⟨Zad (Txt.slice_le z _ _) hz,fin⟩)
  | int j u=>exact wpAny_getItem_str_slice (l:=some (i,t2)) (u:=some (j,u)) (st:=none) ⟨o,e,c,d⟩ rfl (post_val_or_str ⟨Zad (Txt.slice_le z _ _) hz,fin⟩)
noncomputable def stepV (xs:List V) (lo hi st:Option Int):List V:=(sliceRange (sliceBounds lo hi st xs.length).1 (sliceBounds lo hi st xs.length).2.1 (sliceBounds lo hi st xs.length).2.2).filterMap (xs[·]?)
theorem uf {xs:List V}{its:List Value} (r:Vals xs its):∀ js:List Nat,Vals (js.filterMap (xs[·]?)) (js.filterMap (its[·]?))
 | []=>.nil
 | j::js=>by
  cases e:xs[j]? with
  | none =>
   rw [Zbc e,Zbc (r.none_of e)]
   exact uf r js
  | some v =>
   obtain ⟨u,hu,ru⟩:=r.get e
   rw [Zbd e,Zbd hu]
   exact .cons ru (uf r js)
end
structure bY (K:PySem.W.Frag) (mg:Str->Option Value) (x:Str) (st:Stmt) (ps:List Str):Prop where
 ex:∃ (f:Addr) (fd:FuncData),mg x=some (.ref f)∧Fun K x x st f fd∧Binds K fd ps []
noncomputable def FnAt (P:Program) (w:World) (K:PySem.W.Frag) (mg:Str->Option Value) (base:Heap) (x:Str) (k:Nat) (ps:List Str) (sp:Sp):Prop :=
 ∃ (f:Addr) (fd:FuncData),mg x=some (.ref f)∧PySem.W.keepIn K (.ref f)=true∧Binds K fd ps []∧lr P w K mg base CX0 k f fd ps sp
theorem bY.ok {P:Program}{w:World}{K:PySem.W.Frag}{mg:Str->Option Value}{base:Heap}{x:Str}{st:Stmt}{ps N:List Str}{k:Nat}{sp:Sp} (D:bY K mg x st ps) (S:bZ N ps (aL st)) (len:∀ vs H Q E,sp vs H Q E->vs.length=ps.length)
  (hbody:∀ (f:Addr) (cdv:Value) (A:Around) (outer:List Env) (s:Shared) (H:Hp) (vs:List V) (Q:VK) (E:XK),eX k (A.deeper (envOfC x (aL st) s.heap.objs.size f cdv))->sp vs H Q E ->
   ∃ t,PSs (ud CX0 P w K mg base N x (aL st) f cdv A outer s H E).nox (bQ st) t∧t { nx:=fun _ H'=>Q .non H',rt:=Q } (start N vs) H):FnAt P w K mg base x (k+1) ps sp:=by
 obtain ⟨f,fd,e,F,b⟩:=D.ex
 exact ⟨f,fd,e,F.kp,b,F.ok S len fun cdv A outer s H vs Q E=>hbody f cdv A outer s H vs Q E⟩
section
variable {X:Cx}{k:Nat}{ps:List Str}{sp:Sp}{x:Str}{p pos:Pos}{e:Expr}{es:List Expr}{t:TA}
theorem bN (G:FnAt X.prog X.w X.K X.mg X.base x k ps sp) (hr:eX k X.A) (hg:Gl X x) (ha:PA X (e::es) t) (hdb:(x == ("__debug__":Str))=false:=by decide)
  (he:starEach (e::es) X.env=(false,eval e X.env)::starEach es X.env:=by rfl) (hpl:(backTo pos (starEach es X.env)).any (·.1)=false:=by rfl):PE X (.Call (.Name x p) (e::es) [] pos) (qF sp [] E0 t):=by
 obtain ⟨f,fd,e1,e2,e3,e4⟩:=G
 exact Et e4 hr hg e1 e2 e3 .nil R5 ha hdb he hpl
end
section
variable {X:Cx}{N:List Str}{scope:Scope}{cl:List (Str×Addr)}{C:Addr}{s2:Shared}{H2:Hp}{fp:List Addr}{x:Str}{pos:Pos}
theorem pvl (i:Nat) (hN:N[i]?=some x:=by rfl) (hv:scope.names.lookup x=some .local:=by rfl) (hd:(x == ("__debug__":Str))=false:=by decide) (hcd:(x == ("__classdict__":Str))=false:=by decide) :
  PE (X.comp N scope cl C s2 H2 fp) (.Name x pos) (qU i):=Cr hN (.inl (jx (by decide) hv)) hd hcd
theorem pvf (i:Nat) (hN:N[i]?=some x:=by rfl) (hv:scope.names.lookup x=some .free:=by rfl) (hd:(x == ("__debug__":Str))=false:=by decide) (hcd:(x == ("__classdict__":Str))=false:=by decide) :
  PE (X.comp N scope cl C s2 H2 fp) (.Name x pos) (qU i):=Cr hN (.inr (sy hv)) hd hcd
theorem glc (h:scope.names.lookup x=some .globalImplicit):Gl (X.comp N scope cl C s2 H2 fp) x:=jx (by decide) h
theorem jH {i:Nat} (hN:N.Nodup) (hi:N[i]?=some x) (hx:scope.names.lookup x=some .local):PG (X.comp N scope cl C s2 H2 fp) (.Name x pos) (uD i) :=
 cQ hN hi (.inl (jx (by decide) hx)) (.inr (jx (by decide) hx))
end
section
variable {X:Cx}{x:Str}{i:Int}{z:Str}{pos:Pos}
theorem Jj (hg:Gl X x) (h:∃ t,X.mg x=some (.int i t)) (hd:(x == ("__debug__":Str))=false:=by decide):PE X (.Name x pos) (tC (.int i)):=by
 obtain ⟨t,h⟩:=h
 exact yI hg h ⟨t,rfl⟩ hd
theorem xR (hg:Gl X x) (h:∃ t,X.mg x=some (.str z t)) (hd:(x == ("__debug__":Str))=false:=by decide):PE X (.Name x pos) (tC (.str z)):=by
 obtain ⟨t,h⟩:=h
 exact yI hg h ⟨t,rfl⟩ hd
theorem Al {n:String} (hg:Gl X x) (hm:X.mg x=none) (hv:bootBuiltins x=some (.type n)) (hn:x≠"__name__":=by decide) (hd:(x == ("__debug__":Str))=false:=by decide):PE X (.Name x pos) (tC (.ty n)) :=
 Lj hg hm hv rfl hn hd
end
theorem tyL {K:PySem.W.Frag}{H:Hp}{p:Addr}{xs:List V} (h:H p=some (.lst xs)):tyV K "list" (.ref p) H:=.inl ⟨rfl,xs,SqL.of h⟩
theorem fC {H:Hp}{p:Addr}{o:HO} (h:H p=none):bh H (upd H p o):=fun b u e=>by rw [aO (b8 e h)];exact e
theorem Hf {H H1:Hp}{p:Addr}{o:HO} (h:H p=none) (s:bh H H1):bh H (upd H1 p o):=fun b u e=>by rw [aO (b8 e h)];exact s b u e
theorem bh.tup {K:PySem.W.Frag}{H H':Hp}{a:Addr}{xs:List V} (e:bh H H') (h:SqT K H a xs):SqT K H' a xs:=by
 rcases h with (h | ⟨o,h⟩) | h
 ·exact .inl (.inl (e _ _ h))
 ·exact .inl (.inr ⟨o,e _ _ h⟩)
 ·exact .inr h
theorem Am {α:Type}{xs:List α}{i:Int} (h0:0≤i) (h:i < xs.length):∃ v,atI xs i=some v∧xs[i.toNat]?=some v:=by
 have hl:i.toNat < xs.length:=by omega
 refine ⟨xs[i.toNat],?_,by simp [hl]⟩
 have:=mZ (xs:=xs) (j:=i.toNat) (v:=xs[i.toNat]) (by simp [hl])
 rwa [Za0 h0] at this
theorem tyS {K:PySem.W.Frag}{H:Hp}{z:Str}:tyV K "str" (.str z) H:=rfl
theorem Jk {K:PySem.W.Frag}{T:String}:PySem.W.kitOne K (.type T) (.type T)=some true:=by
 unfold PySem.W.kitOne
 rw [if_pos (by simp)]
noncomputable def T3 (J:It) (g:TG) (tb:TS) (D:Ends) (σ:St) (H:Hp):Prop:=∃ W:Nat->Nat->St->Hp->Prop,(∃ m,W 0 m σ H)∧∀ i m σ H,W i m σ H ->
 (J.stop i H∧D.nx σ H)∨(J.go i H∧∃ N:St->Hp->Prop,(∀ σ' H',N σ' H'->∃ m',m' < m∧W (i+1) m' σ' H')∧∀ x H',J.yld i H x H'->g x σ H' fun σ2 H2=>tb { D with nx:=N,ct:=N,bk:=D.nx } σ2 H2)
section
variable {D:Ends}{σ:St}{H:Hp}{Q:VK}{QB:Bool->Hp->Prop}{QA:List V->Hp->Prop}{QS:St->Hp->Prop}{R:It->Hp->Prop}{t u:TS}{ta tb tc te:TE}{c c2:TT}{tA:TA}{g:TG}{gs:TGs}{wi:TI}{r r':R2}{i n:Nat}{v x y:V}{xs:List V}{sp:Sp}{dvs:List V}{E:XK}{K:PySem.W.Frag}
end
section
variable {X:Cx}{e es:Expr}{te:TE}{lo hi:Option Expr}{tl th ts:TO}{pos p2:Pos}
noncomputable def R9 (K:PySem.W.Frag) (te:TE) (tl th ts:TO):TE:=fun σ H Q=>te σ H fun x H1=>tl σ H1 fun l H2=>th σ H2 fun u H3=>ts σ H3 fun k H4 =>
 ∃ a xs,x=.ref a∧SqL K H4 a xs∧k≠some 0∧∀ p,H4 p=none->Q (.ref p) (upd H4 p (.lst (stepV xs l u k)))
theorem Hg (he:PE X e te) (hl:PO X lo tl) (hu:PO X hi th) (hst:PO X (some es) ts):PE X (.Subscript e (.Slice lo hi (some es) p2) pos) (R9 X.K te tl th ts):=by
 intro pins s σ H Q I h
 refine Subscript_ (thn (he pins s σ H _ I h) fun v s1 ⟨x,H1,I1,r1,q1⟩=>?_)
 refine wpAny_Slice (thn (hl pins s1 σ H1 _ I1 q1) fun vl s2 ⟨l,H2,I2,pl,q2⟩=>thn (hu pins s2 σ H2 _ I2 q2) fun vu s3 ⟨u,H3,I3,pu,q3⟩=>thn (hst pins s3 σ H3 _ I3 q3) fun vs s4 ⟨k,H4,I4,pk,q4⟩=>?_)
 obtain ⟨a,xs,rfl,hx,hk,q⟩:=q4
 cases r1
 have I5:Inv X pins σ H4 { s4 with heap:=s4.heap.push { cls:=.type "slice",data:=.fields #[vl,vu,vs] } }:=I4.kept (t':=s4.toks) fun b ob q=>Zaa _ q
 obtain ⟨its,r,ht,hz⟩:=I5.list hx
 have hlen:=r.length
 show wpAny (model X.prog X.w) X.A (subscriptTail e (.Slice lo hi (some es) p2) (.ref a) (.ref s4.heap.objs.size)) (EP X pins σ Q) X.xe { s4 with heap:=s4.heap.push { cls:=.type "slice",data:=.fields #[vl,vu,vs] } }
 refine tail_any (ops:=[.ref a,.ref s4.heap.objs.size]) ht.isList.typeIs slot_list_getitem.lookup (wpAny_getItem_list_slice ht.isList (Heap.IsSliceOf.new ..) pl pu pk hk ?_ (by rw [List.size_toArray] <;> omega)) (by with_unfolding_all rfl)
 have ep:slicePick its.toArray l u k=((sliceRange (sliceBounds l u k xs.length).1 (sliceBounds l u k xs.length).2.1 (sliceBounds l u k xs.length).2.2).filterMap (its[·]?)).toArray:=by
  unfold slicePick
  rw [List.size_toArray,←hlen]
  simp
 rw [ep]
 refine ⟨.ref (s4.heap.push { cls:=.type "slice",data:=.fields #[vl,vu,vs] }).objs.size,_,I5.laid (t':=s4.toks) (o:=.lst (stepV xs l u k)) (fun b ob q=>Zaa _ q) (Zaf _) ?_,rfl,q _ (I5.hok.fresh (Zaf _))⟩
 have rp:=uf r (sliceRange (sliceBounds l u k xs.length).1 (sliceBounds l u k xs.length).2.1 (sliceBounds l u k xs.length).2.2)
 refine ⟨?_,_,0,rp,Zam _ rfl⟩
 have:=slicePick_size_le its.toArray l u k
 rw [ep,List.size_toArray,List.size_toArray,←rp.length] at this
 exact Zad this (by omega)
end
section
variable {σ:St}{H:Hp}{Q:VK}{te:TE}{tl th ts:TO}{K:PySem.W.Frag}{x y:V}
end
noncomputable def bi (b:Bool):Int:=if b then 1 else 0
theorem P0 {n:Nat}{i:Int} (h0:0≤i) (h:i < n):ixN n i=some i.toNat:=by
 unfold ixN
 rw [if_pos h0,if_pos h]
noncomputable def SameBut (p:Addr) (H H':Hp):Prop:=∀ b o,H b=some o->b≠p->H' b=some o
theorem SameBut.refl (p:Addr) (H:Hp):SameBut p H H:=fun _ _ e _=>e
theorem bh.but {H H':Hp} (p:Addr) (s:bh H H'):SameBut p H H':=fun b o e _=>s b o e
theorem SameBut.upd {H H1:Hp}{p:Addr}{o:HO} (s:SameBut p H H1):SameBut p H (upd H1 p o):=fun b u e n=>by rw [aO n];exact s b u e n
theorem SameBut.new {H H1:Hp}{p q:Addr}{o:HO} (s:SameBut p H H1) (h:H q=none):SameBut p H (L2.upd H1 q o):=fun b u e n=>by rw [aO (b8 e h)];exact s b u e n
theorem SameBut.trans {p:Addr}{H H1 H2:Hp} (a:SameBut p H H1) (b:SameBut p H1 H2):SameBut p H H2:=fun c o e n=>b c o (a c o e n) n
theorem SameBut.tup {K:PySem.W.Frag}{H H':Hp}{p a:Addr}{xs ys:List V} (e:SameBut p H H') (hp:H p=some (.lst ys)) (h:SqT K H a xs):SqT K H' a xs:=by
 rcases h with (h | ⟨o,h⟩) | h
 ·exact .inl (.inl (e _ _ h (Jc h hp (by intro z;cases z))))
 ·exact .inl (.inr ⟨o,e _ _ h (Jc h hp (by intro z;cases z))⟩)
 ·exact .inr h
section
variable {X:Cx}{N:List Str}{scope:Scope}{cl:List (Str×Addr)}{C:Addr}{s2:Shared}{H2:Hp}{fp:List Addr}
end
inductive EqR (K:PySem.W.Frag) (H:Hp):Nat->V->V->Bool->Prop
 | flat {n:Nat}{x y:V}:Om x=true->Om y=true->EqR K H n x y (eqV x y)
 | tup {n:Nat}{a b:Addr}{xs ys:List V} (e:Nat->Bool) {r:Bool}:SqT K H a xs->SqT K H b ys->(∀ (j:Nat) x y,xs[j]?=some x->ys[j]?=some y->EqR K H n x y (e j)) ->
   r=((List.range (min xs.length ys.length)).all e && xs.length == ys.length)->(a=b->r=true)->EqR K H (n+1) (.ref a) (.ref b) r
 | lst {n:Nat}{a b:Addr}{xs ys:List V} (e:Nat->Bool) {r:Bool}:SqL K H a xs->SqL K H b ys->xs.length=ys.length->(∀ (j:Nat) x y,xs[j]?=some x->ys[j]?=some y->EqR K H n x y (e j)) ->
   r=(List.range xs.length).all e->(a=b->r=true)->EqR K H (n+1) (.ref a) (.ref b) r
 | lens {n:Nat}{a b:Addr}{xs ys:List V}:SqL K H a xs->SqL K H b ys->xs.length≠ys.length->EqR K H (n+1) (.ref a) (.ref b) false
section
variable {X:Cx}{pins:List (Addr×Obj)}{σ:St}{H:Hp}{s:Shared}
theorem sG {xs:List V}{its:List Value} (r:Vals xs its) {j:Nat} (h:j < its.toArray.size):∃ x,xs[j]?=some x∧RelV x its.toArray[j]:=by
 have hl:j < its.length:=by simpa using h
 have hx:j < xs.length:=by rw [r.length];exact hl
 obtain ⟨u,hu,ru⟩:=r.get (i:=j) (x:=xs[j]) (by simp [hx])
 refine ⟨xs[j],by simp [hx],?_⟩
 have:its.toArray[j]=u:=by
  rw [Zac hl] at hu
  simpa using hu
 rw [this];exact ru
end
section
variable {X:Cx}{k:Nat}
theorem CT {A:Around} (hr:eX k A):A.units+32 < cLine:=Nat.lt_of_le_of_lt (Nat.add_le_add_left (by decide:32≤64) _) hr.units
end
noncomputable def yR (H:Hp) (xs:List V) (ps:List (Int×Int)):Prop:=xs.length=ps.length∧∀ (j:Nat) (c:Int×Int),ps[j]?=some c->∃ a,xs[j]?=some (.ref a)∧H a=some (.tup [.int c.1,.int c.2])
section
variable {κ:Type} [DecidableEq κ]
noncomputable def sI (kvs:List (κ×V)) (k:κ):Option V:=(kvs.find? fun kv=>decide (kv.1=k)).map (·.2)
noncomputable def putK (kvs:List (κ×V)) (k:κ) (v:V):List (κ×V) :=
 if (kvs.any fun kv=>decide (kv.1=k))=true then kvs.map (fun kv=>if kv.1=k then (kv.1,v) else kv) else kvs++[(k,v)]
noncomputable def xT (kvs:List (κ×V)) (k:κ):List (κ×V):=kvs.filter fun kv=>decide (kv.1≠k)
theorem sJ {p:κ×V}{r:List (κ×V)}{k:κ} (e:p.1=k):sI (p::r) k=some p.2:=by simp [sI,ZbG,e]
theorem pC {p:κ×V}{r:List (κ×V)}{k:κ} (e:¬p.1=k):sI (p::r) k=sI r k:=by simp [sI,ZbG,e]
theorem An (k:κ):∀ kvs:List (κ×V),(kvs.any fun kv=>decide (kv.1=k))=(sI kvs k).isSome
 | []=>rfl
 | p::r=>by
  rw [ZbJ]
  by_cases e:p.1=k
  ·simp only [sJ e,decide_eq_true e,Bool.true_or,Option.isSome_some]
  ·rw [pC e,decide_eq_false e,Bool.false_or];exact An k r
theorem uE (kvs:List (κ×V)) (k:κ) (v:V):(putK kvs k v).length≤kvs.length+1:=by
 unfold putK
 split
 ·rw [List.length_map];omega
 ·rw [List.length_append,Zak,ZaR];omega
theorem rR.Hh {o:Option V}{u:Option Value} (r:rR o u):o.isSome=u.isSome:=by
 cases o with
 | none=>cases u with
  | none=>rfl
  | some _=>exact (show False from r).elim
 | some _=>cases u with
  | none=>exact (show False from r).elim
  | some _=>rfl
theorem rR.getD {o:Option V}{u:Option Value}{d:V}{d':Value} (r:rR o u) (rd:RelV d d'):RelV (o.getD d) (u.getD d'):=by
 cases o with
 | none=>cases u with
  | none=>exact rd
  | some _=>exact (show False from r).elim
 | some _=>cases u with
  | none=>exact (show False from r).elim
  | some _=>exact r
theorem KV.val {kvs:List (κ×V)}{vs:List (κ×Value)} (r:KV kvs vs) (k:κ):rR (sI kvs k) (valueAt vs k):=by
 unfold KV at r
 induction r with
 | nil=>exact True.intro
 | @cons p q ps qs h t ih =>
  obtain ⟨h1,h2⟩:=h
  by_cases e:p.1=k
  ·have e':q.1=k:=h1.symm.trans e
   have b:valueAt (q::qs) k=some q.2:=by simp [valueAt,ZbG,e']
   rw [sJ e,b];exact h2
  ·have e':¬q.1=k:=fun z=>e (h1.trans z)
   have b:valueAt (q::qs) k=valueAt qs k:=by simp [valueAt,ZbG,e']
   rw [pC e,b];exact ih
theorem KV.any {kvs:List (κ×V)}{vs:List (κ×Value)} (r:KV kvs vs) (k:κ):(kvs.any fun kv=>decide (kv.1=k))=vs.any fun kv=>decide (kv.1=k):=by
 unfold KV at r
 induction r with
 | nil=>rfl
 | cons h t ih=>rw [ZbJ,ZbJ,ih,h.1]
theorem KV.repl {kvs:List (κ×V)}{vs:List (κ×Value)} (r:KV kvs vs) (k:κ) {y:V}{u:Value} (ry:RelV y u) :
  KV (kvs.map fun kv=>if kv.1=k then (kv.1,y) else kv) (vs.map fun kv=>if kv.1=k then (kv.1,u) else kv):=by
 unfold KV at r ⊢
 induction r with
 | nil=>exact .nil
 | @cons p q ps qs h t ih =>
  rw [Zah,Zah]
  refine .cons ?_ ih
  obtain ⟨h1,h2⟩:=h
  by_cases e:p.1=k
  ·rw [if_pos e,if_pos (h1.symm.trans e)];exact ⟨h1,ry⟩
  ·rw [if_neg e,if_neg (fun z=>e (h1.trans z))];exact ⟨h1,h2⟩
theorem KV.put {kvs:List (κ×V)}{vs:List (κ×Value)} (r:KV kvs vs) (k:κ) {y:V}{u:Value} (ry:RelV y u):KV (putK kvs k y) (stored vs k u):=by
 unfold putK stored
 rw [r.any k]
 by_cases e:(vs.any fun kv=>decide (kv.1=k))=true
 ·rw [if_pos e,if_pos e];exact r.repl k ry
 ·rw [if_neg e,if_neg e];exact Paired.snoc r ⟨rfl,ry⟩
theorem KV.drop {kvs:List (κ×V)}{vs:List (κ×Value)} (r:KV kvs vs) (k:κ):KV (xT kvs k) (without vs k):=by
 unfold KV at r ⊢
 unfold xT without
 induction r with
 | nil=>exact .nil
 | @cons p q ps qs h t ih =>
  obtain ⟨h1,h2⟩:=h
  rw [ZaY,ZaY]
  by_cases e:p.1=k
  ·have a:¬decide (p.1≠k)=true:=by simp [e]
   have b:¬decide (q.1≠k)=true:=by simp [h1.symm.trans e]
   rw [if_neg a,if_neg b];exact ih
  ·have e':¬q.1=k:=fun z=>e (h1.trans z)
   have a:decide (p.1≠k)=true:=by simp [e]
   have b:decide (q.1≠k)=true:=by simp [e']
   rw [if_pos a,if_pos b];exact .cons ⟨h1,h2⟩ ih
theorem KV.keys {kvs:List (κ×V)}{vs:List (κ×Value)} (r:KV kvs vs):kvs.map (·.1)=vs.map (·.1):=by
 unfold KV at r
 induction r with
 | nil=>rfl
 | cons h t ih=>rw [Zah,Zah,ih,h.1]
theorem KV.length {kvs:List (κ×V)}{vs:List (κ×Value)} (r:KV kvs vs):kvs.length=vs.length:=Paired.length r
end
theorem Oq {P:Program}{w:World}{k:Key}{u:Value} (r:RelV (kV k) u):(fJ P w).is k u=true:=by
 cases k with
 | inl i=>obtain ⟨t,e⟩:=(show ∃ t,u=Value.int i t from r);subst e;exact z8 P w i t
 | inr x=>obtain ⟨t,e⟩:=(show ∃ t,u=Value.str x t from r);subst e;exact z9 P w x t
theorem xU {P:Program}{w:World}:∀ {ks:List Key}{us:List Value},Vals (ks.map kV) us->ItemsAre (fJ P w) ks us
 | [],_,r=>by rw [List.map_nil] at r;cases r;exact .nil
 | k::ks,_,r=>by
  rw [Zah] at r
  cases r with
  | cons h t=>exact .cons (Oq h) (xU t)
noncomputable abbrev KT (H:Hp):List (List Key×V)->List (List Key×Addr×Value)->Prop:=Paired fun p q=>p.1=q.1∧H q.2.1=some (.tup (p.1.map kV))∧RelV p.2 q.2.2
theorem KT.val {H:Hp}{kvs:List (List Key×V)}{xs:List (List Key×Addr×Value)} (r:KT H kvs xs) (k:List Key):rR (sI kvs k) ((atKey xs k).map (·.2)):=by
 induction r with
 | nil=>exact True.intro
 | @cons p q ps qs h t ih =>
  obtain ⟨h1,_,h2⟩:=h
  by_cases e:p.1=k
  ·have e':q.1=k:=h1.symm.trans e
   have b:atKey (q::qs) k=some q.2:=by simp [atKey,ZbG,e']
   rw [sJ e,b];exact h2
  ·have e':¬q.1=k:=fun z=>e (h1.trans z)
   have b:atKey (q::qs) k=atKey qs k:=by simp [atKey,ZbG,e']
   rw [pC e,b];exact ih
theorem KT.repl {H:Hp}{kvs:List (List Key×V)}{xs:List (List Key×Addr×Value)} (r:KT H kvs xs) (k:List Key) {y:V}{u:Value} (ry:RelV y u) :
  KT H (kvs.map fun kv=>if kv.1=k then (kv.1,y) else kv) (xs.map (putAt k u)):=by
 induction r with
 | nil=>exact .nil
 | @cons p q ps qs h t ih =>
  rw [Zah,Zah]
  refine .cons ?_ ih
  obtain ⟨h1,h2,h3⟩:=h
  unfold putAt
  by_cases e:p.1=k
  ·rw [if_pos e,if_pos (h1.symm.trans e)];exact ⟨h1,h2,ry⟩
  ·rw [if_neg e,if_neg (fun z=>e (h1.trans z))];exact ⟨h1,h2,h3⟩
theorem KT.put {H:Hp}{kvs:List (List Key×V)}{xs:List (List Key×Addr×Value)} (r:KT H kvs xs) (k:List Key) {b:Addr}{y:V}{u:Value} (hb:H b=some (.tup (k.map kV))) (ry:RelV y u) :
  KT H (putK kvs k y) (storedH xs k b u):=by
 have e:(kvs.any fun kv=>decide (kv.1=k))=(atKey xs k).isSome:=by
  rw [An,(r.val k).Hh,Option.isSome_map]
 unfold putK storedH
 rw [e]
 by_cases q:(atKey xs k).isSome=true
 ·rw [if_pos q,if_pos q];exact r.repl k ry
 ·rw [if_neg q,if_neg q];exact Paired.snoc r ⟨rfl,hb,ry⟩
theorem KT.keeps {H H':Hp}{kvs:List (List Key×V)}{xs:List (List Key×Addr×Value)} (r:KT H kvs xs) (ht:∀ b ys,H b=some (.tup ys)->H' b=some (.tup ys)):KT H' kvs xs :=
 Paired.Pj r fun _ _ z=>⟨z.1,ht _ _ z.2.1,z.2.2⟩
section
variable {P:Program}{w:World}{H:Hp}{h:Heap}{a:Addr}
theorem Ot {u:HO} (ok:HOk P w H h) (e:Rd H a u):dM P w H h a u:=e.ok ok
theorem Ou {kvs:List (Key×V)} (ok:HOk P w H h) (e:Rd H a (.dK kvs)):kvs.length≤sizeLine∧(a == sysModules)=false∧∃ vs,KV kvs vs∧h.DictOf (fJ P w) a vs :=
 show dM P w H h a (.dK kvs) from Ot ok e
theorem Sd {kvs:List (Key×V)} (ok:HOk P w H h) (e:H a=some (.dK kvs)):kvs.length≤sizeLine∧(a == sysModules)=false∧∃ vs,KV kvs vs∧h.DictOf (fJ P w) a vs:=Ou ok (.inl e)
theorem Jl {ks:List Key} (ok:HOk P w H h) (e:H a=some (.tup (ks.map kV))):(tupleKind (fJ P w)).is h ks a:=by
 obtain ⟨_,its,r,⟨o,h1,h2,n,h3⟩,_⟩:=(show dM P w H h a (.tup (ks.map kV)) from ok a _ e)
 exact ⟨o,its.toArray,n,h1,h2,h3,by simpa using xU r⟩
theorem Sg {kvs:List (List Key×V)} (ok:HOk P w H h) (e:Rd H a (.dT kvs)):kvs.length≤sizeLine∧(a == sysModules)=false ∧
  ∃ xs,KT H kvs xs∧h.DictOfH (tupleKind (fJ P w)) a xs:=by
 obtain ⟨z,y,xs,r,o,es,ep,h1,h2,h3,h4,h5⟩:=(show dM P w H h a (.dT kvs) from Ot ok e)
 refine ⟨z,y,xs,r,o,es,ep,h1,h2,h3,h4,fun x hx=>?_,h5⟩
 have all:∀ {l:List (List Key×V)}{m:List (List Key×Addr×Value)},KT H l m->∀ x∈m,(tupleKind (fJ P w)).is h x.1 x.2.1:=by
  intro l m q
  induction q with
  | nil=>intro x hx;exact nomatch hx
  | @cons p q ps qs hq t ih =>
   intro x hx
   rcases Zao.mp hx with e | hx
   ·subst e
    exact Jl ok (by rw [←hq.1];exact hq.2.1)
   ·exact ih x hx
 exact all r x hx
theorem Sh {kvs:List (List Key×V)} (ok:HOk P w H h) (e:H a=some (.dT kvs)):kvs.length≤sizeLine∧(a == sysModules)=false ∧
  ∃ xs,KT H kvs xs∧h.DictOfH (tupleKind (fJ P w)) a xs:=Sg ok (.inl e)
end
noncomputable def LK (H:Hp) (a:Addr) (y:V) (r:Option V):Prop :=
 (∃ kvs k,Rd H a (.dK kvs)∧y=kV k∧r=sI kvs k)∨∃ kvs k b,Rd H a (.dT kvs)∧y=.ref b∧H b=some (.tup (k.map kV))∧r=sI kvs k
noncomputable def uT (H:Hp) (a:Addr) (y v:V) (H':Hp):Prop :=
 (∃ kvs k,H a=some (.dK kvs)∧y=kV k∧kvs.length < sizeLine∧H'=upd H a (.dK (putK kvs k v))) ∨
 ∃ kvs k b,H a=some (.dT kvs)∧y=.ref b∧H b=some (.tup (k.map kV))∧kvs.length < sizeLine∧H'=upd H a (.dT (putK kvs k v))
theorem LK.k {H:Hp}{a:Addr}{kvs:List (Key×V)}{k:Key} (e:H a=some (.dK kvs)):LK H a (kV k) (sI kvs k):=.inl ⟨kvs,k,.inl e,rfl,rfl⟩
theorem LK.t {H:Hp}{a b:Addr}{kvs:List (List Key×V)}{k:List Key} (e:H a=some (.dT kvs)) (eb:H b=some (.tup (k.map kV))):LK H a (.ref b) (sI kvs k):=.inr ⟨kvs,k,b,.inl e,rfl,eb,rfl⟩
theorem uT.k {H:Hp}{a:Addr}{kvs:List (Key×V)}{k:Key}{v:V} (e:H a=some (.dK kvs)) (hl:kvs.length < sizeLine):uT H a (kV k) v (upd H a (.dK (putK kvs k v))):=.inl ⟨kvs,k,e,rfl,hl,rfl⟩
theorem uT.t {H:Hp}{a b:Addr}{kvs:List (List Key×V)}{k:List Key}{v:V} (e:H a=some (.dT kvs)) (eb:H b=some (.tup (k.map kV))) (hl:kvs.length < sizeLine) :
  uT H a (.ref b) v (upd H a (.dT (putK kvs k v))):=.inr ⟨kvs,k,b,e,rfl,eb,hl,rfl⟩
section
variable {X:Cx}{pins:List (Addr×Obj)}{σ:St}{H:Hp}{s:Shared}{a:Addr}{y v:V}{u r:Value}{o:Option V}{A:Around}{E:Value->Shared->Prop}
theorem Inv.big (I:Inv X pins σ H s):sysModules < s.heap.objs.size:=by
 have h:mainGlobals < s.heap.objs.size:=(I.mod.glob.keeps I.bk).lt
 exact Nat.lt_trans (by decide) h
theorem EY {h':Heap}{t':Nat}{ob:HO} (I:Inv X pins σ H s) (mu:Mut (H a)) (hs:Heap.SameBut a s.heap h') (he:∃ q,h'.get? a=some q) (new:dM X.prog X.w (upd H a ob) h' a ob) :
  Inv X pins σ (upd H a ob) { s with heap:=h',toks:=t' } :=
 I.write (x:=a) (e:=a) mu (.inl rfl) (fun b q hb z=>(hs.2 b hb).trans z) he new
theorem Qa {P:Program}{w:World}{H':Hp}{h':Heap}{kvs:List (Key×V)}{vs:List (Key×Value)} (z:kvs.length≤sizeLine) (hd:(a == sysModules)=false) (rel:KV kvs vs) (dd:h'.DictOf (fJ P w) a vs) :
  dM P w H' h' a (.dK kvs):=⟨z,hd,vs,rel,dd⟩
end
section
variable {X:Cx}{pins:List (Addr×Obj)}{σ:St}{H:Hp}{s:Shared}{a:Addr}{kvs:List (Key×V)}{k:Key}{u:Value}{A:Around}{E:Value->Shared->Prop}
theorem Sq {Q:Value->Shared->Prop} (I:Inv X pins σ H s) (e:Rd H a (.dK kvs)) (h:∀ t s',Inv X pins σ H s'->Q (.int kvs.length t) s'):wpAny (model X.prog X.w) A (call (.builtin "len") [.ref a]) Q E s:=by
 obtain ⟨z,hd,vs,rel,dd⟩:=Ou I.hok e
 refine call_len_dict hd dd (by rw [←rel.length];rw [sizeLine_eq] at z;omega) ?_
 rw [←rel.length]
 exact h _ _ (I.tok _)
end
section
variable {X:Cx}{o i e value:Expr}{pos pos' tpos:Pos}{td ty tv:TE}
end
theorem Jm {P:Program}{w:World}{H:Hp} (h:Heap) (hb:sysModules < h.objs.size):dM P w H (h.push { cls:=.type "dict",data:=.dict #[] }) h.objs.size (.dK []) :=
 ⟨Za9 _,beq_eq_false_iff_ne.mpr (Za4 (Zay hb)),[],.nil,Heap.DictOf.new h⟩
theorem Jo {P:Program}{w:World}{H:Hp} (h:Heap) (hb:sysModules < h.objs.size):dM P w H (h.push { cls:=.type "dict",data:=.dict #[] }) h.objs.size (.dT []) :=
 ⟨Za9 _,beq_eq_false_iff_ne.mpr (Za4 (Zay hb)),[],.nil,_,#[],0,Zam _ rfl,⟨rfl,rfl,rfl⟩,rfl,rfl,List.nodup_nil⟩
section
variable {X:Cx}{pos:Pos}
end
noncomputable def Jp:List (TE×TE)->St->Hp->(List (V×V)->Hp->Prop)->Prop
 | [],_,H,Q=>Q [] H
 | (tk,tv)::r,σ,H,Q=>tk σ H fun x H1=>tv σ H1 fun y H2=>Jp r σ H2 fun ps H3=>Q ((x,y)::ps) H3
noncomputable abbrev VV:List (V×V)->List (Value×Value)->Prop:=Paired fun p q=>RelV p.1 q.1∧RelV p.2 q.2
noncomputable def PPs (X:Cx) (pos:Pos) (keys:List (Option Expr)) (values:List Expr) (trs:List (TE×TE)):Prop :=
 ∀ (pins:List (Addr×Obj)) (s:Shared) (σ:St) (H:Hp) (Q:List (V×V)->Hp->Prop),Inv X pins σ H s->Jp trs σ H Q ->
  wpAny (model X.prog X.w) X.A (evalPairs (pairTrees keys values X.env pos)) (fun vs s'=>∃ ps H',Inv X pins σ H' s'∧VV ps vs∧Q ps H') X.xe s
structure M1 (X:Cx) (o:Expr) (m:Str) (apos:Pos) (e:Expr) (cpos:Pos):Prop where
 base:attributeBase o m X.env (eval o X.env)=eval o X.env
 few:((backTo cpos (starEach [e] X.env)).all (fun x=>!x.1) && (backToKw cpos (keywordEach [] X.env)).all (fun x=>x.1.isSome)
  && decide (([e]:List Expr).length+([]:List Keyword).length+(if ([]:List Keyword).isEmpty then 0 else 1) < 30))=true
 line:(apos.endLine == cpos.line)=true
 trees:backTo cpos (starEach [e] X.env)=[(false,eval e X.env)]
structure M2 (X:Cx) (o:Expr) (m:Str) (apos:Pos) (e f:Expr) (cpos:Pos):Prop where
 base:attributeBase o m X.env (eval o X.env)=eval o X.env
 few:((backTo cpos (starEach [e,f] X.env)).all (fun x=>!x.1) && (backToKw cpos (keywordEach [] X.env)).all (fun x=>x.1.isSome)
  && decide (([e,f]:List Expr).length+([]:List Keyword).length+(if ([]:List Keyword).isEmpty then 0 else 1) < 30))=true
 line:(apos.endLine == cpos.line)=true
 trees:backTo cpos (starEach [e,f] X.env)=[(false,eval e X.env),(false,eval f X.env)]
noncomputable def IsD (H:Hp) (a:Addr):Prop:=(∃ kvs,Rd H a (.dK kvs))∨∃ kvs,Rd H a (.dT kvs)
section
variable {X:Cx}{pins:List (Addr×Obj)}{σ:St}{H:Hp}{s:Shared}{a:Addr}{y d:V}{u r:Value}{o:Option V}{A:Around}{E:Value->Shared->Prop}
end
section
variable {X:Cx}{o e f:Expr}{apos cpos:Pos}{td ty tx:TE}
end
section
variable {X:Cx}{pins:List (Addr×Obj)}{σ:St}{H:Hp}{s:Shared}{a:Addr}{kvs:List (Key×V)}{A:Around}{E:Value->Shared->Prop}
end
section
variable {X:Cx}{pins:List (Addr×Obj)}{σ:St}{H:Hp}{s:Shared}{a:Addr}{y:V}{u:Value}{A:Around}{E:Value->Shared->Prop}
end
end L2
namespace L2.MP
open PySem PySem.Spec PyProof.Rows
inductive PV where
 | non | bl (b:Bool) | int (i:Int) | str (x:Str) | ty (n:String)
 | tup (l:List PV) | lst (l:List PV) | dk (l:List (Key×PV)) | dt (l:List (List Key×PV))
 | exc (c:Str) (fs:List (Str×PV))
noncomputable instance:Inhabited PV:=⟨.non⟩
noncomputable def PV.flat:PV->Bool
 | .non | .bl _ | .int _ | .str _ | .ty _=>true
 | _=>false
noncomputable def vH:Nat->PV->Bool
 | 0,p=>p.flat
 | n+1,.tup l=>l.all (vH n)
 | _+1,p=>p.flat
noncomputable def PV.still (p:PV):Bool:=vH 5 p
inductive Res (α:Type) where
 | ok (a:α) | ex (z:PV)
noncomputable def bnd {α β:Type} (x:Option (Res α)) (k:α->Option (Res β)):Option (Res β):=match x with
 | some (.ok a)=>k a
 | some (.ex z)=>some (.ex z)
 | none=>none
noncomputable def XO (e C:Addr) (d:Option Addr):HO:=.ext fun h=>∃ vs:Array Value,h.get? e=some { cls:=.ref C,dict:=d,data:=.fields vs }
structure XNm (K:PySem.W.Frag) (C:Addr) (c:Str):Prop where
 ns:PySem.W.nsIn K mainGlobals c=some (some (.ref C))
 cl:∃ cd,PySem.W.clsIn K C=some cd∧cd.name=c
inductive Rep (K:PySem.W.Frag) (F:Hp):V->PV->Prop
 | non:Rep K F .non .non
 | bl {b:Bool}:Rep K F (.bl b) (.bl b)
 | int {i:Int}:Rep K F (.int i) (.int i)
 | str {x:Str}:Rep K F (.str x) (.str x)
 | ty {n:String}:Rep K F (.ty n) (.ty n)
 | tup {a:Addr}{xs:List V}{l:List PV} (h:F a=some (.tup xs)) (hl:xs.length=l.length) (hr:∀ (j:Nat) x p,xs[j]?=some x->l[j]?=some p->Rep K F x p):Rep K F (.ref a) (.tup l)
 | lst {a:Addr}{xs:List V}{l:List PV} (h:SqL K F a xs) (hl:xs.length=l.length) (hr:∀ (j:Nat) x p,xs[j]?=some x->l[j]?=some p->Rep K F x p):Rep K F (.ref a) (.lst l)
 | dk {a:Addr}{xs:List (Key×V)}{l:List (Key×PV)} (h:Rd F a (.dK xs)) (hl:xs.map (·.1)=l.map (·.1)) (hr:∀ (j:Nat) x p,xs[j]?=some x->l[j]?=some p->Rep K F x.2 p.2):Rep K F (.ref a) (.dk l)
 | dt {a:Addr}{xs:List (List Key×V)}{l:List (List Key×PV)} (h:Rd F a (.dT xs)) (hl:xs.map (·.1)=l.map (·.1)) (hr:∀ (j:Nat) x p,xs[j]?=some x->l[j]?=some p->Rep K F x.2 p.2):Rep K F (.ref a) (.dt l)
 | exc {a C dx:Addr}{c:Str}{xs:List (Str×V)}{l:List (Str×PV)} (nm:XNm K C c) (h:F a=some (XO a C (some dx))) (hd:F dx=some (.xd xs)) (hl:xs.map (·.1)=l.map (·.1)) (hr:∀ (j:Nat) x p,xs[j]?=some x->l[j]?=some p->Rep K F x.2 p.2):Rep K F (.ref a) (.exc c l)
 | exc0 {a C:Addr}{c:Str} (nm:XNm K C c) (h:F a=some (XO a C none)):Rep K F (.ref a) (.exc c [])
noncomputable def bR (K:PySem.W.Frag) (F:Hp) (xs:List V) (l:List PV):Prop:=xs.length=l.length∧∀ (j:Nat) x p,xs[j]?=some x->l[j]?=some p->Rep K F x p
section
variable {K:PySem.W.Frag}{F F' H H':Hp}{v:V}{p:PV}{xs ys:List V}{l m:List PV}
theorem _root_.L2.Rd.same {F F':Hp}{a:Addr}{u:HO} (h:Rd F a u) (s:bh F F'):Rd F' a u:=h.imp (s _ _) fun ⟨o,e⟩=>⟨o,s _ _ e⟩
theorem Rep.up (h:Rep K F v p) (s:bh F F'):Rep K F' v p:=by
 induction h with
 | non=>exact .non
 | bl=>exact .bl
 | int=>exact .int
 | str=>exact .str
 | ty=>exact .ty
 | tup h hl _ ih=>exact .tup (s _ _ h) hl ih
 | lst h hl _ ih=>exact .lst (s.seq h) hl ih
 | dk h hl _ ih=>exact .dk (h.same s) hl ih
 | dt h hl _ ih=>exact .dt (h.same s) hl ih
 | exc nm h hd hl _ ih=>exact .exc nm (s _ _ h) (s _ _ hd) hl ih
 | exc0 nm h=>exact .exc0 nm (s _ _ h)
theorem bR.up (h:bR K F xs l) (s:bh F F'):bR K F' xs l:=⟨h.1,fun j x p a b=>(h.2 j x p a b).up s⟩
theorem Rep.free (h:Rep K F v p) (hf:p.flat=true):Rep K F' v p:=by
 cases h with
 | non=>exact .non
 | bl=>exact .bl
 | int=>exact .int
 | str=>exact .str
 | ty=>exact .ty
 | tup=>cases hf
 | lst=>cases hf
 | dk=>cases hf
 | dt=>cases hf
 | exc=>cases hf
 | exc0=>cases hf
theorem bR.nil:bR K F [] []:=⟨rfl,fun j x p h=>by simp at h⟩
theorem bR.cons (h:Rep K F v p) (t:bR K F xs l):bR K F (v::xs) (p::l):=by
 refine ⟨by simp [t.1],fun j x q a b=>?_⟩
 cases j with
 | zero=>simp at a b;subst a b;exact h
 | succ j=>exact t.2 j x q (by simpa using a) (by simpa using b)
theorem bR.append (h:bR K F xs l) (t:bR K F ys m):bR K F (xs++ys) (l++m):=by
 refine ⟨by rw [List.length_append,List.length_append,h.1,t.1],fun j x p a b=>?_⟩
 by_cases hj:j < xs.length
 ·rw [Zax hj] at a
  rw [Zax (by rw [←h.1];exact hj)] at b
  exact h.2 j x p a b
 ·rw [ZaC (by omega)] at a
  rw [ZaC (by rw [←h.1];omega),←h.1] at b
  exact t.2 _ x p a b
theorem bR.snoc (h:bR K F xs l) (t:Rep K F v p):bR K F (xs++[v]) (l++[p]):=h.append (bR.nil.cons t)
theorem bR.get (h:bR K F xs l) {j:Nat} (e:l[j]?=some p):∃ x,xs[j]?=some x∧Rep K F x p:=by
 have hj:j < xs.length:=by rw [h.1];exact (Zap.mp e).1
 exact ⟨xs[j],by simp [hj],h.2 j _ p (by simp [hj]) e⟩
theorem bR.got (h:bR K F xs l) {j:Nat} (e:xs[j]?=some v):∃ p,l[j]?=some p∧Rep K F v p:=by
 have hj:j < l.length:=by rw [←h.1];exact (Zap.mp e).1
 exact ⟨l[j],by simp [hj],h.2 j v _ e (by simp [hj])⟩
theorem bR.take (h:bR K F xs l) (n:Nat):bR K F (xs.take n) (l.take n):=by
 refine ⟨by simp [h.1],fun j x p a b=>?_⟩
 rw [List.getElem?_take] at a b
 split at a
 ·rename_i hj
  rw [if_pos hj] at b
  exact h.2 j x p a b
 ·cases a
theorem bR.drop (h:bR K F xs l) (n:Nat):bR K F (xs.drop n) (l.drop n):=by
 refine ⟨by simp [h.1],fun j x p a b=>?_⟩
 rw [List.getElem?_drop] at a b
 exact h.2 _ x p a b
theorem bR.set (h:bR K F xs l) (t:Rep K F v p) (i:Nat):bR K F (xs.set i v) (l.set i p):=by
 refine ⟨by simp [h.1],fun j x q a b=>?_⟩
 rw [List.getElem?_set] at a b
 by_cases hj:i=j
 ·subst hj
  rw [if_pos rfl] at a b
  split at a
  ·rename_i hl
   rw [if_pos (by rw [←h.1];exact hl)] at b
   cases a;cases b;exact t
  ·cases a
 ·rw [if_neg hj] at a b
  exact h.2 j x q a b
theorem bR.dO (h:bR K F xs (p::l)):∃ v ys,xs=v::ys∧Rep K F v p∧bR K F ys l:=by
 obtain ⟨hl,hr⟩:=h
 match xs,hl,hr with
 | [],hl,_=>simp at hl
 | v::ys,hl,hr=>exact ⟨v,ys,rfl,hr 0 v p rfl rfl,by simpa using hl,fun j x q a b=>hr (j+1) x q (by simpa using a) (by simpa using b)⟩
theorem bR.gP (h:bR K F xs []):xs=[]:=by
 have:=h.1
 simpa using this
theorem bR.yS:∀ (ns:List Int),bR K F (ns.map V.int) (ns.map PV.int)
 | []=>.nil
 | n::ns=>(bR.yS ns).cons .int
theorem Rep.bK {i:Int} (h:Rep K F v (.int i)):v=.int i:=by cases h;rfl
theorem Rep.gQ {b:Bool} (h:Rep K F v (.bl b)):v=.bl b:=by cases h;rfl
theorem Rep.bU {z:Str} (h:Rep K F v (.str z)):v=.str z:=by cases h;rfl
theorem Rep.fK (h:Rep K F v .non):v=.non:=by cases h;rfl
theorem Rep.Qc {n:String} (h:Rep K F v (.ty n)):v=.ty n:=by cases h;rfl
theorem Rep.dz (h:Rep K F v (.tup l)):∃ a xs,v=.ref a∧SqT K F a xs∧bR K F xs l:=by cases h with | tup h hl hr=>exact ⟨_,_,rfl,SqT.of h,hl,hr⟩
theorem Rep.Jq (h:Rep K F v (.tup l)):∃ a xs,v=.ref a∧F a=some (.tup xs)∧bR K F xs l:=by cases h with | tup h hl hr=>exact ⟨_,_,rfl,h,hl,hr⟩
theorem Rep.dB (h:Rep K F v (.lst l)):∃ a xs,v=.ref a∧SqL K F a xs∧bR K F xs l:=by cases h with | lst h hl hr=>exact ⟨_,_,rfl,h,hl,hr⟩
end
structure Cf where
 io:Addr->Prop
 nw:Prop
 H0:Hp
 F0:Hp
 E:XK
inductive Sl where
 | sh (p:PV) | ow (p:PV) | dp (p:PV)
noncomputable abbrev Rho:=List (Option Sl)
noncomputable def Own (K:PySem.W.Frag) (F H:Hp) (a:Addr):PV->Prop
 | .lst l=>∃ xs,H a=some (.lst xs)∧bR K F xs l
 | .dk l=>∃ xs,H a=some (.dK xs)∧xs.map (·.1)=l.map (·.1)∧∀ (j:Nat) x p,xs[j]?=some x->l[j]?=some p->Rep K F x.2 p.2
 | .dt l=>∃ xs,H a=some (.dT xs)∧xs.map (·.1)=l.map (·.1)∧∀ (j:Nat) x p,xs[j]?=some x->l[j]?=some p->Rep K F x.2 p.2
 | _=>False
inductive Dp (K:PySem.W.Frag) (F H:Hp):(Addr->Prop)->V->PV->Prop
 | fr {P:Addr->Prop}{v:V}{p:PV} (h:Rep K F v p) (st:p.still=true):Dp K F H P v p
 | lst {P:Addr->Prop}{S:Nat->Addr->Prop}{a:Addr}{xs:List V}{l:List PV} (h:H a=some (.lst xs)) (hp:P a) (hs:∀ j b,S j b->P b∧b≠a) (dj:∀ i j b,S i b->S j b->i=j) (hl:xs.length=l.length)
   (hr:∀ (j:Nat) x p,xs[j]?=some x->l[j]?=some p->Dp K F H (S j) x p):Dp K F H P (.ref a) (.lst l)
 | tup {P:Addr->Prop}{S:Nat->Addr->Prop}{a:Addr}{xs:List V}{l:List PV} (h:H a=some (.tup xs)) (hs:∀ j b,S j b->P b) (dj:∀ i j b,S i b->S j b->i=j) (hl:xs.length=l.length)
   (hr:∀ (j:Nat) x p,xs[j]?=some x->l[j]?=some p->Dp K F H (S j) x p):Dp K F H P (.ref a) (.tup l)
 | dk {P:Addr->Prop}{S:Nat->Addr->Prop}{a:Addr}{xs:List (Key×V)}{l:List (Key×PV)} (h:H a=some (.dK xs)) (hp:P a) (hs:∀ j b,S j b->P b∧b≠a) (dj:∀ i j b,S i b->S j b->i=j) (hl:xs.map (·.1)=l.map (·.1))
   (hr:∀ (j:Nat) x p,xs[j]?=some x->l[j]?=some p->Dp K F H (S j) x.2 p.2):Dp K F H P (.ref a) (.dk l)
 | dt {P:Addr->Prop}{S:Nat->Addr->Prop}{a:Addr}{xs:List (List Key×V)}{l:List (List Key×PV)} (h:H a=some (.dT xs)) (hp:P a) (hs:∀ j b,S j b->P b∧b≠a) (dj:∀ i j b,S i b->S j b->i=j) (hl:xs.map (·.1)=l.map (·.1))
   (hr:∀ (j:Nat) x p,xs[j]?=some x->l[j]?=some p->Dp K F H (S j) x.2 p.2):Dp K F H P (.ref a) (.dt l)
section
variable {K:PySem.W.Frag}{F F' H H':Hp}{v:V}{p:PV}{P P':Addr->Prop}
theorem Dp.mono (h:Dp K F H P v p) (m:∀ b,P b->P' b):Dp K F H P' v p:=by
 cases h with
 | fr h st=>exact .fr h st
 | lst h hp hs dj hl hr=>exact .lst h (m _ hp) (fun j b q=>⟨m _ (hs j b q).1,(hs j b q).2⟩) dj hl hr
 | tup h hs dj hl hr=>exact .tup h (fun j b q=>m _ (hs j b q)) dj hl hr
 | dk h hp hs dj hl hr=>exact .dk h (m _ hp) (fun j b q=>⟨m _ (hs j b q).1,(hs j b q).2⟩) dj hl hr
 | dt h hp hs dj hl hr=>exact .dt h (m _ hp) (fun j b q=>⟨m _ (hs j b q).1,(hs j b q).2⟩) dj hl hr
theorem Dp.up (h:Dp K F H P v p) (sf:bh F F') (sh:∀ b o,P b->H b=some o->H' b=some o) (ht:∀ b ys,H b=some (.tup ys)->H' b=some (.tup ys)):Dp K F' H' P v p:=by
 induction h with
 | fr h st=>exact .fr (h.up sf) st
 | lst h hp hs dj hl _ ih=>exact .lst (sh _ _ hp h) hp hs dj hl fun j x p e1 e2=>ih j x p e1 e2 fun b o q=>sh b o (hs j b q).1
 | tup h hs dj hl _ ih=>exact .tup (ht _ _ h) hs dj hl fun j x p e1 e2=>ih j x p e1 e2 fun b o q=>sh b o (hs j b q)
 | dk h hp hs dj hl _ ih=>exact .dk (sh _ _ hp h) hp hs dj hl fun j x p e1 e2=>ih j x p e1 e2 fun b o q=>sh b o (hs j b q).1
 | dt h hp hs dj hl _ ih=>exact .dt (sh _ _ hp h) hp hs dj hl fun j x p e1 e2=>ih j x p e1 e2 fun b o q=>sh b o (hs j b q).1
theorem Dp.seen (h:Dp K F H P v p) (sf:bh F F') (sh:∀ b o,P b->H b=some o->F' b=some o) (ht:∀ b ys,H b=some (.tup ys)->F' b=some (.tup ys)):Rep K F' v p:=by
 induction h with
 | fr h st=>exact h.up sf
 | lst h hp hs dj hl _ ih=>exact .lst (SqL.of (sh _ _ hp h)) hl fun j x p e1 e2=>ih j x p e1 e2 fun b o q=>sh b o (hs j b q).1
 | tup h hs dj hl _ ih=>exact .tup (ht _ _ h) hl fun j x p e1 e2=>ih j x p e1 e2 fun b o q=>sh b o (hs j b q)
 | dk h hp hs dj hl _ ih=>exact .dk (.inl (sh _ _ hp h)) hl fun j x p e1 e2=>ih j x p e1 e2 fun b o q=>sh b o (hs j b q).1
 | dt h hp hs dj hl _ ih=>exact .dt (.inl (sh _ _ hp h)) hl fun j x p e1 e2=>ih j x p e1 e2 fun b o q=>sh b o (hs j b q).1
theorem Dp.lent (h:Dp K F H P v p) (s:bh F H):Rep K H v p:=h.seen s (fun _ _ _ e=>e) fun _ _ e=>e
end
structure RD (K:PySem.W.Frag) (C:Cf) (F H:Hp) (σ:St) (ρ:Rho) (P:Nat->Addr->Prop):Prop where
 own:∀ i b,P i b->F b=none∧(∃ o,H b=some o∧∀ ys,o≠.tup ys)∧C.nw∧C.H0 b=none
 dis:∀ i j b,P i b->P j b->i=j
 ow:∀ (i j:Nat) q b,P i b->ρ[j]?=some (some (.ow q))->σ[j]?≠some (some (.ref b))
 dp:∀ (i:Nat) p,ρ[i]?=some (some (.dp p))->∃ v,σ[i]?=some (some v)∧Dp K F H (P i) v p
theorem RD.no {K:PySem.W.Frag}{C:Cf}{F H:Hp}{σ:St}{ρ:Rho} (h:∀ (i:Nat) p,ρ[i]?≠some (some (.dp p))):RD K C F H σ ρ (fun _ _=>False) :=
 ⟨fun _ _ q=>q.elim,fun _ _ _ q=>q.elim,fun _ _ _ _ q=>q.elim,fun i p e=>absurd e (h i p)⟩
noncomputable def Frz (H:Hp) (b:Addr) (o:HO):Prop:=H b=none∨∃ ys,o=.tup ys
structure RB (C:Cf) (F H:Hp):Prop where
 sub:bh F H
 keep:∀ b o,C.H0 b=some o->¬C.io b->H b=some o
 new:∀ b o,F b=some o->C.F0 b=some o∨Frz C.H0 b o
 ios:∀ b,C.io b->H b≠none∧C.H0 b≠none
structure RE (K:PySem.W.Frag) (C:Cf) (F H:Hp) (σ:St) (ρ:Rho):Prop where
 rb:RB C F H
 len:σ.length=ρ.length
 sh:∀ (i:Nat) p,ρ[i]?=some (some (.sh p))->∃ v,σ[i]?=some (some v)∧Rep K F v p
 ow:∀ (i:Nat) p,ρ[i]?=some (some (.ow p))->∃ a,σ[i]?=some (some (.ref a))∧Own K F H a p∧F a=none∧(C.io a∨(C.nw∧C.H0 a=none))
 dis:∀ (i j:Nat) p q a,ρ[i]?=some (some (.ow p))->ρ[j]?=some (some (.ow q))->σ[i]?=some (some (.ref a))->σ[j]?=some (some (.ref a))->i=j
 dd:∃ P,RD K C F H σ ρ P
structure Up (F H F' H':Hp):Prop where
 ff:bh F F'
 hh:bh H H'
 fr:∀ b o,F' b=some o->F b=some o∨Frz H b o
 fh:bh F' H'
section
variable {K:PySem.W.Frag}{C:Cf}{F F1 F2 F' H H1 H2 H':Hp}{σ σ':St}{ρ ρ':Rho}{a:Addr}{p:PV}{v:V}
theorem Up.refl (s:bh F H):Up F H F H:=⟨bh.refl _,bh.refl _,fun _ _ h=>.inl h,s⟩
theorem Up.trans (a:Up F H F1 H1) (b:Up F1 H1 F2 H2):Up F H F2 H2 :=
 ⟨a.ff.trans b.ff,a.hh.trans b.hh,fun c o h=>(b.fr c o h).elim (a.fr c o) fun n=>.inr (n.imp (fun n=>a.hh.free n) id),b.fh⟩
theorem Own.ne (h:Own K F H a p):∃ o,H a=some o:=by
 cases p with
 | lst l=>obtain ⟨xs,e,_⟩:=h;exact ⟨_,e⟩
 | dk l=>obtain ⟨xs,e,_⟩:=h;exact ⟨_,e⟩
 | dt l=>obtain ⟨xs,e,_⟩:=h;exact ⟨_,e⟩
 | _=>exact h.elim
theorem Own.Fb {ys:List V} (h:Own K F H a p) (e:H a=some (.tup ys)):False:=by
 cases p with
 | lst l=>obtain ⟨xs,e',_⟩:=h;rw [e] at e';cases e'
 | dk l=>obtain ⟨xs,e',_⟩:=h;rw [e] at e';cases e'
 | dt l=>obtain ⟨xs,e',_⟩:=h;rw [e] at e';cases e'
 | _=>exact h.elim
theorem RD.up {P:Nat->Addr->Prop} (d:RD K C F H σ ρ P) (u:Up F H F' H'):RD K C F' H' σ ρ P where
 own:=fun i b q=>by
  obtain ⟨a1,⟨o',a2,a3⟩,a4⟩:=d.own i b q
  refine ⟨?_,⟨o',u.hh _ _ a2,a3⟩,a4⟩
  cases e:F' b with
  | none=>rfl
  | some o =>
   rcases u.fr b o e with z | z | ⟨ys,z⟩
   ·rw [a1] at z;cases z
   ·rw [a2] at z;cases z
   ·subst z
    have w:=u.fh _ _ e
    rw [u.hh _ _ a2] at w
    cases w
    exact absurd rfl (a3 ys)
 dis:=d.dis
 ow:=d.ow
 dp:=fun i p e=>let ⟨v,e1,e2⟩:=d.dp i p e;⟨v,e1,e2.up u.ff (fun b o _ q=>u.hh b o q) fun b ys q=>u.hh b _ q⟩
theorem Own.up (h:Own K F H a p) (sf:bh F F') (sh:∀ o,H a=some o->H' a=some o):Own K F' H' a p:=by
 cases p with
 | lst l=>obtain ⟨xs,e,r⟩:=h;exact ⟨xs,sh _ e,r.up sf⟩
 | dk l=>obtain ⟨xs,e,r,q⟩:=h;exact ⟨xs,sh _ e,r,fun j x p a b=>(q j x p a b).up sf⟩
 | dt l=>obtain ⟨xs,e,r,q⟩:=h;exact ⟨xs,sh _ e,r,fun j x p a b=>(q j x p a b).up sf⟩
 | _=>exact h.elim
theorem Own.frozen (h:Own K F H a p) (hn:F a=none):∃ o,H a=some o∧Rep K (upd F a o) (.ref a) p:=by
 have s:∀ o,bh F (upd F a o):=fun o=>fC hn
 cases p with
 | lst l=>obtain ⟨xs,e,r⟩:=h;exact ⟨_,e,.lst (SqL.of aX) r.1 (r.up (s _)).2⟩
 | dk l=>obtain ⟨xs,e,r,q⟩:=h;exact ⟨_,e,.dk (.inl aX) r fun j x p a b=>(q j x p a b).up (s _)⟩
 | dt l=>obtain ⟨xs,e,r,q⟩:=h;exact ⟨_,e,.dt (.inl aX) r fun j x p a b=>(q j x p a b).up (s _)⟩
 | _=>exact h.elim
theorem Own.lent (h:Own K F H a p) (s:bh F H):Rep K H (.ref a) p:=by
 cases p with
 | lst l=>obtain ⟨xs,e,r⟩:=h;exact .lst (SqL.of e) r.1 (r.up s).2
 | dk l=>obtain ⟨xs,e,r,q⟩:=h;exact .dk (.inl e) r fun j x p a b=>(q j x p a b).up s
 | dt l=>obtain ⟨xs,e,r,q⟩:=h;exact .dt (.inl e) r fun j x p a b=>(q j x p a b).up s
 | _=>exact h.elim
theorem RB.up (h:RB C F H) (u:Up F H F' H'):RB C F' H' where
 sub:=u.fh
 keep:=fun b o e n=>u.hh _ _ (h.keep b o e n)
 new:=fun b o e=>(u.fr b o e).elim (h.new b o) fun n=>.inr (n.imp (fun n=>by
  cases q:C.H0 b with
  | none=>rfl
  | some o' =>
   by_cases hi:C.io b
   ·exact absurd n (h.ios b hi).1
   ·rw [h.keep b o' q hi] at n;cases n) id)
 ios:=fun b hb=>⟨fun n=>(h.ios b hb).1 (u.hh.free n),(h.ios b hb).2⟩
theorem RB.Fd (h:RB C F H) {b:Addr} (n:H b=none):C.H0 b=none:=by
 cases q:C.H0 b with
 | none=>rfl
 | some o' =>
  by_cases hi:C.io b
  ·exact absurd n (h.ios b hi).1
  ·rw [h.keep b o' q hi] at n;cases n
theorem RE.up (h:RE K C F H σ ρ) (u:Up F H F' H'):RE K C F' H' σ ρ where
 rb:=h.rb.up u
 len:=h.len
 sh:=fun i p e=>let ⟨v,e1,e2⟩:=h.sh i p e;⟨v,e1,e2.up u.ff⟩
 ow:=fun i p e=>by
  obtain ⟨a,e1,e2,e3,e4⟩:=h.ow i p e
  refine ⟨a,e1,e2.up u.ff fun o q=>u.hh _ _ q,?_,e4⟩
  cases q:F' a with
  | none=>rfl
  | some o =>
   obtain ⟨o',eo⟩:=e2.ne
   rcases u.fr a o q with z | z | ⟨ys,z⟩
   ·rw [e3] at z;cases z
   ·rw [eo] at z;cases z
   ·subst z
    exact absurd (u.fh _ _ q) (fun w=>by rw [u.hh _ _ eo] at w;cases w;exact e2.Fb eo)
 dis:=h.dis
 dd:=let ⟨P,d⟩:=h.dd;⟨P,d.up u⟩
theorem get_set {α:Type}{l:List α}{i j:Nat}{x y:α} (h:(l.set i x)[j]?=some y):(i=j∧x=y)∨(i≠j∧l[j]?=some y):=by
 rw [List.getElem?_set] at h
 by_cases e:i=j
 ·subst e
  rw [if_pos rfl] at h
  split at h
  ·exact .inl ⟨rfl,Zab h⟩
  ·cases h
 ·rw [if_neg e] at h
  exact .inr ⟨e,h⟩
theorem cP {α:Type}{l:List α}{j:Nat}{y:α} (h:l[j]?=some y):j < l.length:=(Zap.mp h).1
theorem RE.set (h:RE K C F H σ ρ) (i:Nat) (r:Rep K F v p):RE K C F H (σ.set i (some v)) (ρ.set i (some (.sh p))) where
 rb:=h.rb
 len:=by simp [h.len]
 sh:=fun j q e=>by
  rcases get_set e with ⟨e1,e2⟩ | ⟨e1,e2⟩
  ·subst e1
   cases e2
   have:=cP e
   exact ⟨v,by rw [ZaS (by rw [h.len];simpa using this)],r⟩
  ·obtain ⟨w,e3,e4⟩:=h.sh j q e2
   exact ⟨w,by rw [Zal e1];exact e3,e4⟩
 ow:=fun j q e=>by
  rcases get_set e with ⟨e1,e2⟩ | ⟨e1,e2⟩
  ·cases e2
  ·obtain ⟨w,e3,e4⟩:=h.ow j q e2
   exact ⟨w,by rw [Zal e1];exact e3,e4⟩
 dis:=fun j k q q' a e e' f f'=>by
  rcases get_set e with ⟨e1,e2⟩ | ⟨e1,e2⟩
  ·cases e2
  ·rcases get_set e' with ⟨e1',e2'⟩ | ⟨e1',e2'⟩
   ·cases e2'
   ·rw [Zal e1] at f
    rw [Zal e1'] at f'
    exact h.dis j k q q' a e2 e2' f f'
 dd:=let ⟨P,d⟩:=h.dd;⟨P,d.own,d.dis,fun j k q b z e f=>by
   rcases get_set e with ⟨e1,e2⟩ | ⟨e1,e2⟩
   ·cases e2
   ·rw [Zal e1] at f;exact d.ow j k q b z e2 f,fun j q e=>by
   rcases get_set e with ⟨e1,e2⟩ | ⟨e1,e2⟩
   ·cases e2
   ·obtain ⟨w,e3,e4⟩:=d.dp j q e2
    exact ⟨w,by rw [Zal e1];exact e3,e4⟩⟩
theorem RE.T4 (h:RE K C F H σ ρ) (i:Nat) (r:Own K F H a p) (hn:F a=none) (nw:C.nw) (h0:C.H0 a=none) (ha:∀ (j:Nat) q,ρ[j]?=some (some (.ow q))->j≠i->σ[j]?≠some (some (.ref a))) (hd:∃ P,RD K C F H σ ρ P∧∀ j,¬P j a) :
  RE K C F H (σ.set i (some (.ref a))) (ρ.set i (some (.ow p))) where
 rb:=h.rb
 len:=by simp [h.len]
 sh:=fun j q e=>by
  rcases get_set e with ⟨e1,e2⟩ | ⟨e1,e2⟩
  ·cases e2
  ·obtain ⟨w,e3,e4⟩:=h.sh j q e2
   exact ⟨w,by rw [Zal e1];exact e3,e4⟩
 ow:=fun j q e=>by
  rcases get_set e with ⟨e1,e2⟩ | ⟨e1,e2⟩
  ·subst e1
   cases e2
   have:=cP e
   exact ⟨a,by rw [ZaS (by rw [h.len];simpa using this)],r,hn,.inr ⟨nw,h0⟩⟩
  ·obtain ⟨w,e3,e4⟩:=h.ow j q e2
   exact ⟨w,by rw [Zal e1];exact e3,e4⟩
 dis:=fun j k q q' b e e' f f'=>by
  rcases get_set e with ⟨e1,e2⟩ | ⟨e1,e2⟩
  ·rcases get_set e' with ⟨e1',e2'⟩ | ⟨e1',e2'⟩
   ·exact e1.symm.trans e1'
   ·subst e1
    have:=cP e
    rw [ZaS (by rw [h.len];simpa using this)] at f
    cases f
    rw [Zal e1'] at f'
    exact absurd f' (ha k q' e2' (Za4 e1'))
  ·rcases get_set e' with ⟨e1',e2'⟩ | ⟨e1',e2'⟩
   ·subst e1'
    have:=cP e'
    rw [ZaS (by rw [h.len];simpa using this)] at f'
    cases f'
    rw [Zal e1] at f
    exact absurd f (ha j q e2 (Za4 e1))
   ·rw [Zal e1] at f
    rw [Zal e1'] at f'
    exact h.dis j k q q' b e2 e2' f f'
 dd:=let ⟨P,d,na⟩:=hd;⟨P,d.own,d.dis,fun j k q b z e f=>by
   rcases get_set e with ⟨e1,e2⟩ | ⟨e1,e2⟩
   ·subst e1
    have:=cP e
    rw [ZaS (by rw [h.len];simpa using this)] at f
    cases f
    exact na j z
   ·rw [Zal e1] at f;exact d.ow j k q b z e2 f,fun j q e=>by
   rcases get_set e with ⟨e1,e2⟩ | ⟨e1,e2⟩
   ·cases e2
   ·obtain ⟨w,e3,e4⟩:=d.dp j q e2
    exact ⟨w,by rw [Zal e1];exact e3,e4⟩⟩
theorem RE.Qd (h:RE K C F H σ ρ) (n:H a=none) (u:Up F H F' H'):∃ P,RD K C F' H' σ ρ P∧∀ j,¬P j a:=by
 obtain ⟨P,d⟩:=h.dd
 exact ⟨P,d.up u,fun j z=>by obtain ⟨_,⟨o,e,_⟩,_⟩:=d.own j a z;rw [n] at e;cases e⟩
theorem RE.apart (h:RE K C F H σ ρ) (n:H a=none) (j:Nat) (q:PV) (e:ρ[j]?=some (some (.ow q))):σ[j]?≠some (some (.ref a)):=fun f=>by
 obtain ⟨b,e1,e2,_⟩:=h.ow j q e
 rw [e1] at f
 cases f
 obtain ⟨o,eo⟩:=e2.ne
 rw [eo] at n;cases n
theorem RE.write (h:RE K C F H σ ρ) {i:Nat}{o:HO}{p':PV} (e:ρ[i]?=some (some (.ow p))) (ea:σ[i]?=some (some (.ref a))) (r:Own K F (upd H a o) a p') :
  RE K C F (upd H a o) σ (ρ.set i (some (.ow p'))):=by
 obtain ⟨a',e1,e2,e3,e4⟩:=h.ow i p e
 rw [ea] at e1
 cases e1
 have ne:∀ b u,F b=some u->b≠a:=fun b u q z=>by rw [z,e3] at q;cases q
 refine ⟨⟨fun b u q=>by rw [aO (ne b u q)];exact h.rb.sub b u q,fun b u q n=>?_,h.rb.new,fun b hb=>⟨?_,(h.rb.ios b hb).2⟩⟩,by simp [h.len],fun j q f=>?_,fun j q f=>?_,fun j k q q' b f f' g g'=>?_,?_⟩
 ·have:b≠a:=fun z=>by
   subst z
   rcases e4 with z | z
   ·exact n z
   ·rw [z.2] at q;cases q
  rw [aO this];exact h.rb.keep b u q n
 ·by_cases hba:b=a
  ·subst hba;rw [aX];simp
  ·rw [aO hba];exact (h.rb.ios b hb).1
 ·rcases get_set f with ⟨e1,f2⟩ | ⟨e1,f2⟩
  ·cases f2
  ·exact h.sh j q f2
 ·rcases get_set f with ⟨e1,f2⟩ | ⟨e1,f2⟩
  ·subst e1
   cases f2
   exact ⟨a,ea,r,e3,e4⟩
  ·obtain ⟨b,g1,g2,g3,g4⟩:=h.ow j q f2
   refine ⟨b,g1,g2.up (bh.refl _) fun u qq=>?_,g3,g4⟩
   have:b≠a:=fun z=>by subst z;exact e1 (h.dis i j p q b e f2 ea g1)
   rw [aO this];exact qq
 ·have key:∀ (j:Nat) q,(ρ.set i (some (Sl.ow p')))[j]?=some (some (.ow q))->∃ q0,ρ[j]?=some (some (.ow q0)):=fun j q f=>by
   rcases get_set f with ⟨e1,f2⟩ | ⟨e1,f2⟩
   ·subst e1;exact ⟨p,e⟩
   ·exact ⟨q,f2⟩
  obtain ⟨q0,k0⟩:=key j q f
  obtain ⟨q1,k1⟩:=key k q' f'
  exact h.dis j k q0 q1 b k0 k1 g g'
 ·obtain ⟨P,d⟩:=h.dd
  have na:∀ j b,P j b->b≠a:=fun j b z e'=>by subst e';exact d.ow j i p b z e ea
  refine ⟨P,fun j b z=>?_,d.dis,fun j k q b z f g=>?_,fun j q f=>?_⟩
  ·rw [aO (na j b z)];exact d.own j b z
  ·rcases get_set f with ⟨f1,f2⟩ | ⟨f1,f2⟩
   ·subst f1;exact d.ow j i p b z e g
   ·exact d.ow j k q b z f2 g
  ·rcases get_set f with ⟨f1,f2⟩ | ⟨f1,f2⟩
   ·cases f2
   ·obtain ⟨w,e3,e5⟩:=d.dp j q f2
    exact ⟨w,e3,e5.up (bh.refl _) (fun b o z q=>by rw [aO (na j b z)];exact q) fun b ys q=>by rw [aO fun z=>by subst z;exact e2.Fb q];exact q⟩
theorem RE.frz (h:RE K C F H σ ρ) {i:Nat} (e:ρ[i]?=some (some (.ow p))) (hio:∀ a,σ[i]?=some (some (.ref a))->¬C.io a):∃ F',bh F F'∧RE K C F' H σ (ρ.set i (some (.sh p))):=by
 obtain ⟨a,e1,e2,e3,e4⟩:=h.ow i p e
 obtain ⟨o,eo,r⟩:=e2.frozen e3
 have h0:C.H0 a=none:=(e4.resolve_left (hio a e1)).2
 have sf:bh F (upd F a o):=fC e3
 have li:=cP e
 refine ⟨upd F a o,sf,⟨⟨fun b u q=>?_,h.rb.keep,fun b u q=>?_,h.rb.ios⟩,by simp [h.len],fun j q f=>?_,fun j q f=>?_,fun j k q q' b f f' g g'=>?_,?_⟩⟩
 ·by_cases hb:b=a
  ·subst hb;rw [aX] at q;cases q;exact eo
  ·rw [aO hb] at q;exact h.rb.sub b u q
 ·by_cases hb:b=a
  ·subst hb;exact .inr (.inl h0)
  ·rw [aO hb] at q;exact h.rb.new b u q
 ·rcases get_set f with ⟨f1,f2⟩ | ⟨f1,f2⟩
  ·subst f1;cases f2;exact ⟨_,e1,r⟩
  ·obtain ⟨v,g1,g2⟩:=h.sh j q f2
   exact ⟨v,g1,g2.up sf⟩
 ·rcases get_set f with ⟨f1,f2⟩ | ⟨f1,f2⟩
  ·cases f2
  ·obtain ⟨b,g1,g2,g3,g4⟩:=h.ow j q f2
   refine ⟨b,g1,g2.up sf fun _ z=>z,?_,g4⟩
   have:b≠a:=fun z=>by subst z;exact f1 (h.dis i j p q b e f2 e1 g1)
   rw [aO this];exact g3
 ·rcases get_set f with ⟨f1,f2⟩ | ⟨f1,f2⟩
  ·cases f2
  ·rcases get_set f' with ⟨f1',f2'⟩ | ⟨f1',f2'⟩
   ·cases f2'
   ·exact h.dis j k q q' b f2 f2' g g'
 ·obtain ⟨P,d⟩:=h.dd
  have na:∀ j b,P j b->b≠a:=fun j b z e'=>by subst e';exact d.ow j i p b z e e1
  refine ⟨P,fun j b z=>?_,d.dis,fun j k q b z f g=>?_,fun j q f=>?_⟩
  ·rw [aO (na j b z)];exact d.own j b z
  ·rcases get_set f with ⟨f1,f2⟩ | ⟨f1,f2⟩
   ·cases f2
   ·exact d.ow j k q b z f2 g
  ·rcases get_set f with ⟨f1,f2⟩ | ⟨f1,f2⟩
   ·cases f2
   ·obtain ⟨w,e3,e5⟩:=d.dp j q f2
    exact ⟨w,e3,e5.up sf (fun _ _ _ q=>q) fun _ _ q=>q⟩
end
structure Cg extends Cf where
 XR:Hp->Value->Option Addr->PV->Prop
noncomputable def PX (C:Cg) (F:Hp) (z:PV):Prop:=∀ e d F' H',bh F F'->RB C.toCf F' H'->C.XR F' e d z->C.E e d H'
noncomputable def Pr {α:Type} (C:Cg) (F:Hp) (ok:α->Prop):Res α->Prop
 | .ok a=>ok a
 | .ex z=>PX C F z
noncomputable abbrev Rel (α:Type):=Hp->Hp->V->α->Prop
noncomputable def aF (K:PySem.W.Frag):Rel PV:=fun F _ v p=>Rep K F v p
noncomputable def aH (K:PySem.W.Frag):Rel PV:=fun _ H v p=>Rep K H v p
noncomputable def aV (K:PySem.W.Frag):Rel (List PV):=fun F H v l=>∃ a xs,v=.ref a∧SqL K H a xs∧bR K F xs l
noncomputable def UpM {α:Type} (A:Rel α):Prop:=∀ F H F' H' v a,Up F H F' H'->A F H v a->A F' H' v a
theorem aF.up {K:PySem.W.Frag}:UpM (aF K):=fun _ _ _ _ _ _ u h=>Rep.up h u.ff
theorem aH.up {K:PySem.W.Frag}:UpM (aH K):=fun _ _ _ _ _ _ u h=>Rep.up h u.hh
theorem aV.up {K:PySem.W.Frag}:UpM (aV K):=fun _ _ _ _ _ _ u h=>let ⟨a,xs,e,s,r⟩:=h;⟨a,xs,e,u.hh.seq s,r.up u.ff⟩
noncomputable abbrev Fn (α:Type):=Rho->Option (Res α)
noncomputable def MJ {α:Type} (K:PySem.W.Frag) (C:Cg) (A:Rel α) (te:TE) (f:Fn α):Prop :=
 ∀ F H σ ρ Q r,RE K C.toCf F H σ ρ->f ρ=some r->Pr C F (fun a=>∀ v F' H',Up F H F' H'->A F' H' v a->Q v H') r->te σ H Q
noncomputable def MT (K:PySem.W.Frag) (C:Cg) (tt:TT) (f:Fn Bool):Prop :=
 ∀ F H σ ρ Q r,RE K C.toCf F H σ ρ->f ρ=some r->Pr C F (fun b=>∀ F' H',Up F H F' H'->Q b H') r->tt σ H Q
noncomputable def MA (K:PySem.W.Frag) (C:Cg) (ta:TA) (f:Fn (List PV)):Prop :=
 ∀ F H σ ρ Q r,RE K C.toCf F H σ ρ->f ρ=some r->Pr C F (fun l=>∀ xs F' H',Up F H F' H'->bR K F' xs l->Q xs H') r->ta σ H Q
noncomputable def MAL (K:PySem.W.Frag) (C:Cg) (ta:TA) (f:Fn (List PV)):Prop :=
 ∀ F H σ ρ Q r,RE K C.toCf F H σ ρ->f ρ=some r->Pr C F (fun l=>∀ xs F' H',Up F H F' H'->bR K H' xs l->Q xs H') r->ta σ H Q
noncomputable def MO (K:PySem.W.Frag) (C:Cg) (te:TE) (f:Fn PV):Prop :=
 ∀ F H σ ρ Q r,RE K C.toCf F H σ ρ->f ρ=some r->Pr C F (fun p=>∀ a F' H',Up F H F' H'->H a=none->F' a=none->Own K F' H' a p->Q (.ref a) H') r->te σ H Q
theorem fL {α β:Type}{x:Option (Res α)}{k:α->Option (Res β)}{r:Res β} (h:bnd x k=some r):(∃ z,x=some (.ex z)∧r=.ex z)∨∃ a,x=some (.ok a)∧k a=some r:=by
 match x,h with
 | some (.ok a),h=>exact .inr ⟨a,rfl,h⟩
 | some (.ex z),h=>exact .inl ⟨z,rfl,(Zab h).symm⟩
theorem Pr.ex {α β:Type}{C:Cg}{F:Hp}{ok:α->Prop}{ok':β->Prop}{z:PV} (h:Pr C F ok (.ex z)):Pr C F ok' (.ex z):=h
theorem PX.up {C:Cg}{F F1:Hp}{z:PV} (h:PX C F z) (s:bh F F1):PX C F1 z:=fun e d F' H' a b c=>h e d F' H' (s.trans a) b c
theorem Pr.mono {α:Type}{C:Cg}{F F1:Hp}{ok ok':α->Prop}{r:Res α} (h:Pr C F ok r) (s:bh F F1) (k:∀ a,ok a->ok' a):Pr C F1 ok' r:=by
 cases r with
 | ok a=>exact k a h
 | ex z=>exact PX.up h s
section
variable {K:PySem.W.Frag}{C:Cg}{α β γ:Type}{A:Rel α}{B:Rel β}{D:Rel γ}{ta tb te:TE}{f:Fn α}{g:Fn β}{F H:Hp}{σ:St}{ρ:Rho}{Q:VK}
theorem MJ.run {ok:β->Prop}{k:α->Option (Res β)}{r:Res β} (h:MJ K C A ta f) (R:RE K C.toCf F H σ ρ) (hb:bnd (f ρ) k=some r) (P:Pr C F ok r)
  (go:∀ p v F1 H1,k p=some r->Up F H F1 H1->A F1 H1 v p->Q v H1):ta σ H Q:=by
 rcases fL hb with ⟨z,e,rfl⟩ | ⟨p,e,hk⟩
 ·exact h F H σ ρ Q _ R e P
 ·exact h F H σ ρ Q _ R e fun v F1 H1 u a=>go p v F1 H1 hk u a
theorem MT.run {tt:TT}{f:Fn Bool}{Q:Bool->Hp->Prop}{ok:β->Prop}{k:Bool->Option (Res β)}{r:Res β} (h:MT K C tt f) (R:RE K C.toCf F H σ ρ) (hb:bnd (f ρ) k=some r) (P:Pr C F ok r)
  (go:∀ b F1 H1,k b=some r->Up F H F1 H1->Q b H1):tt σ H Q:=by
 rcases fL hb with ⟨z,e,rfl⟩ | ⟨p,e,hk⟩
 ·exact h F H σ ρ Q _ R e P
 ·exact h F H σ ρ Q _ R e fun F1 H1 u=>go p F1 H1 hk u
theorem MA.run {t:TA}{f:Fn (List PV)}{Q:List V->Hp->Prop}{ok:β->Prop}{k:List PV->Option (Res β)}{r:Res β} (h:MA K C t f) (R:RE K C.toCf F H σ ρ) (hb:bnd (f ρ) k=some r) (P:Pr C F ok r)
  (go:∀ l xs F1 H1,k l=some r->Up F H F1 H1->bR K F1 xs l->Q xs H1):t σ H Q:=by
 rcases fL hb with ⟨z,e,rfl⟩ | ⟨p,e,hk⟩
 ·exact h F H σ ρ Q _ R e P
 ·exact h F H σ ρ Q _ R e fun xs F1 H1 u a=>go p xs F1 H1 hk u a
theorem MAL.run {t:TA}{f:Fn (List PV)}{Q:List V->Hp->Prop}{ok:β->Prop}{k:List PV->Option (Res β)}{r:Res β} (h:MAL K C t f) (R:RE K C.toCf F H σ ρ) (hb:bnd (f ρ) k=some r) (P:Pr C F ok r)
  (go:∀ l xs F1 H1,k l=some r->Up F H F1 H1->bR K H1 xs l->Q xs H1):t σ H Q:=by
 rcases fL hb with ⟨z,e,rfl⟩ | ⟨p,e,hk⟩
 ·exact h F H σ ρ Q _ R e P
 ·exact h F H σ ρ Q _ R e fun xs F1 H1 u a=>go p xs F1 H1 hk u a
theorem MO.run {f:Fn PV}{ok:β->Prop}{k:PV->Option (Res β)}{r:Res β} (h:MO K C ta f) (R:RE K C.toCf F H σ ρ) (hb:bnd (f ρ) k=some r) (P:Pr C F ok r)
  (go:∀ p a F1 H1,k p=some r->Up F H F1 H1->H a=none->F1 a=none->Own K F1 H1 a p->Q (.ref a) H1):ta σ H Q:=by
 rcases fL hb with ⟨z,e,rfl⟩ | ⟨p,e,hk⟩
 ·exact h F H σ ρ Q _ R e P
 ·exact h F H σ ρ Q _ R e fun a F1 H1 u h1 h2 h3=>go p a F1 H1 hk u h1 h2 h3
theorem Pr.later {D:Rel γ}{r:Res γ}{F1 H1:Hp} (P:Pr C F (fun a=>∀ v F' H',Up F H F' H'->D F' H' v a->Q v H') r) (u:Up F H F1 H1):Pr C F1 (fun a=>∀ v F' H',Up F1 H1 F' H'->D F' H' v a->Q v H') r :=
 P.mono u.ff fun _ h v F' H' u' d=>h v F' H' (u.trans u') d
theorem Pr.Jr {Q:Bool->Hp->Prop}{r:Res Bool}{F1 H1:Hp} (P:Pr C F (fun b=>∀ F' H',Up F H F' H'->Q b H') r) (u:Up F H F1 H1):Pr C F1 (fun b=>∀ F' H',Up F1 H1 F' H'->Q b H') r :=
 P.mono u.ff fun _ h F' H' u'=>h F' H' (u.trans u')
theorem Pr.m5 {r:Res PV}{F1 H1:Hp} (P:Pr C F (fun p=>∀ a F' H',Up F H F' H'->H a=none->F' a=none->Own K F' H' a p->Q (.ref a) H') r) (u:Up F H F1 H1) :
  Pr C F1 (fun p=>∀ a F' H',Up F1 H1 F' H'->H1 a=none->F' a=none->Own K F' H' a p->Q (.ref a) H') r :=
 P.mono u.ff fun _ h a F' H' u' n1 n2 d=>h a F' H' (u.trans u') (u.hh.free n1) n2 d
theorem Pr.Qe {Q:List V->Hp->Prop}{r:Res (List PV)}{F1 H1:Hp} (P:Pr C F (fun l=>∀ xs F' H',Up F H F' H'->bR K F' xs l->Q xs H') r) (u:Up F H F1 H1):Pr C F1 (fun l=>∀ xs F' H',Up F1 H1 F' H'->bR K F' xs l->Q xs H') r :=
 P.mono u.ff fun _ h xs F' H' u' d=>h xs F' H' (u.trans u') d
theorem Pr.Qf {Q:List V->Hp->Prop}{r:Res (List PV)}{F1 H1:Hp} (P:Pr C F (fun l=>∀ xs F' H',Up F H F' H'->bR K H' xs l->Q xs H') r) (u:Up F H F1 H1):Pr C F1 (fun l=>∀ xs F' H',Up F1 H1 F' H'->bR K H' xs l->Q xs H') r :=
 P.mono u.ff fun _ h xs F' H' u' d=>h xs F' H' (u.trans u') d
noncomputable def mV (i:Nat):Fn PV:=fun ρ=>match ρ[i]? with
 | some (some (.sh p))=>some (.ok p)
 | _=>none
theorem ak (i:Nat):MJ K C (aF K) (qU i) (mV i):=by
 intro F H σ ρ Q r R e P
 unfold mV at e
 split at e
 ·rename_i p hp
  cases e
  obtain ⟨v,e1,e2⟩:=R.sh i p hp
  exact ⟨v,e1,P v F H (Up.refl R.rb.sub) e2⟩
 ·cases e
noncomputable def mVL (i:Nat):Fn PV:=fun ρ=>match ρ[i]? with
 | some (some (.sh p))=>some (.ok p)
 | some (some (.ow p))=>some (.ok p)
 | _=>none
theorem aQ (i:Nat):MJ K C (aH K) (qU i) (mVL i):=by
 intro F H σ ρ Q r R e P
 unfold mVL at e
 split at e
 ·rename_i p hp
  cases e
  obtain ⟨v,e1,e2⟩:=R.sh i p hp
  exact ⟨v,e1,P v F H (Up.refl R.rb.sub) (e2.up R.rb.sub)⟩
 ·rename_i p hp
  cases e
  obtain ⟨a,e1,e2,e3,_⟩:=R.ow i p hp
  exact ⟨_,e1,P _ F H (Up.refl R.rb.sub) (e2.lent R.rb.sub)⟩
 ·cases e
noncomputable def uF:PV->Option (Res (List PV))
 | .lst l=>some (.ok l)
 | _=>none
theorem LQ {f:Fn PV} (h:MJ K C (aF K) ta f):MJ K C (aV K) ta (fun ρ=>bnd (f ρ) uF):=by
 intro F H σ ρ Q r R e P
 refine h.run R e P fun p v F1 H1 hk u a=>?_
 match p,hk with
 | .lst l,hk =>
  cases hk
  obtain ⟨b,xs,rfl,s,rr⟩:=Rep.dB a
  exact P _ F1 H1 u ⟨b,xs,rfl,u.fh.seq s,rr⟩
theorem bH (i:Nat):MJ K C (aV K) (qU i) (fun ρ=>bnd (mVL i ρ) uF):=by
 intro F H σ ρ Q r R e P
 rcases fL e with ⟨z,e1,rfl⟩ | ⟨p,e1,hk⟩
 ·unfold mVL at e1
  split at e1 <;> cases e1
 ·unfold mVL at e1
  match p,hk with
  | .lst l,hk =>
   cases hk
   split at e1
   ·rename_i q hq
    cases e1
    obtain ⟨v,e2,e3⟩:=R.sh i _ hq
    obtain ⟨b,xs,rfl,s,rr⟩:=Rep.dB e3
    exact ⟨_,e2,P _ F H (Up.refl R.rb.sub) ⟨b,xs,rfl,R.rb.sub.seq s,rr⟩⟩
   ·rename_i q hq
    cases e1
    obtain ⟨a,e2,⟨xs,e3,rr⟩,_⟩:=R.ow i _ hq
    exact ⟨_,e2,P _ F H (Up.refl R.rb.sub) ⟨a,xs,rfl,SqL.of e3,rr⟩⟩
   ·cases e1
theorem bf {f:Fn PV} (h:MJ K C (aF K) ta f):MJ K C (aH K) ta f:=by
 intro F H σ ρ Q r R e P
 refine h F H σ ρ Q r R e ?_
 exact P.mono (bh.refl _) fun _ k v F' H' u d=>k v F' H' u (Rep.up d u.fh)
noncomputable def mC (p:PV):Fn PV:=fun _=>some (.ok p)
theorem Js {v:V}{p:PV} (h:∀ F,Rep K F v p):MJ K C (aF K) (tC v) (mC p):=by
 intro F H σ ρ Q r R e P
 cases e
 exact P v F H (Up.refl R.rb.sub) (h F)
theorem ao {i:Int}:MJ K C (aF K) (tC (.int i)) (mC (.int i)):=Js fun _=>.int
theorem Fe {i:Bool}:MJ K C (aF K) (tC (.bl i)) (mC (.bl i)):=Js fun _=>.bl
theorem bx {i:Str}:MJ K C (aF K) (tC (.str i)) (mC (.str i)):=Js fun _=>.str
theorem dR:MJ K C (aF K) (tC .non) (mC .non):=Js fun _=>.non
theorem Ff {n:String}:MJ K C (aF K) (tC (.ty n)) (mC (.ty n)):=Js fun _=>.ty
theorem cL {f:Fn PV} (h:MO K C ta f):MJ K C (aF K) ta f:=by
 intro F H σ ρ Q r R e P
 refine h F H σ ρ Q r R e (P.mono (bh.refl _) fun p k a F' H' u n1 n2 o=>?_)
 obtain ⟨ob,eo,rr⟩:=o.frozen n2
 refine k _ (upd F' a ob) H' ⟨u.ff.trans (fC n2),u.hh,fun b x q=>?_,fun b x q=>?_⟩ rr
 ·by_cases hb:b=a
  ·subst hb;exact .inr (.inl n1)
  ·rw [aO hb] at q;exact u.fr b x q
 ·by_cases hb:b=a
  ·subst hb;rw [aX] at q;cases q;exact eo
  ·rw [aO hb] at q;exact u.fh b x q
theorem cU {f:Fn PV} (h:MO K C ta f):MJ K C (aV K) ta (fun ρ=>bnd (f ρ) uF):=LQ (cL h)
noncomputable def m2 {α β γ:Type} (op:α->β->Option (Res γ)) (f:Fn α) (g:Fn β):Fn γ:=fun ρ=>bnd (f ρ) fun a=>bnd (g ρ) fun b=>op a b
noncomputable def R2M (C:Cg) (A:Rel α) (B:Rel β) (D:Rel γ) (r:R2) (op:α->β->Option (Res γ)):Prop :=
 ∀ F H x y a b res Q,bh F H->A F H x a->B F H y b->op a b=some res->Pr C F (fun c=>∀ v F' H',Up F H F' H'->D F' H' v c->Q v H') res->r x y H Q
theorem aq {op:α->β->Option (Res γ)}{r2:R2} (up:UpM A) (rule:R2M C A B D r2 op) (ha:MJ K C A ta f) (hb:MJ K C B tb g):MJ K C D (tOp r2 ta tb) (m2 op f g):=by
 intro F H σ ρ Q r R e P
 refine ha.run R e P fun p v F1 H1 hk u a=>?_
 refine hb.run (R.up u) hk (P.later u) fun q w F2 H2 hk2 u2 b=>?_
 exact rule F2 H2 v w p q r Q u2.fh (up _ _ _ _ _ _ u2 a) b hk2 (P.later (u.trans u2))
noncomputable def R2O (K:PySem.W.Frag) (C:Cg) (A:Rel α) (B:Rel β) (r:R2) (op:α->β->Option (Res PV)):Prop :=
 ∀ F H x y a b res Q,bh F H->A F H x a->B F H y b->op a b=some res->Pr C F (fun p=>∀ a F' H',Up F H F' H'->H a=none->F' a=none->Own K F' H' a p->Q (.ref a) H') res->r x y H Q
theorem qG {op:α->β->Option (Res PV)}{r2:R2} (up:UpM A) (rule:R2O K C A B r2 op) (ha:MJ K C A ta f) (hb:MJ K C B tb g):MO K C (tOp r2 ta tb) (m2 op f g):=by
 intro F H σ ρ Q r R e P
 refine ha.run R e P fun p v F1 H1 hk u a=>?_
 refine hb.run (R.up u) hk (P.m5 u) fun q w F2 H2 hk2 u2 b=>?_
 exact rule F2 H2 v w p q r Q u2.fh (up _ _ _ _ _ _ u2 a) b hk2 (P.m5 (u.trans u2))
noncomputable def m1 {α γ:Type} (op:α->Option (Res γ)) (f:Fn α):Fn γ:=fun ρ=>bnd (f ρ) op
noncomputable def qZ (o1 o2:PV->PV->Option (Res PV)) (f g h:Fn PV):Fn PV:=fun ρ=>bnd (f ρ) fun a=>bnd (g ρ) fun b=>bnd (o1 a b) fun z=>match z with
 | .bl true=>bnd (h ρ) fun c=>o2 b c
 | .bl false=>some (.ok (.bl false))
 | _=>none
theorem sO {o1 o2:PV->PV->Option (Res PV)}{r r':R2}{tc:TE}{f g h:Fn PV} (r1:R2M C (aF K) (aF K) (aF K) r o1) (r2:R2M C (aF K) (aF K) (aF K) r' o2) (ha:MJ K C (aF K) ta f) (hb:MJ K C (aF K) tb g) (hc:MJ K C (aF K) tc h) :
  MJ K C (aF K) (Cy r r' ta tb tc) (qZ o1 o2 f g h):=by
 intro F H σ ρ Q r R e P
 refine ha.run R e P fun p v F1 H1 hk u a=>?_
 refine hb.run (R.up u) hk (P.later u) fun q w F2 H2 hk2 u2 b=>?_
 rcases fL hk2 with ⟨z,e1,rfl⟩ | ⟨z,e1,hk3⟩
 ·exact r1 F2 H2 v w p q _ _ u2.fh (aF.up _ _ _ _ _ _ u2 a) b e1 (PX.up P (u.trans u2).ff)
 ·refine r1 F2 H2 v w p q _ _ u2.fh (aF.up _ _ _ _ _ _ u2 a) b e1 fun vz F3 H3 u3 rz=>?_
  match z,hk3 with
  | .bl true,hk3 =>
   cases Rep.gQ rz
   refine ⟨true,rfl,?_⟩
   rw [if_pos rfl]
   have u13:=u.trans (u2.trans u3)
   refine hc.run (R.up u13) hk3 (P.later u13) fun c wc F4 H4 hk4 u4 rc=>?_
   exact r2 F4 H4 w wc q c _ Q u4.fh (Rep.up b (u3.trans u4).ff) rc hk4 (P.later (u13.trans u4))
  | .bl false,hk3 =>
   cases Rep.gQ rz
   cases hk3
   refine ⟨false,rfl,?_⟩
   rw [if_neg (by decide)]
   exact P _ F3 H3 (u.trans (u2.trans u3)) .bl
noncomputable def vI (f g:Fn PV):Fn PV:=fun ρ=>bnd (f ρ) fun a=>match a with
 | .bl true=>g ρ
 | .bl false=>some (.ok (.bl false))
 | _=>none
noncomputable def Jt:PV->Option (Res PV)
 | .bl b=>some (.ok (.bl (!b)))
 | _=>none
theorem yU {f g:Fn PV} (ha:MJ K C (aF K) ta f) (hb:MJ K C (aF K) tb g):MJ K C (aF K) (Oa ta tb) (vI f g):=by
 intro F H σ ρ Q r R e P
 refine ha.run R e P fun p v F1 H1 hk u a=>?_
 match p,hk with
 | .bl true,hk =>
  cases Rep.gQ a
  refine ⟨true,rfl,?_⟩
  rw [if_pos rfl]
  exact hb F1 H1 σ ρ Q r (R.up u) hk (P.later u)
 | .bl false,hk =>
  cases Rep.gQ a
  cases hk
  refine ⟨false,rfl,?_⟩
  rw [if_neg (by decide)]
  exact P _ F1 H1 u .bl
theorem Qg {f:Fn PV} (ha:MJ K C (aF K) ta f):MJ K C (aF K) (Ob ta) (m1 Jt f):=by
 intro F H σ ρ Q r R e P
 refine ha.run R e P fun p v F1 H1 hk u a=>?_
 match p,hk with
 | .bl b,hk =>
  cases Rep.gQ a
  cases hk
  exact ⟨b,rfl,P _ F1 H1 u .bl⟩
noncomputable def cF:PV->Option (Res Bool)
 | .bl b=>some (.ok b)
 | _=>none
theorem aW {f:Fn PV} (ha:MJ K C (aF K) ta f):MT K C (Jf ta) (m1 cF f):=by
 intro F H σ ρ Q r R e P
 refine ha.run R e P fun p v F1 H1 hk u a=>?_
 match p,hk with
 | .bl b,hk =>
  cases Rep.gQ a
  cases hk
  exact ⟨b,rfl,P F1 H1 u⟩
theorem m6 {f:Fn PV} (ha:MJ K C (aF K) ta f):MT K C (tB ta) (m1 cF f):=aW ha
noncomputable def vJ (f g:Fn Bool):Fn Bool:=fun ρ=>bnd (f ρ) fun a=>if a=true then g ρ else some (.ok false)
noncomputable def mOr (f g:Fn Bool):Fn Bool:=fun ρ=>bnd (f ρ) fun a=>if a=true then some (.ok true) else g ρ
noncomputable def vK (f:Fn Bool):Fn Bool:=fun ρ=>bnd (f ρ) fun a=>some (.ok (!a))
variable {c d:TT}{fc gc:Fn Bool}
theorem pD (ha:MT K C c fc) (hb:MT K C d gc):MT K C (Rr c d) (vJ fc gc):=by
 intro F H σ ρ Q r R e P
 refine ha.run R e P fun b F1 H1 hk u=>?_
 cases b with
 | true=>rw [if_pos rfl] at hk ⊢;exact hb F1 H1 σ ρ Q r (R.up u) hk (P.Jr u)
 | false=>rw [if_neg (by decide)] at hk ⊢;cases hk;exact P F1 H1 u
theorem pF (ha:MT K C c fc) (hb:MT K C d gc):MT K C (tOr c d) (mOr fc gc):=by
 intro F H σ ρ Q r R e P
 refine ha.run R e P fun b F1 H1 hk u=>?_
 cases b with
 | true=>rw [if_pos rfl] at hk ⊢;cases hk;exact P F1 H1 u
 | false=>rw [if_neg (by decide)] at hk ⊢;exact hb F1 H1 σ ρ Q r (R.up u) hk (P.Jr u)
theorem pG (ha:MT K C c fc):MT K C (Rt c) (vK fc):=by
 intro F H σ ρ Q r R e P
 refine ha.run R e P fun b F1 H1 hk u=>?_
 cases hk
 exact P F1 H1 u
noncomputable def bO:Fn (List PV):=fun _=>some (.ok [])
noncomputable def aK (f:Fn PV) (g:Fn (List PV)):Fn (List PV):=fun ρ=>bnd (f ρ) fun a=>bnd (g ρ) fun l=>some (.ok (a::l))
theorem aR:MA K C uQ bO:=fun F H σ ρ Q r R e P=>by
 cases e
 exact P [] F H (Up.refl R.rb.sub) .nil
theorem az {f:Fn PV}{g:Fn (List PV)}{t:TA} (ha:MJ K C (aF K) ta f) (hb:MA K C t g):MA K C (jh ta t) (aK f g):=by
 intro F H σ ρ Q r R e P
 refine ha.run R e P fun p v F1 H1 hk u a=>?_
 refine hb.run (R.up u) hk (P.Qe u) fun l xs F2 H2 hk2 u2 b=>?_
 cases hk2
 exact P _ F2 H2 (u.trans u2) (b.cons (Rep.up a u2.ff))
theorem LR:MAL K C uQ bO:=fun F H σ ρ Q r R e P=>by
 cases e
 exact P [] F H (Up.refl R.rb.sub) .nil
theorem Ao {f:Fn PV}{g:Fn (List PV)}{t:TA} (ha:MJ K C (aH K) ta f) (hb:MAL K C t g):MAL K C (jh ta t) (aK f g):=by
 intro F H σ ρ Q r R e P
 refine ha.run R e P fun p v F1 H1 hk u a=>?_
 refine hb.run (R.up u) hk (P.Qf u) fun l xs F2 H2 hk2 u2 b=>?_
 cases hk2
 exact P _ F2 H2 (u.trans u2) (b.cons (Rep.up a u2.hh))
theorem Up.CV {F H:Hp}{a:Addr}{o:HO} (s:bh F H) (h:H a=none):Up F H F (upd H a o):=⟨bh.refl _,fC h,fun _ _ q=>.inl q,s.trans (fC h)⟩
theorem Up.new {F H:Hp}{a:Addr}{o:HO} (s:bh F H) (h:H a=none):Up F H (upd F a o) (upd H a o):=by
 have hf:F a=none:=s.free h
 refine ⟨fC hf,fC h,fun b u q=>?_,fun b u q=>?_⟩
 ·by_cases hb:b=a
  ·subst hb;exact .inr (.inl h)
  ·rw [aO hb] at q;exact .inl q
 ·by_cases hb:b=a
  ·subst hb;rw [aX] at q ⊢;exact q
  ·rw [aO hb] at q ⊢;exact s b u q
noncomputable def lw (f:Fn (List PV)):Fn PV:=fun ρ=>bnd (f ρ) fun l=>if l.length≤sizeLine then some (.ok (.tup l)) else none
noncomputable def jy (f:Fn (List PV)):Fn PV:=fun ρ=>bnd (f ρ) fun l=>if l.length≤sizeLine then some (.ok (.lst l)) else none
theorem fZ {t:TA}{f:Fn (List PV)} (h:MA K C t f):MJ K C (aF K) (PJ t) (lw f):=by
 intro F H σ ρ Q r R e P
 refine h.run R e P fun l xs F1 H1 hk u a=>?_
 split at hk
 ·rename_i hl
  cases hk
  refine ⟨by rw [a.1];exact hl,fun p hp=>?_⟩
  have un:=Up.new (o:=.tup xs) u.fh hp
  exact P _ _ _ (u.trans un) (.tup aX a.1 (a.up un.ff).2)
 ·cases hk
theorem eG {t:TA}{f:Fn (List PV)} (h:MA K C t f):MO K C (RQ t) (jy f):=by
 intro F H σ ρ Q r R e P
 refine h.run R e P fun l xs F1 H1 hk u a=>?_
 split at hk
 ·rename_i hl
  cases hk
  refine ⟨by rw [a.1];exact hl,fun p hp=>?_⟩
  exact P _ _ _ (u.trans (Up.CV u.fh hp)) (u.hh.free hp) (u.fh.free hp) ⟨xs,aX,a⟩
 ·cases hk
noncomputable def spM (K:PySem.W.Frag) (XR:Hp->Value->Option Addr->PV->Prop) (m:List PV->Option (Res PV)):Sp:=fun vs H Q E=>∃ ps F r,bh F H∧bR K F vs ps∧m ps=some r∧match r with
 | .ok p=>∀ v F' H',Up F H F' H'->Rep K F' v p->Q v H'
 | .ex z=>∀ e d F' H',Up F H F' H'->XR F' e d z->E e d H'
noncomputable def spO (K:PySem.W.Frag) (XR:Hp->Value->Option Addr->PV->Prop) (m:List PV->Option (Res PV)):Sp:=fun vs H Q E=>∃ ps F r,bh F H∧bR K F vs ps∧m ps=some r∧match r with
 | .ok p=>∀ a F' H',Up F H F' H'->H a=none->F' a=none->Own K F' H' a p->Q (.ref a) H'
 | .ex z=>∀ e d F' H',Up F H F' H'->XR F' e d z->E e d H'
noncomputable def dh (m:List PV->Option (Res PV)) (f:Fn (List PV)):Fn PV:=fun ρ=>bnd (f ρ) m
theorem d8 {t:TA}{f:Fn (List PV)}{m:List PV->Option (Res PV)} (h:MA K C t f):MJ K C (aF K) (qF (spM K C.XR m) [] C.E t) (dh m f):=by
 intro F H σ ρ Q r R e P
 refine h.run R e P fun l xs F1 H1 hk u a=>?_
 refine ⟨l,F1,r,u.fh,by rw [ZaE];exact a,hk,?_⟩
 cases r with
 | ok p=>exact fun v F' H' u' rv=>P v F' H' (u.trans u') rv
 | ex z=>exact fun e d F' H' u' x=>P e d F' H' (u.trans u').ff (R.rb.up (u.trans u')) x
theorem jz {t:TA}{f:Fn (List PV)}{m:List PV->Option (Res PV)} (h:MA K C t f):MO K C (qF (spO K C.XR m) [] C.E t) (dh m f):=by
 intro F H σ ρ Q r R e P
 refine h.run R e P fun l xs F1 H1 hk u a=>?_
 refine ⟨l,F1,r,u.fh,by rw [ZaE];exact a,hk,?_⟩
 cases r with
 | ok p=>exact fun v F' H' u' n1 n2 rv=>P v F' H' (u.trans u') (u.hh.free n1) n2 rv
 | ex z=>exact fun e d F' H' u' x=>P e d F' H' (u.trans u').ff (R.rb.up (u.trans u')) x
noncomputable def yV (m:List PV->Option (Res PV)) (f:Fn (List PV)):Fn PV:=fun ρ=>bnd (f ρ) fun l=>match m l with
 | some (.ok p)=>if p.flat=true then some (.ok p) else none
 | _=>none
end
inductive Out where
 | nx (ρ:Rho) | rt (p:PV) | ro (p:PV) | rd (p:PV) | bk (ρ:Rho) | ct (ρ:Rho) | ex (z:PV)
noncomputable abbrev Sn:=Rho->Option Out
noncomputable def PO' (K:PySem.W.Frag) (C:Cg) (F:Hp) (D:Ends):Out->Prop
 | .nx ρ=>∀ F' H' σ,bh F F'->RE K C.toCf F' H' σ ρ->D.nx σ H'
 | .bk ρ=>∀ F' H' σ,bh F F'->RE K C.toCf F' H' σ ρ->D.bk σ H'
 | .ct ρ=>∀ F' H' σ,bh F F'->RE K C.toCf F' H' σ ρ->D.ct σ H'
 | .rt p=>∀ v F' H',bh F F'->RB C.toCf F' H'->Rep K F' v p->D.rt v H'
 | .ro p=>∀ a F' H',bh F F'->RB C.toCf F' H'->Own K F' H' a p->F' a=none->C.H0 a=none->D.rt (.ref a) H'
 | .rd p=>∀ v F' H' S,bh F F'->RB C.toCf F' H'->Dp K F' H' S v p->(∀ b,S b->F' b=none∧(∃ o,H' b=some o∧∀ ys,o≠.tup ys)∧C.H0 b=none)->D.rt v H'
 | .ex z=>PX C F z
noncomputable def MS (K:PySem.W.Frag) (C:Cg) (t:TS) (f:Sn):Prop:=∀ F H σ ρ D o,RE K C.toCf F H σ ρ->f ρ=some o->PO' K C F D o->t D σ H
noncomputable def lz {α:Type} (x:Option (Res α)) (k:α->Option Out):Option Out:=match x with
 | some (.ok a)=>k a
 | some (.ex z)=>some (.ex z)
 | none=>none
theorem gk {α:Type}{x:Option (Res α)}{k:α->Option Out}{o:Out} (h:lz x k=some o):(∃ z,x=some (.ex z)∧o=.ex z)∨∃ a,x=some (.ok a)∧k a=some o:=by
 match x,h with
 | some (.ok a),h=>exact .inr ⟨a,rfl,h⟩
 | some (.ex z),h=>exact .inl ⟨z,rfl,(Zab h).symm⟩
section
variable {K:PySem.W.Frag}{C:Cg}{α β γ:Type}{A:Rel α}{ta tb te:TE}{F H:Hp}{σ:St}{ρ:Rho}{D:Ends}{t u:TS}{f g:Sn}{o:Out}
theorem PO'.up {F1:Hp} (h:PO' K C F D o) (s:bh F F1):PO' K C F1 D o:=by
 cases o with
 | nx ρ=>exact fun F' H' σ a=>h F' H' σ (s.trans a)
 | bk ρ=>exact fun F' H' σ a=>h F' H' σ (s.trans a)
 | ct ρ=>exact fun F' H' σ a=>h F' H' σ (s.trans a)
 | rt p=>exact fun v F' H' a=>h v F' H' (s.trans a)
 | ro p=>exact fun v F' H' a=>h v F' H' (s.trans a)
 | rd p=>exact fun v F' H' S a=>h v F' H' S (s.trans a)
 | ex z=>exact PX.up h s
theorem MJ.sS {fe:Fn α}{Q:VK}{k:α->Option Out} (h:MJ K C A ta fe) (R:RE K C.toCf F H σ ρ) (hb:lz (fe ρ) k=some o) (P:PO' K C F D o)
  (go:∀ p v F1 H1,k p=some o->Up F H F1 H1->A F1 H1 v p->Q v H1):ta σ H Q:=by
 rcases gk hb with ⟨z,e,rfl⟩ | ⟨p,e,hk⟩
 ·exact h F H σ ρ Q _ R e P
 ·exact h F H σ ρ Q _ R e fun v F1 H1 u a=>go p v F1 H1 hk u a
theorem MO.sS {fe:Fn PV}{Q:VK}{k:PV->Option Out} (h:MO K C ta fe) (R:RE K C.toCf F H σ ρ) (hb:lz (fe ρ) k=some o) (P:PO' K C F D o)
  (go:∀ p a F1 H1,k p=some o->Up F H F1 H1->H a=none->F1 a=none->Own K F1 H1 a p->Q (.ref a) H1):ta σ H Q:=by
 rcases gk hb with ⟨z,e,rfl⟩ | ⟨p,e,hk⟩
 ·exact h F H σ ρ Q _ R e P
 ·exact h F H σ ρ Q _ R e fun a F1 H1 u n1 n2 w=>go p a F1 H1 hk u n1 n2 w
theorem MT.sS {tt:TT}{fe:Fn Bool}{Q:Bool->Hp->Prop}{k:Bool->Option Out} (h:MT K C tt fe) (R:RE K C.toCf F H σ ρ) (hb:lz (fe ρ) k=some o) (P:PO' K C F D o)
  (go:∀ b F1 H1,k b=some o->Up F H F1 H1->Q b H1):tt σ H Q:=by
 rcases gk hb with ⟨z,e,rfl⟩ | ⟨p,e,hk⟩
 ·exact h F H σ ρ Q _ R e P
 ·exact h F H σ ρ Q _ R e fun F1 H1 u=>go p F1 H1 hk u
noncomputable def cC:Sn:=fun ρ=>some (.nx ρ)
noncomputable def bj (f g:Sn):Sn:=fun ρ=>match f ρ with
 | some (.nx ρ')=>g ρ'
 | x=>x
theorem bA:MS K C Oc cC:=fun F H σ ρ D o R e P=>by
 cases e
 exact P F H σ (bh.refl _) R
theorem aJ (h1:MS K C t f) (h2:MS K C u g):MS K C (Ru t u) (bj f g):=by
 intro F H σ ρ D o R e P
 unfold bj at e
 split at e
 ·rename_i ρ' h
  refine h1 F H σ ρ _ _ R h ?_
  exact fun F' H' σ' s R'=>h2 F' H' σ' ρ' D o R' e (P.up s)
 ·rename_i x hx
  cases o with
  | nx ρ'=>exact absurd e (hx ρ')
  | bk ρ=>exact h1 F H σ _ _ _ R e P
  | ct ρ=>exact h1 F H σ _ _ _ R e P
  | rt p=>exact h1 F H σ _ _ _ R e P
  | ro p=>exact h1 F H σ _ _ _ R e P
  | rd p=>exact h1 F H σ _ _ _ R e P
  | ex z=>exact h1 F H σ _ _ _ R e P
noncomputable def MG (K:PySem.W.Frag) (C:Cg) (g:TG) (tg:PV->Rho->Option Rho):Prop :=
 ∀ F H σ ρ v p ρ' Q,RE K C.toCf F H σ ρ->Rep K F v p->tg p ρ=some ρ'->(∀ σ',RE K C.toCf F H σ' ρ'->Q σ' H)->g v σ H Q
noncomputable def MGs (K:PySem.W.Frag) (C:Cg) (g:TGs) (tg:List PV->Rho->Option Rho):Prop :=
 ∀ F H σ ρ vs ps ρ' Q,RE K C.toCf F H σ ρ->bR K F vs ps->tg ps ρ=some ρ'->(∀ σ',RE K C.toCf F H σ' ρ'->Q σ' H)->g vs σ H Q
noncomputable def gN (i:Nat):PV->Rho->Option Rho:=fun p ρ=>some (ρ.set i (some (.sh p)))
theorem aN (i:Nat):MG K C (uD i) (gN i):=fun F H σ ρ v p ρ' Q R r e k=>by
 cases e
 exact k _ (R.set i r)
noncomputable def gsNil:List PV->Rho->Option Rho
 | [],ρ=>some ρ
 | _::_,_=>none
noncomputable def gsCons (t:PV->Rho->Option Rho) (u:List PV->Rho->Option Rho):List PV->Rho->Option Rho
 | [],_=>none
 | p::l,ρ=>match t p ρ with
  | some ρ'=>u l ρ'
  | none=>none
theorem sU:MGs K C Rx gsNil:=fun F H σ ρ vs ps ρ' Q R r e k=>by
 cases ps with
 | nil=>cases e;exact ⟨r.gP,k σ R⟩
 | cons p l=>cases e
theorem gm {g:TG}{gs:TGs}{tg:PV->Rho->Option Rho}{tgs:List PV->Rho->Option Rho} (h:MG K C g tg) (hs:MGs K C gs tgs):MGs K C (Od g gs) (gsCons tg tgs):=fun F H σ ρ vs ps ρ' Q R r e k=>by
 cases ps with
 | nil=>cases e
 | cons p l =>
  obtain ⟨v,ys,rfl,r1,r2⟩:=r.dO
  have e':(match tg p ρ with
   | some ρ'=>tgs l ρ'
   | none=>none)=some ρ':=e
  split at e'
  ·rename_i ρ1 h1
   exact ⟨v,ys,rfl,h F H σ ρ v p ρ1 _ R r1 h1 fun σ' R'=>hs F H σ' ρ1 ys l ρ' Q R' r2 e' k⟩
  ·cases e'
noncomputable def gT (n:Nat) (t:List PV->Rho->Option Rho):PV->Rho->Option Rho:=fun p ρ=>match p with
 | .tup l=>if l.length=n then t l ρ else none
 | _=>none
theorem vL {n:Nat}{gs:TGs}{tgs:List PV->Rho->Option Rho} (hs:MGs K C gs tgs):MG K C (Ry K n gs) (gT n tgs):=fun F H σ ρ v p ρ' Q R r e k=>by
 unfold gT at e
 split at e
 ·rename_i l
  split at e
  ·rename_i hn
   obtain ⟨a,xs,rfl,hq,rr⟩:=r.dz
   exact ⟨a,xs,rfl,R.rb.sub.tup hq,by rw [rr.1];exact hn,hs F H σ ρ xs l ρ' Q R rr e k⟩
  ·cases e
 ·cases e
noncomputable def cY (fe:Fn PV) (tg:PV->Rho->Option Rho):Sn:=fun ρ=>lz (fe ρ) fun p=>match tg p ρ with
 | some ρ'=>some (.nx ρ')
 | none=>none
theorem bJ {fe:Fn PV}{gt:TG}{tg:PV->Rho->Option Rho} (h:MJ K C (aF K) te fe) (hg:MG K C gt tg):MS K C (Aa te gt) (cY fe tg):=by
 intro F H σ ρ D o R e P
 refine h.sS R e P fun p v F1 H1 hk u a=>?_
 split at hk
 ·rename_i ρ' h1
  cases hk
  exact hg F1 H1 σ ρ v p ρ' _ (R.up u) a h1 fun σ' R'=>P F1 H1 σ' u.ff R'
 ·cases hk
noncomputable def fX (i:Nat) (fe:Fn PV):Sn:=fun ρ=>lz (fe ρ) fun p=>some (.nx (ρ.set i (some (.ow p))))
theorem dH {i:Nat}{fe:Fn PV} (nw:C.nw) (h:MO K C te fe):MS K C (Aa te (uD i)) (fX i fe):=by
 intro F H σ ρ D o R e P
 refine h.sS R e P fun p a F1 H1 hk u n1 n2 w=>?_
 cases hk
 exact P F1 H1 _ u.ff ((R.up u).T4 i w n2 nw (R.rb.Fd n1) (fun j q hj _=>R.apart n1 j q hj) (R.Qd n1 u))
noncomputable def dU (fe:Fn PV):Sn:=fun ρ=>lz (fe ρ) fun p=>some (.rt p)
theorem bT {fe:Fn PV} (h:MJ K C (aF K) te fe):MS K C (Lk te) (dU fe):=by
 intro F H σ ρ D o R e P
 refine h.sS R e P fun p v F1 H1 hk u a=>?_
 cases hk
 exact P v F1 H1 u.ff (R.rb.up u) a
noncomputable def Fg (fe:Fn PV):Sn:=fun ρ=>lz (fe ρ) fun p=>some (.ro p)
theorem Ma {fe:Fn PV} (h:MO K C te fe):MS K C (Lk te) (Fg fe):=by
 intro F H σ ρ D o R e P
 refine h.sS R e P fun p a F1 H1 hk u n1 n2 w=>?_
 cases hk
 exact P a F1 H1 u.ff (R.rb.up u) w n2 (R.rb.Fd n1)
noncomputable def ownAt (i:Nat) (ρ:Rho):Option PV:=match ρ[i]? with
 | some (some (.ow p))=>some p
 | _=>none
theorem cM {i:Nat}{p:PV} (h:ownAt i ρ=some p):ρ[i]?=some (some (.ow p)):=by
 unfold ownAt at h
 split at h
 ·rename_i q hq;cases h;exact hq
 ·cases h
noncomputable def jJ (i:Nat):Sn:=fun ρ=>match ownAt i ρ with
 | some p=>some (.ro p)
 | none=>none
theorem lO (i:Nat) (hio:∀ a,¬C.io a):MS K C (Lk (qU i)) (jJ i):=by
 intro F H σ ρ D o R e P
 unfold jJ at e
 split at e
 ·rename_i p hp
  cases e
  obtain ⟨a,e1,e2,e3,e4⟩:=R.ow i p (cM hp)
  exact ⟨_,e1,P a F H (bh.refl _) R.rb e2 e3 (e4.resolve_left (hio a)).2⟩
 ·cases e
noncomputable def yW (i:Nat) (ρ:Rho):Rho:=match ownAt i ρ with
 | some p=>ρ.set i (some (.sh p))
 | none=>ρ
theorem CW (i:Nat) (hio:∀ a,¬C.io a) (h:MS K C t f):MS K C t (fun ρ=>f (yW i ρ)):=by
 intro F H σ ρ D o R e P
 have e:f (yW i ρ)=some o:=e
 unfold yW at e
 cases hp:ownAt i ρ with
 | none=>rw [hp] at e;exact h F H σ ρ D o R e P
 | some p =>
  rw [hp] at e
  obtain ⟨F',s,R'⟩:=R.frz (cM hp) fun a _=>hio a
  exact h F' H σ _ D o R' e (P.up s)
noncomputable def lQ (i:Nat) (fe:Fn PV):Sn:=fun ρ=>match ownAt i ρ with
 | some (.lst l)=>lz (fe ρ) fun p=>if l.length < sizeLine then some (.nx (ρ.set i (some (.ow (.lst (l++[p])))))) else none
 | _=>none
theorem gF {i:Nat}{fe:Fn PV} (h:MJ K C (aF K) te fe):MS K C (Er (tBM K "list" Ex (qU i) (jh te uQ))) (lQ i fe):=by
 intro F H σ ρ D o R e P
 unfold lQ at e
 split at e
 ·rename_i l hl
  obtain ⟨a,g1,⟨xs,g2,g3⟩,g4,g5⟩:=R.ow i _ (cM hl)
  refine ⟨_,g1,tyL g2,h.sS R e P fun p v F1 H1 hk u w=>?_⟩
  split at hk
  ·rename_i hlen
   cases hk
   obtain ⟨a',k1,⟨ys,k2,k3⟩,k4,k5⟩:=(R.up u).ow i _ (cM hl)
   rw [g1] at k1
   cases k1
   refine ⟨a,ys,v,rfl,rfl,k2,by rw [k3.1];exact hlen,?_⟩
   exact P F1 _ σ u.ff ((R.up u).write (cM hl) g1 ⟨_,aX,k3.snoc w⟩)
  ·cases hk
 ·cases e
noncomputable def CZ (i:Nat) (fe fi:Fn PV):Sn:=fun ρ=>lz (fe ρ) fun p=>match ownAt i ρ with
 | some (.lst l)=>lz (fi ρ) fun k=>match k with
  | .int k=>match ixN l.length k with
   | some j=>some (.nx (ρ.set i (some (.ow (.lst (l.set j p))))))
   | none=>none
  | _=>none
 | _=>none
theorem yX {i:Nat}{fe fi:Fn PV} (h:MJ K C (aF K) te fe) (hi:MJ K C (aF K) tb fi):MS K C (Aa te (Rz (qU i) tb Ol)) (CZ i fe fi):=by
 intro F H σ ρ D o R e P
 refine h.sS R e P fun p v F1 H1 hk u a=>?_
 split at hk
 ·rename_i l hl
  obtain ⟨b,g1,_⟩:=R.ow i _ (cM hl)
  refine ⟨_,g1,hi.sS (R.up u) hk (P.up u.ff) fun q w F2 H2 hk2 u2 rw'=>?_⟩
  split at hk2
  ·rename_i k
   split at hk2
   ·rename_i j hj
    cases hk2
    cases Rep.bK rw'
    obtain ⟨a',k1,⟨ys,k2,k3⟩,k4,k5⟩:=(R.up (u.trans u2)).ow i _ (cM hl)
    rw [g1] at k1
    cases k1
    refine ⟨b,ys,k,j,rfl,rfl,k2,by rw [k3.1];exact hj,?_⟩
    exact P F2 _ σ (u.trans u2).ff ((R.up (u.trans u2)).write (cM hl) g1 ⟨_,aX,k3.set (Rep.up a u2.ff) j⟩)
   ·cases hk2
  ·cases hk2
 ·cases hk
noncomputable def du (fc:Fn Bool) (f g:Sn):Sn:=fun ρ=>lz (fc ρ) fun b=>if b=true then f ρ else g ρ
theorem cD {c:TT}{fc:Fn Bool} (hc:MT K C c fc) (h1:MS K C t f) (h2:MS K C u g):MS K C (Rv c t u) (du fc f g):=by
 intro F H σ ρ D o R e P
 refine hc.sS R e P fun b F1 H1 hk uu=>?_
 cases b with
 | true=>rw [if_pos rfl] at hk ⊢;exact h1 F1 H1 σ ρ D o (R.up uu) hk (P.up uu.ff)
 | false=>rw [if_neg (by decide)] at hk ⊢;exact h2 F1 H1 σ ρ D o (R.up uu) hk (P.up uu.ff)
structure ItR (K:PySem.W.Frag) (J:It) (F:Hp) (l:List PV):Prop where
 stop:∀ F' H',bh F F'->bh F' H'->J.stop l.length H'
 go:∀ i F' H',i < l.length->bh F F'->bh F' H'->J.go i H'
 yld:∀ i F' H' x H'',i < l.length->bh F F'->bh F' H'->J.yld i H' x H''->∃ F'' p,Up F' H' F'' H''∧l[i]?=some p∧Rep K F'' x p
noncomputable def MI (K:PySem.W.Frag) (C:Cg) (wi:TI) (f:Fn (List PV)):Prop :=
 ∀ F H σ ρ R' r,RE K C.toCf F H σ ρ->f ρ=some r->Pr C F (fun l=>∀ J F' H',Up F H F' H'->ItR K J F' l->R' J H') r->wi σ H R'
noncomputable def loop (tg:PV->Rho->Option Rho) (body:Sn):List PV->Rho->Option Out
 | [],ρ=>some (.nx ρ)
 | x::xs,ρ=>match tg x ρ with
  | none=>none
  | some ρ1=>match body ρ1 with
   | some (.nx ρ2)=>loop tg body xs ρ2
   | some (.ct ρ2)=>loop tg body xs ρ2
   | some (.bk ρ2)=>some (.nx ρ2)
   | x=>x
noncomputable def lR (it:Fn (List PV)) (tg:PV->Rho->Option Rho) (body:Sn):Sn:=fun ρ=>lz (it ρ) fun l=>loop tg body l ρ
theorem Hi {J:It}{gt:TG}{tg:PV->Rho->Option Rho}{l:List PV} (hg:MG K C gt tg) (hb:MS K C t f) (hJ:ItR K J F l) (R:RE K C.toCf F H σ ρ) (e:loop tg f l ρ=some o) (P:PO' K C F D o):T3 J gt t D σ H:=by
 refine ⟨fun i m σ' H'=>∃ F' ρ',m=l.length - i∧i≤l.length∧bh F F'∧RE K C.toCf F' H' σ' ρ'∧loop tg f (l.drop i) ρ'=some o,⟨l.length,F,ρ,by simp,Za9 _,bh.refl _,R,by rw [Za3];exact e⟩,?_⟩
 rintro i m σ' H' ⟨F',ρ',rfl,hi,s,R',e'⟩
 by_cases hlt:i < l.length
 ·refine .inr ⟨hJ.go i F' H' hlt s R'.rb.sub,fun σ2 H2=>∃ F2 ρ2,bh F F2∧RE K C.toCf F2 H2 σ2 ρ2∧loop tg f (l.drop (i+1)) ρ2=some o,fun σ2 H2 ⟨F2,ρ2,s2,R2,e2⟩=>⟨l.length - (i+1),by omega,F2,ρ2,rfl,hlt,s2,R2,e2⟩,fun x H'' y=>?_⟩
  obtain ⟨F'',p,u,ep,rx⟩:=hJ.yld i F' H' x H'' hlt s R'.rb.sub y
  have ed:l.drop i=p::l.drop (i+1):=by
   rw [ZaH hlt]
   rw [Zac hlt] at ep
   rw [Zab ep]
  rw [ed,loop] at e'
  split at e'
  ·cases e'
  ·rename_i ρ1 h1
   refine hg F'' H'' σ' ρ' x p ρ1 _ (R'.up u) rx h1 fun σ1 R1=>?_
   have sF:bh F F'':=s.trans u.ff
   split at e'
   ·rename_i ρ2 h2
    exact hb F'' H'' σ1 ρ1 _ _ R1 h2 fun F3 H3 σ3 s3 R3=>⟨F3,ρ2,sF.trans s3,R3,e'⟩
   ·rename_i ρ2 h2
    exact hb F'' H'' σ1 ρ1 _ _ R1 h2 fun F3 H3 σ3 s3 R3=>⟨F3,ρ2,sF.trans s3,R3,e'⟩
   ·rename_i ρ2 h2
    cases e'
    exact hb F'' H'' σ1 ρ1 _ _ R1 h2 fun F3 H3 σ3 s3 R3=>P F3 H3 σ3 (sF.trans s3) R3
   ·rename_i n1 n2 n3
    cases o with
    | nx ρ2=>exact absurd e' (n1 ρ2)
    | ct ρ2=>exact absurd e' (n2 ρ2)
    | bk ρ2=>exact absurd e' (n3 ρ2)
    | rt p=>exact hb F'' H'' σ1 ρ1 _ _ R1 e' (PO'.up (D:=D) P sF)
    | ro p=>exact hb F'' H'' σ1 ρ1 _ _ R1 e' (PO'.up (D:=D) P sF)
    | rd p=>exact hb F'' H'' σ1 ρ1 _ _ R1 e' (PO'.up (D:=D) P sF)
    | ex z=>exact hb F'' H'' σ1 ρ1 _ _ R1 e' (PX.up P sF)
 ·have ei:i=l.length:=by omega
  subst ei
  rw [List.drop_length] at e'
  cases e'
  exact .inl ⟨hJ.stop F' H' s R'.rb.sub,P F' H' σ' s R'⟩
theorem gf {wi:TI}{it:Fn (List PV)}{gt:TG}{tg:PV->Rho->Option Rho} (hi:MI K C wi it) (hg:MG K C gt tg) (hb:MS K C t f):MS K C (RC wi gt t) (lR it tg f):=by
 intro F H σ ρ D o R e P
 rcases gk e with ⟨z,e1,rfl⟩ | ⟨l,e1,hk⟩
 ·exact hi F H σ ρ _ _ R e1 P
 ·exact hi F H σ ρ _ _ R e1 fun J F' H' u hJ=>Hi hg hb hJ (R.up u) hk (P.up u.ff)
end
noncomputable def eqL (f:PV->PV->Option Bool):List PV->List PV->Option Bool
 | [],[]=>some true
 | [],_::_=>some false
 | _::_,[]=>some false
 | x::xs,y::ys=>match f x y,eqL f xs ys with
  | some a,some b=>some (a && b)
  | _,_=>none
noncomputable def eqF:Nat->PV->PV->Option Bool
 | _,.non,.non=>some true
 | _,.non,.bl _=>some false
 | _,.non,.int _=>some false
 | _,.non,.str _=>some false
 | _,.bl _,.non=>some false
 | _,.bl a,.bl b=>some (decide (a=b))
 | _,.bl _,.str _=>some false
 | _,.int _,.non=>some false
 | _,.int a,.int b=>some (decide (a=b))
 | _,.int _,.str _=>some false
 | _,.str _,.non=>some false
 | _,.str _,.bl _=>some false
 | _,.str _,.int _=>some false
 | _,.str a,.str b=>some (decide (a=b))
 | _,.non,.tup _=>some false
 | _,.tup _,.non=>some false
 | _,.non,.lst _=>some false
 | _,.lst _,.non=>some false
 | _,.int _,.tup _=>some false
 | _,.tup _,.int _=>some false
 | _,.str _,.tup _=>some false
 | _,.tup _,.str _=>some false
 | _,.int _,.lst _=>some false
 | _,.lst _,.int _=>some false
 | _,.str _,.lst _=>some false
 | _,.lst _,.str _=>some false
 | _,.lst _,.tup _=>some false
 | _,.tup _,.lst _=>some false
 | n+1,.tup l,.tup m=>eqL (eqF n) l m
 | n+1,.lst l,.lst m=>if l.length=m.length then eqL (eqF n) l m else some false
 | _,_,_=>none
theorem pH {f:PV->PV->Option Bool} (h:∀ p r,f p p=some r->r=true):∀ {l:List PV}{r:Bool},eqL f l l=some r->r=true
 | [],r,e=>by cases e;rfl
 | x::xs,r,e=>by
  rw [eqL] at e
  split at e
  ·rename_i a b h1 h2
   cases e
   rw [h x a h1,pH h h2];rfl
  ·cases e
theorem Aq:∀ (n:Nat) (p:PV) (r:Bool),eqF n p p=some r->r=true
 | n,p,r,e=>by
  induction n generalizing p r with
  | zero=>cases p <;> first | (cases (show some true=some r from e);rfl) | (cases (show some (decide _)=some r from e);exact decide_eq_true rfl) | cases (show none=some r from e)
  | succ n ih =>
   cases p with
   | tup l=>exact pH ih e
   | lst l =>
    have e:(if l.length=l.length then eqL (eqF n) l l else some false)=some r:=e
    rw [if_pos rfl] at e;exact pH ih e
   | _=>first | (cases (show some true=some r from e);rfl) | (cases (show some (decide _)=some r from e);exact decide_eq_true rfl) | cases (show none=some r from e)
theorem yZ {f:PV->PV->Option Bool}:∀ {l m:List PV}{r:Bool},eqL f l m=some r->∃ e:Nat->Bool,(∀ (j:Nat) x y,l[j]?=some x->m[j]?=some y->f x y=some (e j))∧r=((List.range (min l.length m.length)).all e && l.length == m.length)
 | [],[],r,h=>⟨fun _=>true,fun j x y a=>by simp at a,by cases h;rfl⟩
 | [],_::_,r,h=>⟨fun _=>true,fun j x y a=>by simp at a,by cases h;simp⟩
 | _::_,[],r,h=>⟨fun _=>true,fun j x y _ a=>by simp at a,by cases h;simp⟩
 | x::xs,y::ys,r,h=>by
  rw [eqL] at h
  split at h
  ·rename_i a b h1 h2
   cases h
   obtain ⟨e,e1,e2⟩:=yZ h2
   refine ⟨fun j=>match j with | 0=>a | j+1=>e j,fun j x' y' a' b'=>?_,?_⟩
   ·cases j with
    | zero=>simp at a' b';subst a' b';exact h1
    | succ j=>exact e1 j x' y' (by simpa using a') (by simpa using b')
   ·rw [e2,Zak,Zak,Nat.succ_min_succ,List.range_succ_eq_map,Zbm,List.all_map]
    have:((xs.length+1 == ys.length+1):Bool)=(xs.length == ys.length):=by
     rw [Bool.eq_iff_iff];simp
    rw [this]
    cases a <;> simp [Function.comp_def]
  ·cases h
section
variable {X:Cx}{pins:List (Addr×Obj)}{σ:St}{H:Hp}{s:Shared}
theorem Rep.kinds (I:Inv X pins σ H s) {a:Addr}{xs ys:List V} (h1:SqL X.K H a xs) (h2:SqT X.K H a ys):False:=by
 obtain ⟨_,_,p1,_⟩:=I.list h1
 obtain ⟨_,_,p2,_⟩:=I.tuple h2
 obtain ⟨o,n,e,c,_⟩:=p1
 obtain ⟨o',e',c',_⟩:=p2
 rw [e] at e';cases e'
 rw [c] at c';exact absurd c' (by decide)
theorem Ar {xs:List V}{l m:List PV} (h1:xs.length=l.length) (h2:xs.length=m.length) (h:∀ (j:Nat) x p q,xs[j]?=some x->l[j]?=some p->m[j]?=some q->p=q):l=m:=by
 apply List.ext_getElem?
 intro j
 by_cases hj:j < xs.length
 ·have hl:j < l.length:=by omega
  have hm:j < m.length:=by omega
  rw [Zac hl,Zac hm,h j xs[j] l[j] m[j] (by simp [hj]) (by simp [hl]) (by simp [hm])]
 ·rw [ZaQ (by omega),ZaQ (by omega)]
noncomputable def HO.isDict:HO->Bool
 | .dK _=>true
 | .dT _=>true
 | _=>false
theorem Mf {H:Hp}{a:Addr}{u v:HO} (hu:HO.isDict u=true) (hv:HO.isDict v=true) (h:Rd H a u) (h':Rd H a v):u=v:=by
 rcases h with h | ⟨o,h⟩ <;> rcases h' with h' | ⟨o',h'⟩ <;> rw [h] at h' <;> cases h'
 ·rfl
 ·cases hu
 ·cases hv
 ·rfl
theorem za {H:Hp}{a:Addr}{u v:HO} (h:Rd H a u) (h':Rd H a v) (hu:HO.isDict u=true:=by rfl) (hv:HO.isDict v=true:=by rfl):u=v:=Mf hu hv h h'
theorem Rep.noDict (I:Inv X pins σ H s) {a:Addr}{ks:List (Key×V)}{ts:List (List Key×V)} (h1:Rd H a (.dK ks)∨Rd H a (.dT ts)) (h2:(∃ xs,SqL X.K H a xs)∨∃ xs,SqT X.K H a xs):False:=by
 have d:∃ o es ep,s.heap.get? a=some o∧o.data=.dict es ep:=by
  rcases h1 with h1 | h1
  ·obtain ⟨_,_,_,_,o,es,ep,e,x,d,_⟩:=h1.ok I.hok
   exact ⟨o,es,ep,e,d⟩
  ·obtain ⟨_,_,_,_,o,es,ep,e,x,d,_⟩:=h1.ok I.hok
   exact ⟨o,es,ep,e,d⟩
 obtain ⟨o,es,ep,e,d⟩:=d
 rcases h2 with ⟨xs,h2⟩ | ⟨xs,h2⟩
 ·obtain ⟨_,_,p1,_⟩:=I.list h2
  obtain ⟨o',n,e',_,_,d'⟩:=p1
  rw [e] at e';cases e'
  rw [d] at d';cases d'
 ·obtain ⟨_,_,p1,_⟩:=I.tuple h2
  obtain ⟨o',e',_,n,d'⟩:=p1
  rw [e] at e';cases e'
  rw [d] at d';cases d'
theorem XO.at (I:Inv X pins σ H s) {a C:Addr}{d:Option Addr} (h:H a=some (XO a C d)):∃ vs:Array Value,s.heap.get? a=some { cls:=.ref C,dict:=d,data:=.fields vs }:=(I.hok _ _ h).1
theorem XO.inj (I:Inv X pins σ H s) {a C C':Addr}{d d':Option Addr} (h:H a=some (XO a C d)) (h':H a=some (XO a C' d')):C=C'∧d=d':=by
 obtain ⟨vs,e⟩:=XO.at I h
 obtain ⟨vs',e'⟩:=XO.at I h'
 rw [e] at e'
 cases e'
 exact ⟨rfl,rfl⟩
theorem XO.noSeq (I:Inv X pins σ H s) {a C:Addr}{d:Option Addr} (h:H a=some (XO a C d)) (h2:(∃ xs,SqL X.K H a xs)∨∃ xs,SqT X.K H a xs):False:=by
 obtain ⟨vs,e⟩:=XO.at I h
 rcases h2 with ⟨xs,h2⟩ | ⟨xs,h2⟩
 ·obtain ⟨_,_,p1,_⟩:=I.list h2
  obtain ⟨o',n,e',_,_,d'⟩:=p1
  rw [e] at e';cases e'
  cases d'
 ·obtain ⟨_,_,p1,_⟩:=I.tuple h2
  obtain ⟨o',e',_,n,d'⟩:=p1
  rw [e] at e';cases e'
  cases d'
theorem XNm.inj {K:PySem.W.Frag}{C:Addr}{c c':Str} (a:XNm K C c) (b:XNm K C c'):c=c':=by
 obtain ⟨cd,h1,h2⟩:=a.cl
 obtain ⟨cd',h1',h2'⟩:=b.cl
 rw [h1] at h1';cases h1'
 exact h2.symm.trans h2'
theorem Rep.inj (I:Inv X pins σ H s) {x:V}{p:PV} (h:Rep X.K H x p):∀ {q:PV},Rep X.K H x q->p=q:=by
 have pairs:∀ {κ:Type}{xs:List (κ×V)}{l m:List (κ×PV)},xs.map (·.1)=l.map (·.1)->xs.map (·.1)=m.map (·.1)->(∀ (j:Nat) x p q,xs[j]?=some x->l[j]?=some p->m[j]?=some q->p.2=q.2)->l=m:=by
  intro κ xs l m h1 h2 h3
  have l1:xs.length=l.length:=by simpa using congrArg List.length h1
  have l2:xs.length=m.length:=by simpa using congrArg List.length h2
  apply List.ext_getElem?
  intro j
  by_cases hj:j < xs.length
  ·have hl:j < l.length:=by omega
   have hm:j < m.length:=by omega
   rw [Zac hl,Zac hm]
   have k:=congrArg (·[j]?) (h1.symm.trans h2)
   simp [hl,hm] at k
   have v:=h3 j xs[j] l[j] m[j] (by simp [hj]) (by simp [hl]) (by simp [hm])
   rw [Prod.ext k v]
  ·rw [ZaQ (by omega),ZaQ (by omega)]
 induction h with
 | non=>intro q h';cases h';rfl
 | bl=>intro q h';cases h';rfl
 | int=>intro q h';cases h';rfl
 | str=>intro q h';cases h';rfl
 | ty=>intro q h';cases h';rfl
 | @tup a xs l h hl _ ih =>
  intro q h'
  have h:=SqT.of (K:=X.K) h
  cases h' with
  | tup h2 hl2 hr2 =>
   cases I.xJ h (SqT.of (K:=X.K) h2)
   rw [Ar hl hl2 fun j x p q e1 e2 e3=>ih j x p e1 e2 (hr2 j x q e1 e3)]
  | lst h2=>exact (Rep.kinds I h2 h).elim
  | dk h2=>exact (Rep.noDict I (ts:=[]) (.inl h2) (.inr ⟨_,h⟩)).elim
  | dt h2=>exact (Rep.noDict I (ks:=[]) (.inr h2) (.inr ⟨_,h⟩)).elim
  | exc _ h2=>exact (XO.noSeq I h2 (.inr ⟨_,h⟩)).elim
  | exc0 _ h2=>exact (XO.noSeq I h2 (.inr ⟨_,h⟩)).elim
 | @lst a xs l h hl _ ih =>
  intro q h'
  cases h' with
  | tup h2=>exact (Rep.kinds I h (SqT.of h2)).elim
  | lst h2 hl2 hr2 =>
   cases I.rW h h2
   rw [Ar hl hl2 fun j x p q e1 e2 e3=>ih j x p e1 e2 (hr2 j x q e1 e3)]
  | dk h2=>exact (Rep.noDict I (ts:=[]) (.inl h2) (.inl ⟨_,h⟩)).elim
  | dt h2=>exact (Rep.noDict I (ks:=[]) (.inr h2) (.inl ⟨_,h⟩)).elim
  | exc _ h2=>exact (XO.noSeq I h2 (.inl ⟨_,h⟩)).elim
  | exc0 _ h2=>exact (XO.noSeq I h2 (.inl ⟨_,h⟩)).elim
 | @dk a xs l h hl _ ih =>
  intro q h'
  cases h' with
  | tup h2=>exact (Rep.noDict I (ts:=[]) (.inl h) (.inr ⟨_,SqT.of h2⟩)).elim
  | lst h2=>exact (Rep.noDict I (ts:=[]) (.inl h) (.inl ⟨_,h2⟩)).elim
  | dk h2 hl2 hr2 =>
   cases (za h h2)
   rw [pairs hl hl2 fun j x p q e1 e2 e3=>ih j x p e1 e2 (hr2 j x q e1 e3)]
  | dt h2=>cases za h h2
  | exc _ h2=>rcases h with h | ⟨o,h⟩ <;> rw [h] at h2 <;> cases h2
  | exc0 _ h2=>rcases h with h | ⟨o,h⟩ <;> rw [h] at h2 <;> cases h2
 | @dt a xs l h hl _ ih =>
  intro q h'
  cases h' with
  | tup h2=>exact (Rep.noDict I (ks:=[]) (.inr h) (.inr ⟨_,SqT.of h2⟩)).elim
  | lst h2=>exact (Rep.noDict I (ks:=[]) (.inr h) (.inl ⟨_,h2⟩)).elim
  | dk h2=>cases za h h2
  | dt h2 hl2 hr2 =>
   cases (za h h2)
   rw [pairs hl hl2 fun j x p q e1 e2 e3=>ih j x p e1 e2 (hr2 j x q e1 e3)]
  | exc _ h2=>rcases h with h | ⟨o,h⟩ <;> rw [h] at h2 <;> cases h2
  | exc0 _ h2=>rcases h with h | ⟨o,h⟩ <;> rw [h] at h2 <;> cases h2
 | @exc a C dx c xs l nm h hd hl _ ih =>
  intro q h'
  cases h' with
  | tup h2=>exact (XO.noSeq I h (.inr ⟨_,SqT.of h2⟩)).elim
  | lst h2=>exact (XO.noSeq I h (.inl ⟨_,h2⟩)).elim
  | dk h2=>rcases h2 with h2 | ⟨o,h2⟩ <;> rw [h] at h2 <;> cases h2
  | dt h2=>rcases h2 with h2 | ⟨o,h2⟩ <;> rw [h] at h2 <;> cases h2
  | exc nm2 h2 hd2 hl2 hr2 =>
   obtain ⟨rfl,e⟩:=XO.inj I h h2
   cases e
   rw [hd] at hd2;cases hd2
   cases XNm.inj nm nm2
   rw [pairs hl hl2 fun j x p q e1 e2 e3=>ih j x p e1 e2 (hr2 j x q e1 e3)]
  | exc0 nm2 h2=>cases (XO.inj I h h2).2
 | @exc0 a C c nm h =>
  intro q h'
  cases h' with
  | tup h2=>exact (XO.noSeq I h (.inr ⟨_,SqT.of h2⟩)).elim
  | lst h2=>exact (XO.noSeq I h (.inl ⟨_,h2⟩)).elim
  | dk h2=>rcases h2 with h2 | ⟨o,h2⟩ <;> rw [h] at h2 <;> cases h2
  | dt h2=>rcases h2 with h2 | ⟨o,h2⟩ <;> rw [h] at h2 <;> cases h2
  | exc nm2 h2=>cases (XO.inj I h h2).2
  | exc0 nm2 h2 =>
   obtain ⟨rfl,_⟩:=XO.inj I h h2
   cases XNm.inj nm nm2
   rfl
theorem Ju (I:Inv X pins σ H s):∀ {A:Around}{x y:V}{p q:PV}{r:Bool}{u v:Value},A.units < cLine->eqF 0 p q=some r->Rep X.K H x p->Rep X.K H y q->RelV x u->RelV y v ->
  SeqAt.RcAt A s u v r∧SeqAt.EqAt A s u v r∧SeqAt.RcNeAt A s u v (!r):=by
 intro A x y p q r u v hu e rx ry ru rv
 have hu0:A.units < cLine:=hu
 match p,q,e with
 | .non,.non,e =>
  have e:=Zab e
  subst e
  cases Rep.fK rx
  cases Rep.fK ry
  cases ru
  cases rv
  exact ⟨SeqAt.RcAt.none_none,SeqAt.EqAt.same _,SeqAt.RcNeAt.none_none⟩
 | .non,.bl b,e =>
  have e:=Zab e
  subst e
  cases Rep.fK rx
  cases Rep.gQ ry
  cases ru
  cases rv
  exact ⟨SeqAt.RcAt.none_bool _,SeqAt.EqAt.none_bool _,SeqAt.RcNeAt.none_bool _⟩
 | .non,.int b,e =>
  have e:=Zab e
  subst e
  cases Rep.fK rx
  cases Rep.bK ry
  cases ru
  obtain ⟨tb,rfl⟩:=rv
  exact ⟨SeqAt.RcAt.none_int _ _,SeqAt.EqAt.none_int _ _,SeqAt.RcNeAt.none_int _ _⟩
 | .non,.str b,e =>
  have e:=Zab e
  subst e
  cases Rep.fK rx
  cases Rep.bU ry
  cases ru
  obtain ⟨tb,rfl⟩:=rv
  exact ⟨SeqAt.RcAt.none_str _ _,SeqAt.EqAt.none_str _ _,SeqAt.RcNeAt.none_str _ _⟩
 | .bl a,.non,e =>
  have e:=Zab e
  subst e
  cases Rep.gQ rx
  cases Rep.fK ry
  cases ru
  cases rv
  exact ⟨SeqAt.RcAt.bool_none _,SeqAt.EqAt.bool_none _,SeqAt.RcNeAt.bool_none _⟩
 | .bl a,.bl b,e =>
  have e:=Zab e
  subst e
  cases Rep.gQ rx
  cases Rep.gQ ry
  cases ru
  cases rv
  rw [←Bool.beq_eq_decide_eq]
  exact ⟨SeqAt.RcAt.bool_bool _ _,SeqAt.EqAt.bool_bool _ _,SeqAt.RcNeAt.bool_bool _ _⟩
 | .bl a,.str b,e =>
  have e:=Zab e
  subst e
  cases Rep.gQ rx
  cases Rep.bU ry
  cases ru
  obtain ⟨tb,rfl⟩:=rv
  exact ⟨SeqAt.RcAt.bool_str _ _ _,SeqAt.EqAt.bool_str _ _ _,SeqAt.RcNeAt.bool_str _ _ _⟩
 | .int a,.non,e =>
  have e:=Zab e
  subst e
  cases Rep.bK rx
  cases Rep.fK ry
  obtain ⟨ta,rfl⟩:=ru
  cases rv
  exact ⟨SeqAt.RcAt.int_none _ _,SeqAt.EqAt.int_none _ _,SeqAt.RcNeAt.int_none _ _⟩
 | .int a,.int b,e =>
  have e:=Zab e
  subst e
  cases Rep.bK rx
  cases Rep.bK ry
  obtain ⟨ta,rfl⟩:=ru
  obtain ⟨tb,rfl⟩:=rv
  rw [←Bool.beq_eq_decide_eq]
  exact ⟨SeqAt.RcAt.int_int _ _ _ _,SeqAt.EqAt.int_int _ _ _ _,SeqAt.RcNeAt.int_int _ _ _ _⟩
 | .int a,.str b,e =>
  have e:=Zab e
  subst e
  cases Rep.bK rx
  cases Rep.bU ry
  obtain ⟨ta,rfl⟩:=ru
  obtain ⟨tb,rfl⟩:=rv
  exact ⟨SeqAt.RcAt.int_str _ _ _ _,SeqAt.EqAt.int_str _ _ _ _,SeqAt.RcNeAt.int_str _ _ _ _⟩
 | .str a,.non,e =>
  have e:=Zab e
  subst e
  cases Rep.bU rx
  cases Rep.fK ry
  obtain ⟨ta,rfl⟩:=ru
  cases rv
  exact ⟨SeqAt.RcAt.str_none _ _,SeqAt.EqAt.str_none _ _,SeqAt.RcNeAt.str_none _ _⟩
 | .str a,.bl b,e =>
  have e:=Zab e
  subst e
  cases Rep.bU rx
  cases Rep.gQ ry
  obtain ⟨ta,rfl⟩:=ru
  cases rv
  exact ⟨SeqAt.RcAt.str_bool _ _ _,SeqAt.EqAt.str_bool _ _ _,SeqAt.RcNeAt.str_bool _ _ _⟩
 | .str a,.int b,e =>
  have e:=Zab e
  subst e
  cases Rep.bU rx
  cases Rep.bK ry
  obtain ⟨ta,rfl⟩:=ru
  obtain ⟨tb,rfl⟩:=rv
  exact ⟨SeqAt.RcAt.str_int _ _ _ _,SeqAt.EqAt.str_int _ _ _ _,SeqAt.RcNeAt.str_int _ _ _ _⟩
 | .str a,.str b,e =>
  have e:=Zab e
  subst e
  cases Rep.bU rx
  cases Rep.bU ry
  obtain ⟨ta,rfl⟩:=ru
  obtain ⟨tb,rfl⟩:=rv
  rw [←Bool.beq_eq_decide_eq]
  exact ⟨SeqAt.RcAt.str_str _ _ _ _,SeqAt.EqAt.str_str _ _ _ _,SeqAt.RcNeAt.str_str _ _ _ _⟩
 | .tup a,.non,e =>
  have e:=Zab e
  subst e
  obtain ⟨aa,xsa,rfl,ha,_⟩:=rx.dz
  cases ru
  obtain ⟨_,_,pa,_⟩:=I.tuple ha
  cases Rep.fK ry
  cases rv
  exact ⟨SeqAt.RcAt.tuple_none pa hu0,SeqAt.EqAt.tuple_none pa hu0,SeqAt.RcNeAt.tuple_none pa hu0⟩
 | .non,.tup b,e =>
  have e:=Zab e
  subst e
  cases Rep.fK rx
  cases ru
  obtain ⟨ab,xsb,rfl,hb,_⟩:=ry.dz
  cases rv
  obtain ⟨_,_,pb,_⟩:=I.tuple hb
  exact ⟨SeqAt.RcAt.none_tuple pb hu0,SeqAt.EqAt.none_tuple pb hu0,SeqAt.RcNeAt.none_tuple pb hu0⟩
 | .tup a,.int b,e =>
  have e:=Zab e
  subst e
  obtain ⟨aa,xsa,rfl,ha,_⟩:=rx.dz
  cases ru
  obtain ⟨_,_,pa,_⟩:=I.tuple ha
  cases Rep.bK ry
  obtain ⟨tb,rfl⟩:=rv
  exact ⟨SeqAt.RcAt.tuple_int _ _ pa hu0,SeqAt.EqAt.tuple_int _ _ pa hu0,SeqAt.RcNeAt.tuple_int _ _ pa hu0⟩
 | .int a,.tup b,e =>
  have e:=Zab e
  subst e
  cases Rep.bK rx
  obtain ⟨ta,rfl⟩:=ru
  obtain ⟨ab,xsb,rfl,hb,_⟩:=ry.dz
  cases rv
  obtain ⟨_,_,pb,_⟩:=I.tuple hb
  exact ⟨SeqAt.RcAt.int_tuple _ _ pb hu0,SeqAt.EqAt.int_tuple _ _ pb hu0,SeqAt.RcNeAt.int_tuple _ _ pb hu0⟩
 | .tup a,.str b,e =>
  have e:=Zab e
  subst e
  obtain ⟨aa,xsa,rfl,ha,_⟩:=rx.dz
  cases ru
  obtain ⟨_,_,pa,_⟩:=I.tuple ha
  cases Rep.bU ry
  obtain ⟨tb,rfl⟩:=rv
  exact ⟨SeqAt.RcAt.tuple_str _ _ pa hu0,SeqAt.EqAt.tuple_str _ _ pa hu0,SeqAt.RcNeAt.tuple_str _ _ pa hu0⟩
 | .str a,.tup b,e =>
  have e:=Zab e
  subst e
  cases Rep.bU rx
  obtain ⟨ta,rfl⟩:=ru
  obtain ⟨ab,xsb,rfl,hb,_⟩:=ry.dz
  cases rv
  obtain ⟨_,_,pb,_⟩:=I.tuple hb
  exact ⟨SeqAt.RcAt.str_tuple _ _ pb hu0,SeqAt.EqAt.str_tuple _ _ pb hu0,SeqAt.RcNeAt.str_tuple _ _ pb hu0⟩
 | .lst a,.non,e =>
  have e:=Zab e
  subst e
  obtain ⟨aa,xsa,rfl,ha,_⟩:=rx.dB
  cases ru
  obtain ⟨_,_,pa,_⟩:=I.list ha
  cases Rep.fK ry
  cases rv
  exact ⟨SeqAt.RcAt.list_none pa.isList hu0,SeqAt.EqAt.list_none pa.isList hu0,SeqAt.RcNeAt.list_none pa.isList hu0⟩
 | .non,.lst b,e =>
  have e:=Zab e
  subst e
  cases Rep.fK rx
  cases ru
  obtain ⟨ab,xsb,rfl,hb,_⟩:=ry.dB
  cases rv
  obtain ⟨_,_,pb,_⟩:=I.list hb
  exact ⟨SeqAt.RcAt.none_list pb.isList hu0,SeqAt.EqAt.none_list pb.isList hu0,SeqAt.RcNeAt.none_list pb.isList hu0⟩
 | .lst a,.int b,e =>
  have e:=Zab e
  subst e
  obtain ⟨aa,xsa,rfl,ha,_⟩:=rx.dB
  cases ru
  obtain ⟨_,_,pa,_⟩:=I.list ha
  cases Rep.bK ry
  obtain ⟨tb,rfl⟩:=rv
  exact ⟨SeqAt.RcAt.list_int _ _ pa.isList hu0,SeqAt.EqAt.list_int _ _ pa.isList hu0,SeqAt.RcNeAt.list_int _ _ pa.isList hu0⟩
 | .int a,.lst b,e =>
  have e:=Zab e
  subst e
  cases Rep.bK rx
  obtain ⟨ta,rfl⟩:=ru
  obtain ⟨ab,xsb,rfl,hb,_⟩:=ry.dB
  cases rv
  obtain ⟨_,_,pb,_⟩:=I.list hb
  exact ⟨SeqAt.RcAt.int_list _ _ pb.isList hu0,SeqAt.EqAt.int_list _ _ pb.isList hu0,SeqAt.RcNeAt.int_list _ _ pb.isList hu0⟩
 | .lst a,.str b,e =>
  have e:=Zab e
  subst e
  obtain ⟨aa,xsa,rfl,ha,_⟩:=rx.dB
  cases ru
  obtain ⟨_,_,pa,_⟩:=I.list ha
  cases Rep.bU ry
  obtain ⟨tb,rfl⟩:=rv
  exact ⟨SeqAt.RcAt.list_str _ _ pa.isList hu0,SeqAt.EqAt.list_str _ _ pa.isList hu0,SeqAt.RcNeAt.list_str _ _ pa.isList hu0⟩
 | .str a,.lst b,e =>
  have e:=Zab e
  subst e
  cases Rep.bU rx
  obtain ⟨ta,rfl⟩:=ru
  obtain ⟨ab,xsb,rfl,hb,_⟩:=ry.dB
  cases rv
  obtain ⟨_,_,pb,_⟩:=I.list hb
  exact ⟨SeqAt.RcAt.str_list _ _ pb.isList hu0,SeqAt.EqAt.str_list _ _ pb.isList hu0,SeqAt.RcNeAt.str_list _ _ pb.isList hu0⟩
 | .lst a,.tup b,e =>
  have e:=Zab e
  subst e
  obtain ⟨aa,xsa,rfl,ha,_⟩:=rx.dB
  cases ru
  obtain ⟨_,_,pa,_⟩:=I.list ha
  obtain ⟨ab,xsb,rfl,hb,_⟩:=ry.dz
  cases rv
  obtain ⟨_,_,pb,_⟩:=I.tuple hb
  exact ⟨SeqAt.RcAt.list_tuple pa.isList pb hu0,SeqAt.EqAt.list_tuple pa.isList pb hu0,SeqAt.RcNeAt.list_tuple pa.isList pb hu0⟩
 | .tup a,.lst b,e =>
  have e:=Zab e
  subst e
  obtain ⟨aa,xsa,rfl,ha,_⟩:=rx.dz
  cases ru
  obtain ⟨_,_,pa,_⟩:=I.tuple ha
  obtain ⟨ab,xsb,rfl,hb,_⟩:=ry.dB
  cases rv
  obtain ⟨_,_,pb,_⟩:=I.list hb
  exact ⟨SeqAt.RcAt.tuple_list pa pb.isList hu0,SeqAt.EqAt.tuple_list pa pb.isList hu0,SeqAt.RcNeAt.tuple_list pa pb.isList hu0⟩
noncomputable def Jv:PV->PV->Bool
 | .tup _,.tup _=>true
 | .lst _,.lst _=>true
 | _,_=>false
theorem Jw {n:Nat}{p q:PV} (h:Jv p q=false):eqF (n+1) p q=eqF 0 p q:=by
 cases p <;> cases q <;> first | rfl | cases h
theorem Hj:∀ {p q:PV},Jv p q=true->(∃ l m,p=.tup l∧q=.tup m)∨∃ l m,p=.lst l∧q=.lst m
 | .tup l,q,h=>by
  cases q with
  | tup m=>exact .inl ⟨l,m,rfl,rfl⟩
  | _=>cases h
 | .lst l,q,h=>by
  cases q with
  | lst m=>exact .inr ⟨l,m,rfl,rfl⟩
  | _=>cases h
theorem Jx (I:Inv X pins σ H s):∀ (n:Nat) {A:Around}{x y:V}{p q:PV}{r:Bool}{u v:Value},A.units+n < cLine->eqF n p q=some r->Rep X.K H x p->Rep X.K H y q->RelV x u->RelV y v ->
  SeqAt.RcAt A s u v r∧SeqAt.EqAt A s u v r∧SeqAt.RcNeAt A s u v (!r):=by
 intro n
 induction n with
 | zero=>exact fun hu e=>Ju I (by omega) e
 | succ n ih =>
  intro A x y p q r u v hu e rx ry ru rv
  have hu0:A.units < cLine:=by omega
  cases hr:Jv p q with
  | false=>exact Ju I hu0 (by rw [←Jw hr];exact e) rx ry ru rv
  | true =>
  rcases Hj hr with ⟨l,m,rfl,rfl⟩ | ⟨l,m,rfl,rfl⟩
  ·have e:eqL (eqF n) l m=some r:=e
   obtain ⟨a,xs,rfl,ha,r1⟩:=rx.dz
   obtain ⟨b,ys,rfl,hb,r2⟩:=ry.dz
   cases ru
   cases rv
   obtain ⟨i1,v1,t1,_⟩:=I.tuple ha
   obtain ⟨i2,v2,t2,_⟩:=I.tuple hb
   obtain ⟨g,g1,g2⟩:=yZ e
   have hj:∀ j (h1:j < i1.toArray.size) (h2:j < i2.toArray.size),SeqAt.EqAt A.in1 s i1.toArray[j] i2.toArray[j] (g j):=fun j h1 h2=>by
    obtain ⟨x,hx,rx'⟩:=sG v1 h1
    obtain ⟨y,hy,ry'⟩:=sG v2 h2
    obtain ⟨p',hp,rp⟩:=r1.got hx
    obtain ⟨q',hq,rq⟩:=r2.got hy
    exact (ih (A:=A.in1) (show A.units+1+n < cLine by omega) (g1 j p' q' hp hq) rp rq rx' ry').2.1
   have rc:=SeqAt.RcAt.tuples (A:=A) (e:=g) t1 t2 hu0 hj
   have rn:=SeqAt.RcNeAt.tuples (A:=A) (e:=g) t1 t2 hu0 hj
   rw [List.size_toArray,List.size_toArray,←v1.length,←v2.length,r1.1,r2.1,←g2] at rc rn
   refine ⟨rc,?_,rn⟩
   by_cases hab:a=b
   ·subst hab
    have epq:PV.tup l=PV.tup m:=Rep.inj I rx ry
    cases epq
    have er:=pH (Aq n) e
    subst er
    exact SeqAt.EqAt.same _
   ·exact .of_refs hab rc
  ·obtain ⟨a,xs,rfl,ha,r1⟩:=rx.dB
   obtain ⟨b,ys,rfl,hb,r2⟩:=ry.dB
   cases ru
   cases rv
   obtain ⟨i1,v1,t1,_⟩:=I.list ha
   obtain ⟨i2,v2,t2,_⟩:=I.list hb
   have e:(if l.length=m.length then eqL (eqF n) l m else some false)=some r:=e
   split at e
   ·rename_i hlm
    obtain ⟨g,g1,g2⟩:=yZ e
    have hz:i1.toArray.size=i2.toArray.size:=by rw [List.size_toArray,List.size_toArray,←v1.length,←v2.length,r1.1,r2.1];exact hlm
    have hj:∀ j (h1:j < i1.toArray.size) (h2:j < i2.toArray.size),SeqAt.EqAt A.in1 s i1.toArray[j] i2.toArray[j] (g j):=fun j h1 h2=>by
     obtain ⟨x,hx,rx'⟩:=sG v1 h1
     obtain ⟨y,hy,ry'⟩:=sG v2 h2
     obtain ⟨p',hp,rp⟩:=r1.got hx
     obtain ⟨q',hq,rq⟩:=r2.got hy
     exact (ih (A:=A.in1) (show A.units+1+n < cLine by omega) (g1 j p' q' hp hq) rp rq rx' ry').2.1
    have rc:=SeqAt.RcAt.lists (A:=A) (e:=g) t1.isList t2.isList hz hu0 hj
    have e2:r=(List.range l.length).all g:=by rw [g2,←hlm,Nat.min_self,beq_self_eq_true,Bool.and_true]
    have rn:=SeqAt.RcNeAt.lists (A:=A) (e:=g) t1.isList t2.isList hz hu0 hj
    rw [List.size_toArray,←v1.length,r1.1,←e2] at rc rn
    refine ⟨rc,?_,rn⟩
    by_cases hab:a=b
    ·subst hab
     have epq:PV.lst l=PV.lst m:=Rep.inj I rx ry
     cases epq
     have er:=pH (Aq n) e
     subst er
     exact SeqAt.EqAt.same _
    ·exact .of_refs hab rc
   ·rename_i hlm
    cases e
    have hz:(i1.toArray.size != i2.toArray.size)=true:=by rw [List.size_toArray,List.size_toArray,←v1.length,←v2.length,r1.1,r2.1];simpa using hlm
    have rc:=SeqAt.RcAt.lists_lengths (A:=A) t1.isList t2.isList hz hu0
    have hab:a≠b:=fun z=>by
     subst z
     have epq:PV.lst l=PV.lst m:=Rep.inj I rx ry
     cases epq
     exact hlm rfl
    exact ⟨rc,.of_refs hab rc,SeqAt.RcNeAt.lists_lengths (A:=A) t1.isList t2.isList hz hu0⟩
end
section
variable {X:Cx}{k:Nat}
theorem OpR.or {f:Value->Value->Sem Value}{r r':R2} (h:OpR X f r) (h':OpR X f r'):OpR X f (fun x y H Q=>r x y H Q∨r' x y H Q):=by
 intro pins s σ H x y v u Q I rx ry q
 rcases q with q | q
 ·exact h pins s σ H x y v u Q I rx ry q
 ·exact h' pins s σ H x y v u Q I rx ry q
noncomputable def Ss (K:PySem.W.Frag):R2:=fun x y H Q=>∃ p q r,Rep K H x p∧Rep K H y q∧eqF 32 p q=some r∧Q (.bl r) H
noncomputable def Su (K:PySem.W.Frag):R2:=fun x y H Q=>∃ p q r,Rep K H x p∧Rep K H y q∧eqF 32 p q=some r∧Q (.bl (!r)) H
theorem cz (hr:eX k X.A):OpR X (compareOp .Eq) (Ss X.K):=by
 intro pins s σ H x y v u Q I rx ry h
 obtain ⟨p,q,r,h1,h2,e,h3⟩:=h
 exact (Jx I 32 (CT hr) e h1 h2 rx ry).1 X.prog X.w X.xe _ ⟨.bl r,H,I,rfl,h3⟩
theorem Jy (hr:eX k X.A):OpR X (compareOp .NotEq) (Su X.K):=by
 intro pins s σ H x y v u Q I rx ry h
 obtain ⟨p,q,r,h1,h2,e,h3⟩:=h
 exact (Jx I 32 (CT hr) e h1 h2 rx ry).2.2 X.prog X.w X.xe _ ⟨.bl (!r),H,I,rfl,h3⟩
noncomputable def inF (p:PV):List PV->Option Bool
 | []=>some false
 | x::xs=>match eqF 31 x p,inF p xs with
  | some a,some b=>some (a || b)
  | _,_=>none
theorem Fi {p:PV}:∀ {l:List PV}{r:Bool},inF p l=some r->∃ e:Nat->Bool,(∀ (j:Nat) x,l[j]?=some x->eqF 31 x p=some (e j))∧r=(List.range l.length).any e
 | [],r,h=>⟨fun _=>true,fun j x a=>by simp at a,by cases h;rfl⟩
 | x::xs,r,h=>by
  rw [inF] at h
  split at h
  ·rename_i a b h1 h2
   cases h
   obtain ⟨e,e1,e2⟩:=Fi h2
   refine ⟨fun j=>match j with | 0=>a | j+1=>e j,fun j x' a'=>?_,?_⟩
   ·cases j with
    | zero=>simp at a';subst a';exact h1
    | succ j=>exact e1 j x' (by simpa using a')
   ·rw [e2,Zak,List.range_succ_eq_map,ZbJ,List.any_map]
    rfl
  ·cases h
noncomputable def Mi (K:PySem.W.Frag) (neg:Bool):R2:=fun x y H Q=>∃ p l r,Rep K H x p∧(Rep K H y (.lst l)∨Rep K H y (.tup l))∧inF p l=some r∧Q (.bl (if neg=true then !r else r)) H
theorem sV {pins:List (Addr×Obj)}{σ:St}{H:Hp}{s:Shared} (I:Inv X pins σ H s) (hr:eX k X.A) {x:V}{v:Value}{p:PV}{xs:List V}{its:List Value}{l:List PV}{r:Bool} (rx:RelV x v) (h1:Rep X.K H x p) (rv:Vals xs its) (hl:bR X.K H xs l) (e:inF p l=some r) :
  ∃ f:Value->Bool,(∀ y,y∈its.toArray->SeqAt.EqAt X.A.in1 s y v (f y))∧its.toArray.any f=r:=by
 obtain ⟨g,g1,g2⟩:=Fi e
 have key:∀ w'∈its,∃ j,∃ hj:j < its.length,its[j]=w':=fun w' hw=>by
  obtain ⟨j,hj,e⟩:=List.mem_iff_getElem.mp hw
  exact ⟨j,hj,e⟩
 have look:∀ (j:Nat) (hj:j < its.length),∃ z q,l[j]?=some q∧RelV z its[j]∧Rep X.K H z q∧eqF 31 q p=some (g j):=fun j hj=>by
  obtain ⟨z,hz,rz⟩:=sG rv (j:=j) (by simpa using hj)
  obtain ⟨q,hq,rq⟩:=hl.got hz
  exact ⟨z,q,hq,by simpa using rz,rq,g1 j q hq⟩
 classical
 let f:Value->Bool:=fun w'=>if h:∃ j,∃ hj:j < its.length,its[j]=w' then g (Classical.choose h) else false
 have fe:∀ (j:Nat) (hj:j < its.length),f its[j]=g j:=fun j hj=>by
  have hx:∃ i,∃ hi:i < its.length,its[i]=its[j]:=⟨j,hj,rfl⟩
  show (if h:∃ i,∃ hi:i < its.length,its[i]=its[j] then g (Classical.choose h) else false)=g j
  rw [dif_pos hx]
  obtain ⟨h1',h2'⟩:=Classical.choose_spec hx
  generalize Classical.choose hx=i at h1' h2' ⊢
  obtain ⟨z,q,_,rz,rq,eq1⟩:=look i h1'
  obtain ⟨z',q',_,rz',rq',eq2⟩:=look j hj
  rw [h2'] at rz
  cases rz.inj rz'
  cases Rep.inj I rq rq'
  rw [eq1] at eq2
  exact Zab eq2
 refine ⟨f,fun y hy=>?_,?_⟩
 ·obtain ⟨j,hj,e1⟩:=key y (by simpa using hy)
  obtain ⟨z,q,_,rz,rq,eq1⟩:=look j hj
  rw [←e1,fe j hj]
  exact (Jx I 31 (A:=X.A.in1) (show X.A.units+1+31 < cLine by have:=CT hr;omega) eq1 rq h1 rz rx).2.1
 ·have hlen:its.length=l.length:=by rw [←rv.length,hl.1]
  rw [g2,show its.toArray.any f=its.any f by simp,Bool.eq_iff_iff,List.any_eq_true,List.any_eq_true]
  constructor
  ·rintro ⟨w',hw,hf⟩
   obtain ⟨j,hj,e1⟩:=key w' hw
   exact ⟨j,Zbh.mpr (by omega),by rw [←fe j hj,e1];exact hf⟩
  ·rintro ⟨j,hj,hf⟩
   have hj':j < its.length:=by rw [hlen];exact Zbh.mp hj
   exact ⟨its[j],List.getElem_mem hj',by rw [fe j hj'];exact hf⟩
theorem Qh (hr:eX k X.A):OpR X (compareOp .In) (Mi X.K false):=by
 intro pins s σ H x y v u Q I rx ry h
 obtain ⟨p,l,r,h1,h2,e,q⟩:=h
 rcases h2 with h2 | h2
 ·obtain ⟨a,xs,rfl,hq,rr⟩:=h2.dB
  cases ry
  obtain ⟨its,rv,pl,_⟩:=I.list hq
  obtain ⟨f,f1,f2⟩:=sV I hr rx h1 rv rr e
  exact SeqAt.in_listAt f pl.isList f1 (by rw [f2];exact ⟨.bl _,H,I,rfl,q⟩)
 ·obtain ⟨a,xs,rfl,hq,rr⟩:=h2.dz
  cases ry
  obtain ⟨its,rv,pl,_⟩:=I.tuple hq
  obtain ⟨f,f1,f2⟩:=sV I hr rx h1 rv rr e
  exact SeqAt.in_tupleAt f pl f1 (by rw [f2];exact ⟨.bl _,H,I,rfl,q⟩)
theorem Hk (hr:eX k X.A):OpR X (compareOp .NotIn) (Mi X.K true):=by
 intro pins s σ H x y v u Q I rx ry h
 obtain ⟨p,l,r,h1,h2,e,q⟩:=h
 rcases h2 with h2 | h2
 ·obtain ⟨a,xs,rfl,hq,rr⟩:=h2.dB
  cases ry
  obtain ⟨its,rv,pl,_⟩:=I.list hq
  obtain ⟨f,f1,f2⟩:=sV I hr rx h1 rv rr e
  exact SeqAt.notIn_listAt f pl.isList f1 (by rw [f2];exact ⟨.bl _,H,I,rfl,q⟩)
 ·obtain ⟨a,xs,rfl,hq,rr⟩:=h2.dz
  cases ry
  obtain ⟨its,rv,pl,_⟩:=I.tuple hq
  obtain ⟨f,f1,f2⟩:=sV I hr rx h1 rv rr e
  exact SeqAt.notIn_tupleAt f pl f1 (by rw [f2];exact ⟨.bl _,H,I,rfl,q⟩)
noncomputable def Qi (K:PySem.W.Frag):R2:=fun x y H Q=>Mi K false x y H Q∨∃ i j,x=.str i∧y=.str j∧Q (.bl (!(Builtin.Str.occurrences j i 0 j.length 1).isEmpty)) H
noncomputable def Fj (K:PySem.W.Frag):R2:=fun x y H Q=>Mi K true x y H Q∨∃ i j,x=.str i∧y=.str j∧Q (.bl (!(!(Builtin.Str.occurrences j i 0 j.length 1).isEmpty))) H
theorem Dc (hr:eX k X.A):OpR X (compareOp .In) (Qi X.K):=OpR.or (Qh hr) GJ
theorem xV (hr:eX k X.A):OpR X (compareOp .NotIn) (Fj X.K):=OpR.or (Hk hr) yM
noncomputable def Jz (K:PySem.W.Frag):R2:=fun x y H Q=>rI0 (fun i j=>.int (i+j)) x y H Q∨(∃ i j,x=.str i∧y=.str j∧i.length+j.length≤sizeLine∧Q (.str (i++j)) H)∨Oj K x y H Q
theorem bw:OpR X (binaryOp .Add) (Jz X.K):=OpR.or Pz (OpR.or Cz Lr)
noncomputable def Ov:R2:=fun x y H Q=>rI Cw (fun i j=>.int (i * j)) x y H Q∨∃ z n,x=.str z∧y=.int n∧-(2 ^ 63)≤n∧n < 2 ^ 63∧z.length * n.toNat≤sizeLine∧Q (.str ⟨(List.replicate n.toNat z.cps).foldl (·++·) #[]⟩) H
theorem j4:OpR X (binaryOp .Mult) Ov:=by
 refine OpR.or PB ?_
 intro pins s σ H x y v u Q I rx ry h
 obtain ⟨z,n,rfl,rfl,h1,h2,h3,q⟩:=h
 obtain ⟨t,rfl⟩:=rx
 obtain ⟨t',rfl⟩:=ry
 have fin:∀ t k,EP X pins σ Q (.str ⟨(List.replicate n.toNat z.cps).foldl (·++·) #[]⟩ t) { s with toks:=k }:=fun t k=>⟨.str _,H,I.tok _,⟨t,rfl⟩,q⟩
 have hr:(decide (n < -(2 ^ 63:Int)) || decide (n ≥ 2 ^ 63))=false:=by
  rw [decide_eq_false (by omega),decide_eq_false (by omega)];rfl
 refine PySem.P.mul_str hr (fun h4 h5=>?_) (fun h4 h5=>?_) ?_
 ·have hn:1≤n:=by omega
  have h6:z.length≤sizeLine:=by
   have:z.length * 1≤z.length * n.toNat:=Nat.mul_le_mul_left _ (by omega)
   omega
  have h7:n≠1:=fun e=>by subst e;simp at h5
  have h8:(z.length:Int) * n≤16777216:=by
   have e:(z.length:Int) * n=((z.length * n.toNat:Nat):Int):=by
    rw [Int.natCast_mul,Za0 (by omega)]
   rw [e]
   have:z.length * n.toNat≤16777216:=h3
   omega
  have h9:(z.length:Int)≤(2 ^ 63 - 1) / n:=by
   apply (Int.le_ediv_iff_mul_le (by omega)).mpr
   omega
  omega
 ·unfold Builtin.Str.tooLong
  exact decide_eq_false (by omega)
 ·by_cases h4:n < 1
  ·rw [if_pos h4]
   have e:n.toNat=0:=by omega
   rw [e] at fin
   exact ⟨Za9 _,fin _ _⟩
  ·rw [if_neg h4]
   refine post_val_or_str ⟨?_,fun t' k=>?_⟩
   ·have e1:∀ (m:Nat) (acc:Array Nat),((List.replicate m z.cps).foldl (·++·) acc).size=acc.size+m * z.cps.size:=fun m=>by
     induction m with
     | zero=>intro acc;simp
     | succ m ih=>intro acc;rw [Zbi,ZbH,ih,Array.size_append,Nat.succ_mul];omega
    have h6:z.length≤sizeLine:=by
     have:z.length * 1≤z.length * n.toNat:=Nat.mul_le_mul_left _ (by omega)
     omega
    split
    ·exact h6
    ·show ((List.replicate n.toNat z.cps).foldl (·++·) #[]).size≤sizeLine
     rw [e1,Nat.mul_comm]
     show 0+z.length * n.toNat≤_
     omega
   ·have fz:=fin t' k
    split
    ·rename_i h5
     have e:(⟨(List.replicate n.toNat z.cps).foldl (·++·) #[]⟩:Str)=z:=by
      rcases Bool.or_eq_true _ _ ▸ h5 with h | h
      ·have:n=1:=by simpa using h
       subst this
       show (⟨#[]++z.cps⟩:Str)=z
       rw [Array.empty_append]
      ·have h1:z.length=0:=by simpa using h
       have h0:z.cps=#[]:=Array.eq_empty_of_size_eq_zero h1
       have e2:∀ m:Nat,(List.replicate m (#[]:Array Nat)).foldl (·++·) #[]=#[]:=fun m=>by
        induction m with
        | zero=>rfl
        | succ m ih=>rw [Zbi,ZbH];exact ih
       cases z with
       | mk c=>cases h0;rw [e2]
     rw [e] at fz
     exact fz
    ·exact fz
noncomputable def Sv:R2:=fun x y H Q=>rI0 (fun i j=>.bl (decide (i < j))) x y H Q∨∃ i j,x=.str i∧y=.str j∧Q (.bl (decide (i.cps.toList < j.cps.toList))) H
theorem ug:OpR X (compareOp .Lt) Sv:=OpR.or RJ GF
noncomputable def Sx:R2:=fun x y H Q=>rI0 (fun i j=>.bl (decide (i≤j))) x y H Q∨∃ i j,x=.str i∧y=.str j∧Q (.bl (!(decide (j.cps.toList < i.cps.toList)))) H
theorem pI:OpR X (compareOp .LtE) Sx:=OpR.or RK Hd
theorem Hl (l b:Addr) (i1 i2:Array Value) (n1 n2:Nat) (s1 s2:Array (Option Value)) (hz:i1.size+i2.size≤sizeLine) :
  Meets (Builtin.«list.__add__» ⟨[.ref l,.ref b],[]⟩) (fun _ R s=>s.heap.get? l=some ⟨.type "list",none,.seq i1 n1,s1⟩∧s.heap.get? b=some ⟨.type "list",none,.seq i2 n2,s2⟩ ∧
   R (.ok (.ret (Value.ref s.heap.objs.size))) { s with heap:=s.heap.push { cls:=Value.type "list",data:=Data.seq (i1++i2) } }):=by
 refine .of_wp fun prog w A R s h=>?_
 obtain ⟨hp,g,d,tk,os⟩:=s
 obtain ⟨h1,h2,h⟩:=h
 have f1:=AutoSeq1.idx_int
 have f2:=AutoSeq1.sub_tuple_tuple
 have f3:=AutoSeq1.sub_list_list
 have f4:=AutoSeq1.sub_tuple_list
 have f5:=AutoSeq1.sub_list_tuple
 wp_walk using Za2 h1,Za2 h2
 exact ⟨_,rfl,h⟩
theorem iY:OpR X (binaryOp .Add) (fun x y H Q=>∃ l b xs zs,x=.ref l∧y=.ref b∧SqL X.K H l xs∧SqL X.K H b zs∧xs.length+zs.length≤sizeLine∧∀ p,H p=none->Q (.ref p) (upd H p (.lst (xs++zs)))):=by
 intro pins s σ H x y v u Q I rx ry h
 obtain ⟨l,b,xs,zs,rfl,rfl,hH,hB,hz,q⟩:=h
 cases rx
 cases ry
 obtain ⟨its,r,⟨⟨cl1,dd1,da1,sl1⟩,n1,g1,c1,d1,e1⟩,z1⟩:=I.list hH
 obtain ⟨its2,r2,⟨⟨cl2,dd2,da2,sl2⟩,n2,g2,c2,d2,e2⟩,z2⟩:=I.list hB
 simp only at c1 d1 e1 c2 d2 e2
 subst c1 d1 e1 c2 d2 e2
 have hs:its.toArray.size+its2.toArray.size≤sizeLine:=by rw [List.size_toArray,List.size_toArray,←r.length,←r2.length];exact hz
 refine concat_meets ⟨_,g1,rfl⟩ ⟨_,g2,rfl⟩ noFill_list_add seq_list_add F.slot_list_add F.entry_list_add (F.args_list_add_2 _ _) (Hl l b its.toArray its2.toArray n1 n2 sl1 sl2 hs) ⟨g1,g2,?_⟩
 have ea:its.toArray++its2.toArray=(its++its2).toArray:=by simp
 rw [ea]
 exact ⟨.ref _,_,I.R0 (t':=s.toks) (r.append r2) (by rw [List.length_append];omega),rfl,q _ I.fresh⟩
end
theorem noS {α:Type}{r:α}{C:Prop} (e:(none:Option α)=some r):C:=by cases e
noncomputable def opI (c:Int->Int->Bool) (f:Int->Int->PV):PV->PV->Option (Res PV)
 | .int i,.int j=>if c i j=true then some (.ok (f i j)) else none
 | _,_=>none
noncomputable def cT:Int->Int->Bool:=fun _ _=>true
noncomputable def JB:Int->Int->Bool:=fun i j=>decide ((-(2 ^ 64) < i∧i < 2 ^ 64)∨(-(2 ^ 64) < j∧j < 2 ^ 64))
noncomputable def Qj:Int->Int->Bool:=fun _ j=>decide (0 < j∧j < 1073741824)
noncomputable def Sy:Int->Int->Bool:=fun _ j=>decide (0 < j)
noncomputable def Qk:Int->Int->Bool:=fun i j=>decide (0≤j∧j≤1000000∧i.natAbs < 2 ^ 64)
noncomputable def vM:=opI cT fun i j=>.int (i - j)
noncomputable def vN:=opI Qj fun i j=>.int (i / j)
noncomputable def cA:=opI Sy fun i j=>.int (i % j)
noncomputable def uG:=opI Qk fun i j=>.int (i ^ j.toNat)
noncomputable def Mj:=opI cT fun i j=>.bl (decide (j < i))
noncomputable def Ml:=opI cT fun i j=>.bl (decide (j≤i))
noncomputable def cj:PV->PV->Option (Res PV)
 | .int i,.int j=>some (.ok (.int (i+j)))
 | .str i,.str j=>if i.length+j.length≤sizeLine then some (.ok (.str (i++j))) else none
 | .tup l,.tup m=>if l≠[]∧l.length+m.length≤sizeLine then some (.ok (.tup (l++m))) else none
 | _,_=>none
noncomputable def Ql (z:Str) (n:Nat):Str:=⟨(List.replicate n z.cps).foldl (·++·) #[]⟩
noncomputable def pJ:PV->PV->Option (Res PV)
 | .int i,.int j=>if JB i j=true then some (.ok (.int (i * j))) else none
 | .str z,.int n=>if -(2 ^ 63)≤n∧n < 2 ^ 63∧z.length * n.toNat≤sizeLine then some (.ok (.str (Ql z n.toNat))) else none
 | _,_=>none
noncomputable def zc:PV->PV->Option (Res PV)
 | .int i,.int j=>some (.ok (.bl (decide (i < j))))
 | .str i,.str j=>some (.ok (.bl (decide (i.cps.toList < j.cps.toList))))
 | _,_=>none
noncomputable def vO:PV->PV->Option (Res PV)
 | .int i,.int j=>some (.ok (.bl (decide (i≤j))))
 | .str i,.str j=>some (.ok (.bl (!(decide (j.cps.toList < i.cps.toList)))))
 | _,_=>none
noncomputable def eU (p q:PV):Option (Res PV):=match eqF 32 p q with
 | some r=>some (.ok (.bl r))
 | none=>none
noncomputable def zf (p q:PV):Option (Res PV):=match eqF 32 p q with
 | some r=>some (.ok (.bl (!r)))
 | none=>none
noncomputable def inU (p:PV):PV->Option Bool
 | .lst l=>inF p l
 | .tup l=>inF p l
 | .str j=>match p with
  | .str i=>some (!(Builtin.Str.occurrences j i 0 j.length 1).isEmpty)
  | _=>none
 | _=>none
noncomputable def Av (p q:PV):Option (Res PV):=match inU p q with
 | some r=>some (.ok (.bl r))
 | none=>none
noncomputable def m7 (p q:PV):Option (Res PV):=match inU p q with
 | some r=>some (.ok (.bl (!r)))
 | none=>none
noncomputable def PV.ji:PV->Bool
 | .non=>true
 | _=>false
noncomputable def uH (p q:PV):Option (Res PV):=match q with
 | .non=>some (.ok (.bl p.ji))
 | _=>none
noncomputable def zg (p q:PV):Option (Res PV):=match q with
 | .non=>some (.ok (.bl (!p.ji)))
 | _=>none
noncomputable def ofO (x:Option PV):Option (Res PV):=match x with
 | some p=>some (.ok p)
 | none=>none
noncomputable def bB:PV->PV->Option (Res PV)
 | .lst l,.int i=>ofO (atI l i)
 | .tup l,.int i=>ofO (atI l i)
 | .str z,.int i=>if z.length≤sizeLine then ofO ((atI z.cps.toList i).map fun c=>.str ⟨#[c]⟩) else none
 | _,_=>none
noncomputable def Fl:List PV->PV->Option (Res PV)
 | l,.int i=>ofO (atI l i)
 | _,_=>none
section
variable {K:PySem.W.Frag}{C:Cg}{F H:Hp}
theorem SJ {i j:Int} (h:Qj i j=true):Px i j:=of_decide_eq_true (p:=0 < j∧j < 1073741824) h
theorem SM {i j:Int} (h:Qk i j=true):Py i j:=of_decide_eq_true (p:=0≤j∧j≤1000000∧i.natAbs < 2 ^ 64) h
theorem SN {i j:Int} (h:JB i j=true):Cw i j:=of_decide_eq_true (p:=(-(2 ^ 64) < i∧i < 2 ^ 64)∨(-(2 ^ 64) < j∧j < 2 ^ 64)) h
theorem Fo {c:Int->Int->Bool}{f:Int->Int->PV}{cond:Int->Int->Prop}{fv:Int->Int->V} (hc:∀ i j,c i j=true->cond i j) (hf:∀ i j F,Rep K F (fv i j) (f i j)):R2M C (aF K) (aF K) (aF K) (rI cond fv) (opI c f):=by
 intro F H x y a b res Q s ha hb e P
 have inv:(∃ i j,a=.int i∧b=.int j):=by
  clear P ha hb
  cases a <;> first | exact noS e | (cases b <;> first | exact noS e | exact ⟨_,_,rfl,rfl⟩)
 obtain ⟨i,j,rfl,rfl⟩:=inv
 cases Rep.bK ha
 cases Rep.bK hb
 have e:(if c i j=true then some (Res.ok (f i j)) else none)=some res:=e
 split at e
 ·rename_i h
  cases e
  exact ⟨i,j,rfl,rfl,hc i j h,P _ F H (Up.refl s) (hf i j F)⟩
 ·cases e
theorem Dd {f:Int->Int->PV}{fv:Int->Int->V} (hf:∀ i j F,Rep K F (fv i j) (f i j)):R2M C (aF K) (aF K) (aF K) (rI0 fv) (opI cT f):=by
 intro F H x y a b res Q s ha hb e P
 have inv:(∃ i j,a=.int i∧b=.int j):=by
  clear P ha hb
  cases a <;> first | exact noS e | (cases b <;> first | exact noS e | exact ⟨_,_,rfl,rfl⟩)
 obtain ⟨i,j,rfl,rfl⟩:=inv
 cases Rep.bK ha
 cases Rep.bK hb
 cases e
 exact ⟨i,j,rfl,rfl,P _ F H (Up.refl s) (hf i j F)⟩
theorem Fp:R2M C (aF K) (aF K) (aF K) (rI0 fun i j=>.int (i - j)) vM:=Dd fun _ _ _=>.int
theorem Fq:R2M C (aF K) (aF K) (aF K) (rI Px fun i j=>.int (i / j)) vN:=Fo (fun _ _ h=>SJ h) fun _ _ _=>.int
theorem cJ:R2M C (aF K) (aF K) (aF K) (rI (fun _ j=>0 < j) fun i j=>.int (i % j)) cA:=Fo (fun _ _ h=>of_decide_eq_true h) fun _ _ _=>.int
theorem Aw:R2M C (aF K) (aF K) (aF K) (rI Py fun i j=>.int (i ^ j.toNat)) uG:=Fo (fun _ _ h=>SM h) fun _ _ _=>.int
theorem T8:R2M C (aF K) (aF K) (aF K) (rI0 fun i j=>.bl (decide (j < i))) Mj:=Dd fun _ _ _=>.bl
theorem T9:R2M C (aF K) (aF K) (aF K) (rI0 fun i j=>.bl (decide (j≤i))) Ml:=Dd fun _ _ _=>.bl
theorem cG:R2M C (aF K) (aF K) (aF K) (Jz K) cj:=by
 intro F H x y a b res Q s ha hb e P
 have inv:(∃ i j,a=.int i∧b=.int j)∨(∃ i j,a=.str i∧b=.str j)∨(∃ l m,a=.tup l∧b=.tup m):=by
  clear P ha hb
  cases a <;> first | exact noS e | (cases b <;> first | exact noS e | exact .inl ⟨_,_,rfl,rfl⟩ | exact .inr (.inl ⟨_,_,rfl,rfl⟩) | exact .inr (.inr ⟨_,_,rfl,rfl⟩))
 rcases inv with ⟨i,j,rfl,rfl⟩ | ⟨i,j,rfl,rfl⟩ | ⟨l,m,rfl,rfl⟩
 ·cases Rep.bK ha
  cases Rep.bK hb
  cases e
  exact .inl ⟨i,j,rfl,rfl,P _ F H (Up.refl s) .int⟩
 ·cases Rep.bU ha
  cases Rep.bU hb
  have e:(if i.length+j.length≤sizeLine then some (Res.ok (PV.str (i++j))) else none)=some res:=e
  split at e
  ·rename_i h
   cases e
   exact .inr (.inl ⟨i,j,rfl,rfl,h,P _ F H (Up.refl s) .str⟩)
  ·cases e
 ·have e:(if l≠[]∧l.length+m.length≤sizeLine then some (Res.ok (PV.tup (l++m))) else none)=some res:=e
  split at e
  ·rename_i h
   cases e
   obtain ⟨a1,xs,rfl,h1,r1⟩:=Rep.dz ha
   obtain ⟨a2,ys,rfl,h2,r2⟩:=Rep.dz hb
   have hx:xs≠[]:=fun z=>h.1 (by have:=r1.1;rw [z] at this;simpa using this.symm)
   refine .inr (.inr ⟨a1,a2,xs,ys,rfl,rfl,s.tup h1,s.tup h2,hx,by rw [r1.1,r2.1];exact h.2,fun z=>?_,fun _ p hp=>?_⟩)
   ·subst z
    have hm:m=[]:=by have:=r2.1;simpa using this.symm
    subst hm
    rw [ZaE] at P
    exact P _ F H (Up.refl s) ha
   ·have un:=Up.new (o:=.tup (xs++ys)) s hp
    exact P _ _ _ un (.tup aX (r1.append r2).1 ((r1.append r2).up un.ff).2)
  ·cases e
theorem uI:R2M C (aF K) (aF K) (aF K) Ov pJ:=by
 intro F H x y a b res Q s ha hb e P
 have inv:(∃ i j,a=.int i∧b=.int j)∨(∃ z n,a=.str z∧b=.int n):=by
  clear P ha hb
  cases a <;> first | exact noS e | (cases b <;> first | exact noS e | exact .inl ⟨_,_,rfl,rfl⟩ | exact .inr ⟨_,_,rfl,rfl⟩)
 rcases inv with ⟨i,j,rfl,rfl⟩ | ⟨z,n,rfl,rfl⟩
 ·cases Rep.bK ha
  cases Rep.bK hb
  have e:(if JB i j=true then some (Res.ok (PV.int (i * j))) else none)=some res:=e
  split at e
  ·rename_i h
   cases e
   exact .inl ⟨i,j,rfl,rfl,SN h,P _ F H (Up.refl s) .int⟩
  ·cases e
 ·cases Rep.bU ha
  cases Rep.bK hb
  have e:(if -(2 ^ 63)≤n∧n < 2 ^ 63∧z.length * n.toNat≤sizeLine then some (Res.ok (PV.str (Ql z n.toNat))) else none)=some res:=e
  split at e
  ·rename_i h
   cases e
   exact .inr ⟨z,n,rfl,rfl,h.1,h.2.1,h.2.2,P _ F H (Up.refl s) .str⟩
  ·cases e
theorem Hm:R2M C (aF K) (aF K) (aF K) Sv zc:=by
 intro F H x y a b res Q s ha hb e P
 have inv:(∃ i j,a=.int i∧b=.int j)∨(∃ i j,a=.str i∧b=.str j):=by
  clear P ha hb
  cases a <;> first | exact noS e | (cases b <;> first | exact noS e | exact .inl ⟨_,_,rfl,rfl⟩ | exact .inr ⟨_,_,rfl,rfl⟩)
 rcases inv with ⟨i,j,rfl,rfl⟩ | ⟨i,j,rfl,rfl⟩
 ·cases Rep.bK ha
  cases Rep.bK hb
  cases e
  exact .inl ⟨i,j,rfl,rfl,P _ F H (Up.refl s) .bl⟩
 ·cases Rep.bU ha
  cases Rep.bU hb
  cases e
  exact .inr ⟨i,j,rfl,rfl,P _ F H (Up.refl s) .bl⟩
theorem Ax:R2M C (aF K) (aF K) (aF K) Sx vO:=by
 intro F H x y a b res Q s ha hb e P
 have inv:(∃ i j,a=.int i∧b=.int j)∨(∃ i j,a=.str i∧b=.str j):=by
  clear P ha hb
  cases a <;> first | exact noS e | (cases b <;> first | exact noS e | exact .inl ⟨_,_,rfl,rfl⟩ | exact .inr ⟨_,_,rfl,rfl⟩)
 rcases inv with ⟨i,j,rfl,rfl⟩ | ⟨i,j,rfl,rfl⟩
 ·cases Rep.bK ha
  cases Rep.bK hb
  cases e
  exact .inl ⟨i,j,rfl,rfl,P _ F H (Up.refl s) .bl⟩
 ·cases Rep.bU ha
  cases Rep.bU hb
  cases e
  exact .inr ⟨i,j,rfl,rfl,P _ F H (Up.refl s) .bl⟩
theorem fO:R2M C (aH K) (aH K) (aF K) (Ss K) eU:=by
 intro F H x y a b res Q s ha hb e P
 unfold eU at e
 split at e
 ·rename_i r h
  cases e
  exact ⟨a,b,r,ha,hb,h,P _ F H (Up.refl s) .bl⟩
 ·cases e
theorem SQ:R2M C (aH K) (aH K) (aF K) (Su K) zf:=by
 intro F H x y a b res Q s ha hb e P
 unfold zf at e
 split at e
 ·rename_i r h
  cases e
  exact ⟨a,b,r,ha,hb,h,P _ F H (Up.refl s) .bl⟩
 ·cases e
theorem Qm:R2M C (aH K) (aH K) (aF K) (Qi K) Av:=by
 intro F H x y a b res Q s ha hb e P
 unfold Av at e
 split at e
 ·rename_i r h
  cases e
  match b,h with
  | .lst l,h=>exact .inl ⟨a,l,r,ha,.inl hb,h,P _ F H (Up.refl s) .bl⟩
  | .tup l,h=>exact .inl ⟨a,l,r,ha,.inr hb,h,P _ F H (Up.refl s) .bl⟩
  | .str j,h =>
   match a,h with
   | .str i,h =>
    cases h
    exact .inr ⟨i,j,Rep.bU ha,Rep.bU hb,P _ F H (Up.refl s) .bl⟩
 ·cases e
theorem Ft:R2M C (aH K) (aH K) (aF K) (Fj K) m7:=by
 intro F H x y a b res Q s ha hb e P
 unfold m7 at e
 split at e
 ·rename_i r h
  cases e
  match b,h with
  | .lst l,h=>exact .inl ⟨a,l,r,ha,.inl hb,h,P _ F H (Up.refl s) .bl⟩
  | .tup l,h=>exact .inl ⟨a,l,r,ha,.inr hb,h,P _ F H (Up.refl s) .bl⟩
  | .str j,h =>
   match a,h with
   | .str i,h =>
    cases h
    exact .inr ⟨i,j,Rep.bU ha,Rep.bU hb,P _ F H (Up.refl s) .bl⟩
 ·cases e
theorem Ay {v:V}{p:PV} (h:Rep K F v p):decide (v=.non)=p.ji:=by
 cases h <;> first | rfl | exact decide_eq_false (by intro z;cases z)
theorem Az:R2M C (aH K) (aF K) (aF K) (fun x y H Q=>y=.non∧Q (.bl (decide (x=.non))) H) uH:=by
 intro F H x y a b res Q s ha hb e P
 match b,e with
 | .non,e =>
  cases e
  rw [Ay ha]
  exact ⟨Rep.fK hb,P _ F H (Up.refl s) .bl⟩
theorem JC:R2M C (aH K) (aF K) (aF K) (fun x y H Q=>y=.non∧Q (.bl (!decide (x=.non))) H) zg:=by
 intro F H x y a b res Q s ha hb e P
 match b,e with
 | .non,e =>
  cases e
  rw [Ay ha]
  exact ⟨Rep.fK hb,P _ F H (Up.refl s) .bl⟩
theorem zj {xs:List V}{l:List PV}{i:Int}{p:PV} (r:bR K F xs l) (h:atI l i=some p):∃ v,atI xs i=some v∧Rep K F v p:=by
 unfold atI at h ⊢
 rw [r.1]
 cases e:ixN l.length i with
 | none=>rw [e] at h;cases h
 | some j =>
  rw [e] at h
  exact r.get h
theorem sW {x:Option PV}{res:Res PV} (h:ofO x=some res):∃ p,x=some p∧res=.ok p:=by
 cases x with
 | none=>cases h
 | some p=>cases h;exact ⟨p,rfl,rfl⟩
theorem bG:R2M C (aF K) (aF K) (aF K) (rIx K) bB:=by
 intro F H x y a b res Q s ha hb e P
 have inv:(∃ l i,a=.lst l∧b=.int i)∨(∃ l i,a=.tup l∧b=.int i)∨(∃ z i,a=.str z∧b=.int i):=by
  clear P ha hb
  cases a <;> first | exact noS e | (cases b <;> first | exact noS e | exact .inl ⟨_,_,rfl,rfl⟩ | exact .inr (.inl ⟨_,_,rfl,rfl⟩) | exact .inr (.inr ⟨_,_,rfl,rfl⟩))
 rcases inv with ⟨l,i,rfl,rfl⟩ | ⟨l,i,rfl,rfl⟩ | ⟨z,i,rfl,rfl⟩
 ·cases Rep.bK hb
  obtain ⟨p,e1,rfl⟩:=sW e
  obtain ⟨a1,xs,rfl,h1,r1⟩:=Rep.dB ha
  obtain ⟨v,e2,rv⟩:=zj r1 e1
  exact .inl ⟨a1,xs,i,v,rfl,rfl,s.seq h1,e2,P _ F H (Up.refl s) rv⟩
 ·cases Rep.bK hb
  obtain ⟨p,e1,rfl⟩:=sW e
  obtain ⟨a1,xs,rfl,h1,r1⟩:=Rep.dz ha
  obtain ⟨v,e2,rv⟩:=zj r1 e1
  exact .inr (.inl ⟨a1,xs,i,v,rfl,rfl,s.tup h1,e2,P _ F H (Up.refl s) rv⟩)
 ·cases Rep.bK hb
  cases Rep.bU ha
  have e:(if z.length≤sizeLine then ofO ((atI z.cps.toList i).map fun c=>PV.str ⟨#[c]⟩) else none)=some res:=e
  split at e
  ·rename_i hz
   obtain ⟨p,e1,rfl⟩:=sW e
   cases e2:atI z.cps.toList i with
   | none=>rw [e2] at e1;cases e1
   | some c =>
    rw [e2] at e1
    cases e1
    exact .inr (.inr ⟨z,i,c,rfl,rfl,hz,e2,P _ F H (Up.refl s) .str⟩)
  ·cases e
theorem Ow:R2M C (aV K) (aF K) (aF K) (rIx K) Fl:=by
 intro F H x y a b res Q s ha hb e P
 match b,e with
 | .int i,e =>
  cases Rep.bK hb
  obtain ⟨p,e1,rfl⟩:=sW e
  obtain ⟨a1,xs,rfl,h1,r1⟩:=ha
  obtain ⟨v,e2,rv⟩:=zj r1 e1
  exact .inl ⟨a1,xs,i,v,rfl,rfl,h1,e2,P _ F H (Up.refl s) rv⟩
noncomputable def lU (l m:List PV):Option (Res PV):=if l.length+m.length≤sizeLine then some (.ok (.lst (l++m))) else none
noncomputable def SX (K:PySem.W.Frag):R2:=fun x y H Q=>∃ l b xs zs,x=.ref l∧y=.ref b∧SqL K H l xs∧SqL K H b zs∧xs.length+zs.length≤sizeLine∧∀ p,H p=none->Q (.ref p) (upd H p (.lst (xs++zs)))
theorem qH:R2O K C (aV K) (aV K) (SX K) lU:=by
 intro F H x y a b res Q s ha hb e P
 unfold lU at e
 split at e
 ·rename_i h
  cases e
  obtain ⟨a1,xs,rfl,h1,r1⟩:=ha
  obtain ⟨a2,ys,rfl,h2,r2⟩:=hb
  refine ⟨a1,a2,xs,ys,rfl,rfl,h1,h2,by rw [r1.1,r2.1];exact h,fun p hp=>?_⟩
  exact P p F _ (Up.CV s hp) hp (s.free hp) ⟨_,aX,r1.append r2⟩
 ·cases e
variable {ta tb te:TE}
theorem bR.rep {xs:List V}{l:List PV} (h:bR K F xs l):∀ n:Nat,bR K F (List.replicate n xs).flatten (List.replicate n l).flatten
 | 0=>.nil
 | n+1=>by
  rw [Zbi,Zbt,Zbi,Zbt]
  exact h.append (bR.rep h n)
noncomputable def MP' (K:PySem.W.Frag) (C:Cg) (t:TO) (f:Fn (Option Int)):Prop :=
 ∀ F H σ ρ Q r,RE K C.toCf F H σ ρ->f ρ=some r->Pr C F (fun o=>∀ F' H',Up F H F' H'->Q o H') r->t σ H Q
noncomputable def mPn:Fn (Option Int):=fun _=>some (.ok none)
noncomputable def asInt:PV->Option (Res (Option Int))
 | .int i=>some (.ok (some i))
 | _=>none
theorem dC:MP' K C Eu mPn:=fun F H σ ρ Q r R e P=>by
 cases e
 exact P F H (Up.refl R.rb.sub)
theorem cV {f:Fn PV} (h:MJ K C (aF K) te f):MP' K C (Oi te) (m1 asInt f):=by
 intro F H σ ρ Q r R e P
 refine h.run R e P fun p v F1 H1 hk u a=>?_
 match p,hk with
 | .int i,hk =>
  cases Rep.bK a
  cases hk
  exact ⟨i,rfl,P F1 H1 u⟩
theorem MP'.run {β:Type}{t:TO}{f:Fn (Option Int)}{σ:St}{ρ:Rho}{Q:Option Int->Hp->Prop}{ok:β->Prop}{k:Option Int->Option (Res β)}{r:Res β} (h:MP' K C t f) (R:RE K C.toCf F H σ ρ) (hb:bnd (f ρ) k=some r) (P:Pr C F ok r)
  (go:∀ o F1 H1,k o=some r->Up F H F1 H1->Q o H1):t σ H Q:=by
 rcases fL hb with ⟨z,e,rfl⟩ | ⟨p,e,hk⟩
 ·exact h F H σ ρ Q _ R e P
 ·exact h F H σ ρ Q _ R e fun F1 H1 u=>go p F1 H1 hk u
noncomputable def o7 (l:List PV) (lo hi:Option Int):List PV:=(l.drop (HT.sIx l.length 0 lo)).take (HT.sIx l.length l.length hi - HT.sIx l.length 0 lo)
theorem bR.cut {xs:List V}{l:List PV} (h:bR K F xs l) (lo hi:Option Int):bR K F (GQ xs lo hi) (o7 l lo hi):=by
 unfold GQ o7
 rw [h.1]
 exact (h.drop _).take _
noncomputable def lV (f:Fn (List PV)) (lo hi:Fn (Option Int)):Fn PV:=fun ρ=>bnd (f ρ) fun l=>bnd (lo ρ) fun a=>bnd (hi ρ) fun b=>some (.ok (.lst (o7 l a b)))
theorem fP {f:Fn (List PV)}{lo hi:Fn (Option Int)}{tl th:TO} (h:MJ K C (aV K) te f) (hl:MP' K C tl lo) (hh:MP' K C th hi):MO K C (tSl (RX K) te tl th) (lV f lo hi):=by
 intro F H σ ρ Q r R e P
 refine h.run R e P fun l v F1 H1 hk u a=>?_
 refine hl.run (R.up u) hk (P.m5 u) fun o F2 H2 hk2 u2=>?_
 refine hh.run (R.up (u.trans u2)) hk2 (P.m5 (u.trans u2)) fun o2 F3 H3 hk3 u3=>?_
 cases hk3
 obtain ⟨b,xs,rfl,h1,r1⟩:=a
 have u23:=u2.trans u3
 refine ⟨b,xs,rfl,u23.hh.seq h1,fun p hp=>?_⟩
 exact P p F3 _ (u.trans (u23.trans (Up.CV u3.fh hp))) ((u.hh.trans u23.hh).free hp) (u3.fh.free hp) ⟨_,aX,(r1.up u23.ff).cut _ _⟩
noncomputable def JD (a b:Option Int):PV->Option (Res PV)
 | .str z=>if z.length≤sizeLine then some (.ok (.str (Txt.slice z a b))) else none
 | _=>none
noncomputable def Hn (f:Fn PV) (lo hi:Fn (Option Int)):Fn PV:=fun ρ=>bnd (f ρ) fun z=>bnd (lo ρ) fun a=>bnd (hi ρ) fun b=>JD a b z
theorem De {f:Fn PV}{lo hi:Fn (Option Int)}{tl th:TO} (h:MJ K C (aF K) te f) (hl:MP' K C tl lo) (hh:MP' K C th hi):MJ K C (aF K) (tSl R8 te tl th) (Hn f lo hi):=by
 intro F H σ ρ Q r R e P
 refine h.run R e P fun l v F1 H1 hk u a=>?_
 refine hl.run (R.up u) hk (P.later u) fun o F2 H2 hk2 u2=>?_
 refine hh.run (R.up (u.trans u2)) hk2 (P.later (u.trans u2)) fun o2 F3 H3 hk3 u3=>?_
 match l,hk3 with
 | .str z,hk3 =>
  cases Rep.bU a
  have hk3:(if z.length≤sizeLine then some (Res.ok (PV.str (Txt.slice z o o2))) else none)=some r:=hk3
  split at hk3
  ·rename_i hz
   cases hk3
   exact ⟨z,rfl,hz,P _ F3 H3 (u.trans (u2.trans u3)) .str⟩
  ·cases hk3
end
noncomputable def JF (K:PySem.W.Frag) (tl:TE):TI:=fun σ H R=>tl σ H fun x H1=>(∃ a,x=.ref a∧(∃ xs,SqL K H1 a xs)∧R (Itl K a) H1)∨(∃ a,x=.ref a∧(∃ xs,SqT K H1 a xs)∧R (Itt K a) H1)∨∃ z,x=.str z∧R (Itf (sgn z) z.cps.size) H1
theorem iZ {X:Cx}{tg l:Expr}{tl:TE} (hl:PE X l tl):PI X tg l (JF X.K tl):=by
 intro pins s σ H R I h
 refine thn (hl pins s σ H _ I h) fun v s1 ⟨x,H1,I1,r1,q1⟩=>?_
 have keep:∀ (o:Obj),Inv X pins σ H1 { s1 with heap:=s1.heap.push o }:=fun o=>I1.kept (t':=s1.toks) fun b ob e=>Zaa _ e
 have fp:∀ b∈[s1.heap.objs.size],vo X pins H1 b:=fun b hb=>by
  have e:b=s1.heap.objs.size:=by simpa using hb
  subst e
  exact I1.Ab (Zaf _) (I1.hok.fresh (Zaf _))
 rcases q1 with ⟨a,rfl,⟨xs,hq⟩,q⟩ | ⟨a,rfl,⟨xs,hq⟩,q⟩ | ⟨z,rfl,q⟩
 ·cases r1
  obtain ⟨its,rv,p,hz⟩:=I1.list hq
  exact wpAny_pyIter_list p.isList ⟨_,[_],_,_,H1,rfl,keep _,Gz a _,⟨_,Zam _ rfl,rfl,rfl⟩,fp,q⟩
 ·cases r1
  obtain ⟨its,rv,p,hz⟩:=I1.tuple hq
  exact wpAny_pyIter_tuple (show s1.heap.IsTuple a its.toArray from p) ⟨_,[_],_,_,H1,rfl,keep _,Cu a _,⟨_,Zam _ rfl,rfl,rfl⟩,fp,q⟩
 ·obtain ⟨t,rfl⟩:=r1
  exact wpAny_pyIter_strU ⟨_,[_],_,_,H1,rfl,keep _,Ji _ z t,⟨_,Zam _ rfl,rfl,rfl⟩,fp,q⟩
section
variable {K:PySem.W.Frag}{C:Cg}{F H:Hp}{σ:St}{ρ:Rho}{te ta tb:TE}{tA:TA}{a:Addr}{xs:List V}{l:List PV}
noncomputable def signs (z:Str):List PV:=z.cps.toList.map fun c=>.str ⟨#[c]⟩
noncomputable def pK:PV->Option (Res (List PV))
 | .lst l=>some (.ok l)
 | .tup l=>some (.ok l)
 | .str z=>some (.ok (signs z))
 | _=>none
theorem JG (h:SqL K F a xs) (r:bR K F xs l):ItR K (Itl K a) F l where
 stop:=fun F' H' s s'=>⟨xs,(s.trans s').seq h,by rw [r.1];exact Zaf _⟩
 go:=fun i F' H' hi s s'=>⟨xs,xs[i]'(by rw [r.1];exact hi),(s.trans s').seq h,by simp⟩
 yld:=fun i F' H' x H'' hi s s' y=>by
  obtain ⟨rfl,y⟩:=y
  have e:=y xs ((s.trans s').seq h)
  obtain ⟨p,e2,rp⟩:=r.got e
  exact ⟨F',p,Up.refl s',e2,rp.up s⟩
theorem Mm (h:SqT K F a xs) (r:bR K F xs l):ItR K (Itt K a) F l where
 stop:=fun F' H' s s'=>⟨xs,(s.trans s').tup h,by rw [r.1];exact Zaf _⟩
 go:=fun i F' H' hi s s'=>⟨xs,xs[i]'(by rw [r.1];exact hi),(s.trans s').tup h,by simp⟩
 yld:=fun i F' H' x H'' hi s s' y=>by
  obtain ⟨rfl,y⟩:=y
  have e:=y xs ((s.trans s').tup h)
  obtain ⟨p,e2,rp⟩:=r.got e
  exact ⟨F',p,Up.refl s',e2,rp.up s⟩
theorem Mp (z:Str):ItR K (Itf (sgn z) z.cps.size) F (signs z) where
 stop:=fun F' H' s s'=>by simp [signs,Itf]
 go:=fun i F' H' hi s s'=>by simpa [signs,Itf] using hi
 yld:=fun i F' H' x H'' hi s s' y=>by
  obtain ⟨rfl,rfl⟩:=y
  have hi':i < z.cps.size:=by simpa [signs] using hi
  refine ⟨F',.str ⟨#[z.cps.getD i 0]⟩,Up.refl s',?_,.str⟩
  unfold signs
  rw [Zag,Array.getElem?_toList,Zbj,Zbr hi']
  rfl
theorem m8 {f:Fn PV} (h:MJ K C (aF K) te f):MI K C (JF K te) (m1 pK f):=by
 intro F H σ ρ R' r R e P
 refine h.run R e P fun p v F1 H1 hk u a=>?_
 match p,hk with
 | .lst l,hk =>
  cases hk
  obtain ⟨b,xs,rfl,h1,r1⟩:=Rep.dB a
  exact .inl ⟨b,rfl,⟨xs,u.fh.seq h1⟩,P _ F1 H1 u (JG h1 r1)⟩
 | .tup l,hk =>
  cases hk
  obtain ⟨b,xs,rfl,h1,r1⟩:=Rep.dz a
  exact .inr (.inl ⟨b,rfl,⟨xs,u.fh.tup h1⟩,P _ F1 H1 u (Mm h1 r1)⟩)
 | .str z,hk =>
  cases hk
  cases Rep.bU a
  exact .inr (.inr ⟨z,rfl,P _ F1 H1 u (Mp z)⟩)
noncomputable def qy (lo:Int) (n:Nat):List PV:=(List.range n).map fun (i:Nat)=>.int (lo+(i:Int))
theorem dJ (lo:Int) (n:Nat):(qy lo n).length=n:=by simp [qy]
theorem Fv (lo:Int) (n:Nat):ItR K (Itr lo n) F (qy lo n) where
 stop:=fun F' H' s s'=>by rw [dJ];exact Zaf _
 go:=fun i F' H' hi s s'=>by rw [dJ] at hi;exact hi
 yld:=fun i F' H' x H'' hi s s' y=>by
  obtain ⟨rfl,rfl⟩:=y
  rw [dJ] at hi
  refine ⟨F',.int (lo+i),Up.refl s',?_,.int⟩
  unfold qy
  rw [Zag,Zbw hi]
  rfl
noncomputable def m9:List PV->Option (Res (List PV))
 | [.int j]=>if -(2 ^ 62)≤j∧j < 2 ^ 62 then some (.ok (qy 0 j.toNat)) else none
 | _=>none
noncomputable def Df:List PV->Option (Res (List PV))
 | [.int i,.int j]=>if -(2 ^ 62)≤i∧i < 2 ^ 62∧-(2 ^ 62)≤j∧j < 2 ^ 62 then some (.ok (qy i (j - i).toNat)) else none
 | _=>none
theorem ni {f:Fn (List PV)} (h:MA K C tA f):MI K C (Oe tA) (m1 m9 f):=by
 intro F H σ ρ R' r R e P
 refine h.run R e P fun l xs F1 H1 hk u a=>?_
 have inv:∃ j,l=[.int j]:=by
  clear P u a
  rcases l with _ | ⟨x,_ | ⟨y,l⟩⟩ <;> first | exact noS hk | (cases x <;> first | exact noS hk | exact ⟨_,rfl⟩)
 obtain ⟨j,rfl⟩:=inv
 have hk:(if -(2 ^ 62)≤j∧j < 2 ^ 62 then some (Res.ok (qy 0 j.toNat)) else none)=some r:=hk
 split at hk
 ·rename_i hj
  cases hk
  obtain ⟨v,ys,rfl,r1,r2⟩:=a.dO
  cases r2.gP
  cases Rep.bK r1
  exact ⟨j,rfl,hj.1,hj.2,P _ F1 H1 u (Fv 0 j.toNat)⟩
 ·cases hk
theorem Mq {f:Fn (List PV)} (h:MA K C tA f):MI K C (Og tA) (m1 Df f):=by
 intro F H σ ρ R' r R e P
 refine h.run R e P fun l xs F1 H1 hk u a=>?_
 have inv:∃ i j,l=[.int i,.int j]:=by
  clear P u a
  rcases l with _ | ⟨x,_ | ⟨y,_ | ⟨z,l⟩⟩⟩ <;> first | exact noS hk | (cases x <;> first | exact noS hk | (cases y <;> first | exact noS hk | exact ⟨_,_,rfl⟩))
 obtain ⟨i,j,rfl⟩:=inv
 have hk:(if -(2 ^ 62)≤i∧i < 2 ^ 62∧-(2 ^ 62)≤j∧j < 2 ^ 62 then some (Res.ok (qy i (j - i).toNat)) else none)=some r:=hk
 split at hk
 ·rename_i hj
  cases hk
  obtain ⟨v,ys,rfl,r1,r2⟩:=a.dO
  obtain ⟨w,zs,rfl,r3,r4⟩:=r2.dO
  cases r4.gP
  cases Rep.bK r1
  cases Rep.bK r3
  exact ⟨i,j,rfl,hj,P _ F1 H1 u (Fv i (j - i).toNat)⟩
 ·cases hk
noncomputable def sX (l:List PV):List PV:=l.mapIdx fun (i:Nat) x=>.tup [.int i,x]
noncomputable def zm:List PV->Option (Res (List PV))
 | [.lst l]=>some (.ok (sX l))
 | _=>none
theorem Fw {f:Fn (List PV)} (h:MA K C tA f):MI K C (Oo K tA) (m1 zm f):=by
 intro F H σ ρ R' r R e P
 refine h.run R e P fun l xs F1 H1 hk u a=>?_
 have inv:∃ m,l=[.lst m]:=by
  clear P u a
  rcases l with _ | ⟨x,_ | ⟨y,l⟩⟩ <;> first | exact noS hk | (cases x <;> first | exact noS hk | exact ⟨_,rfl⟩)
 obtain ⟨l,rfl⟩:=inv
 cases hk
 obtain ⟨v,ys,rfl,r1,r2⟩:=a.dO
 cases r2.gP
 obtain ⟨b,xs,rfl,h1,r1⟩:=Rep.dB r1
 have hl:(sX l).length=l.length:=by simp [sX]
 refine ⟨b,rfl,⟨xs,u.fh.seq h1⟩,P _ F1 H1 u ⟨fun F' H' s s'=>?_,fun i F' H' hi s s'=>?_,fun i F' H' x H'' hi s s' y=>?_⟩⟩
 ·exact ⟨xs,(s.trans s').seq h1,by rw [hl,r1.1];exact Zaf _⟩
 ·rw [hl] at hi
  exact ⟨xs,xs[i]'(by rw [r1.1];exact hi),(s.trans s').seq h1,by simp⟩
 ·obtain ⟨p,y,hp,rfl,rfl,hy⟩:=y
  have e:=hy xs ((s.trans s').seq h1)
  obtain ⟨q,e2,rq⟩:=r1.got e
  have un:=Up.new (o:=.tup [.int i,y]) s' hp
  refine ⟨_,.tup [.int i,q],un,?_,.tup aX rfl fun j x p hx hp'=>?_⟩
  ·unfold sX
   rw [Zbf,e2]
   rfl
  ·match j with
   | 0=>simp at hx hp';subst hx hp';exact .int
   | 1=>simp at hx hp';subst hx hp';exact rq.up (s.trans un.ff)
   | j+2=>simp at hx
noncomputable def NoO (ρ:Rho):Prop:=∀ (j:Nat) q,ρ[j]?≠some (some (.ow q))∧ρ[j]?≠some (some (.dp q))
noncomputable def Wr (T:List Nat) (tg:PV->Rho->Option Rho):Prop:=∀ x ρ ρ',tg x ρ=some ρ'->ρ'.length=ρ.length∧(∀ j,j ∉ T->ρ'[j]?=ρ[j]?)∧(NoO ρ->NoO ρ')
theorem nj (i:Nat):Wr [i] (gN i):=fun x ρ ρ' e=>by
 cases e
 refine ⟨by simp,fun j hj=>?_,fun h j q=>⟨fun e=>?_,fun e=>?_⟩⟩
 ·rw [Zal (by simpa using Za4 (by simpa using hj))]
 ·rcases get_set e with ⟨_,e2⟩ | ⟨_,e2⟩
  ·cases e2
  ·exact (h j q).1 e2
 ·rcases get_set e with ⟨_,e2⟩ | ⟨_,e2⟩
  ·cases e2
  ·exact (h j q).2 e2
noncomputable def shOnly:Option Sl->Option Sl
 | some (.sh p)=>some (.sh p)
 | _=>none
noncomputable def frR (fr:List (Option Nat)) (ρ:Rho):Rho:=fr.map fun o=>match o with
 | some i=>match ρ[i]? with
  | some v=>shOnly v
  | none=>none
 | none=>none
noncomputable def gJ (tg:PV->Rho->Option Rho) (tst:Fn Bool) (el:Fn PV) (ρb:Rho):List PV->Option (Res (List PV))
 | []=>some (.ok [])
 | x::xs=>match tg x ρb with
  | none=>none
  | some ρ1=>bnd (tst ρ1) fun b=>if b=true then bnd (el ρ1) fun p=>bnd (gJ tg tst el ρb xs) fun r=>some (.ok (p::r)) else gJ tg tst el ρb xs
noncomputable def pL (it:Fn (List PV)) (fr:List (Option Nat)) (tg:PV->Rho->Option Rho) (tst:Fn Bool) (el:Fn PV):Fn PV:=fun ρ=>bnd (it ρ) fun l =>
 if l.length≤sizeLine then bnd (gJ tg tst el (frR fr ρ) l) fun r=>some (.ok (.lst r)) else none
noncomputable def sY:Fn Bool:=fun _=>some (.ok true)
theorem q9:MT K C R6 sY:=fun F H σ ρ Q r R e P=>by
 cases e
 exact P F H (Up.refl R.rb.sub)
theorem RE.block (R:RE K C.toCf F H σ ρ) (fr:List (Option Nat)):RE K C.toCf F H (frσ fr σ) (frR fr ρ)∧NoO (frR fr ρ):=by
 have nd:∀ (j:Nat) q,(frR fr ρ)[j]?≠some (some (.dp q)):=fun j q e=>by
  unfold frR at e
  rw [Zag] at e
  cases e1:fr[j]? with
  | none=>rw [e1] at e;cases e
  | some o =>
   rw [e1] at e
   cases o with
   | none=>cases e
   | some i =>
    simp only [Option.map_some,Option.some.injEq] at e
    split at e
    ·rename_i v hv
     unfold shOnly at e
     split at e <;> cases e
    ·cases e
 have no:∀ (j:Nat) q,(frR fr ρ)[j]?≠some (some (.ow q)):=fun j q e=>by
  unfold frR at e
  rw [Zag] at e
  cases e1:fr[j]? with
  | none=>rw [e1] at e;cases e
  | some o =>
   rw [e1] at e
   cases o with
   | none=>cases e
   | some i =>
    simp only [Option.map_some,Option.some.injEq] at e
    split at e
    ·rename_i v hv
     unfold shOnly at e
     split at e <;> cases e
    ·cases e
 refine ⟨⟨R.rb,by unfold frσ frR;simp,fun j p e=>?_,fun j p e=>absurd e (no j p),fun i j p q a e=>absurd e (no i p),_,RD.no nd⟩,fun j q=>⟨no j q,nd j q⟩⟩
 unfold frR at e
 rw [Zag] at e
 unfold frσ
 rw [Zag]
 cases e1:fr[j]? with
 | none=>rw [e1] at e;cases e
 | some o =>
  rw [e1] at e
  cases o with
  | none=>cases e
  | some i =>
   simp only [Option.map_some,Option.some.injEq] at e ⊢
   split at e
   ·rename_i v hv
    unfold shOnly at e
    split at e
    ·cases e
     obtain ⟨w,e2,e3⟩:=R.sh i _ hv
     exact ⟨w,by rw [e2],e3⟩
    ·cases e
   ·cases e
theorem RE.other (R:RE K C.toCf F H σ ρ) {D:Addr}{o:HO} (hf:F D=none) (h0:C.H0 D=none) (no:NoO ρ):RE K C.toCf F (upd H D o) σ ρ where
 rb:=⟨fun b u q=>by rw [aO (b8 q hf)];exact R.rb.sub b u q,fun b u q n=>by rw [aO (b8 q h0)];exact R.rb.keep b u q n,R.rb.new,fun b hb=>⟨by
  have:=(R.rb.ios b hb)
  by_cases hbD:b=D
  ·subst hbD;exact absurd h0 this.2
  ·rw [aO hbD];exact this.1,(R.rb.ios b hb).2⟩⟩
 len:=R.len
 sh:=R.sh
 ow:=fun i p e=>absurd e (no i p).1
 dis:=fun i j p q a e=>absurd e (no i p).1
 dd:=⟨_,RD.no fun i p=>(no i p).2⟩
theorem RE.weak {ρ':Rho} (R:RE K C.toCf F H σ ρ') (hl:ρ.length=ρ'.length) (h:∀ (j:Nat) s,ρ[j]?=some (some s)->ρ'[j]?=some (some s)):RE K C.toCf F H σ ρ where
 rb:=R.rb
 len:=by rw [R.len,hl]
 sh:=fun i p e=>R.sh i p (h i _ e)
 ow:=fun i p e=>R.ow i p (h i _ e)
 dis:=fun i j p q a e e'=>R.dis i j p q a (h i _ e) (h j _ e')
 dd:=let ⟨P,d⟩:=R.dd;⟨P,d.own,d.dis,fun i j q b z e=>d.ow i j q b z (h j _ e),fun i p e=>d.dp i p (h i _ e)⟩
structure ItH (K:PySem.W.Frag) (J:It) (F H:Hp) (l:List PV):Prop where
 stop:∀ F' H',bh F F'->bh F' H'->bh H H'->J.stop l.length H'
 go:∀ i F' H',i < l.length->bh F F'->bh F' H'->bh H H'->J.go i H'
 yld:∀ i F' H' x H'',i < l.length->bh F F'->bh F' H'->bh H H'->J.yld i H' x H''->∃ F'' p,Up F' H' F'' H''∧l[i]?=some p∧Rep K F'' x p
noncomputable def MIH (K:PySem.W.Frag) (C:Cg) (wi:TI) (f:Fn (List PV)):Prop :=
 ∀ F H σ ρ R' r,RE K C.toCf F H σ ρ->f ρ=some r->Pr C F (fun l=>∀ J F' H',Up F H F' H'->ItH K J F' H' l->R' J H') r->wi σ H R'
theorem MI.h {wi:TI}{f:Fn (List PV)} (h:MI K C wi f):MIH K C wi f:=fun F H σ ρ R' r R e P =>
 h F H σ ρ R' r R e (Pr.mono P (bh.refl _) fun l q J F' H' u x=>q J F' H' u ⟨fun a b c d _=>x.stop a b c d,fun i a b hi c d _=>x.go i a b hi c d,fun i a b y z hi c d _=>x.yld i a b y z hi c d⟩)
theorem JH (h:SqL K H a xs) (r:bR K F xs l):ItH K (Itl K a) F H l where
 stop:=fun F' H' s s' t=>⟨xs,t.seq h,by rw [r.1];exact Zaf _⟩
 go:=fun i F' H' hi s s' t=>⟨xs,xs[i]'(by rw [r.1];exact hi),t.seq h,by simp⟩
 yld:=fun i F' H' x H'' hi s s' t y=>by
  obtain ⟨rfl,y⟩:=y
  have e:=y xs (t.seq h)
  obtain ⟨p,e2,rp⟩:=r.got e
  exact ⟨F',p,Up.refl s',e2,rp.up s⟩
theorem vP {f:Fn (List PV)} (h:MJ K C (aV K) te f):MIH K C (JF K te) f:=by
 intro F H σ ρ R' r R e P
 refine h F H σ ρ _ r R e (Pr.mono P (bh.refl _) fun l q v F1 H1 u x=>?_)
 obtain ⟨b,xs,rfl,hs,hr⟩:=x
 exact .inl ⟨b,rfl,⟨xs,hs⟩,q _ F1 H1 u (JH hs hr)⟩
theorem uh {α β γ:Type}{x:Option (Res α)}{f:α->Option (Res β)}{g:β->Option (Res γ)}:bnd (bnd x f) g=bnd x fun a=>bnd (f a) g:=by
 match x with
 | some (.ok a)=>rfl
 | some (.ex z)=>rfl
 | none=>rfl
theorem sZ {wi:TI}{it:Fn (List PV)}{fr:List (Option Nat)}{gt:TG}{tg:PV->Rho->Option Rho}{T:List Nat}{tc:TT}{tst:Fn Bool}{el:Fn PV} (hi:MIH K C wi it) (hg:MG K C gt tg) (hT:Wr T tg) (ht:MT K C tc tst) (he:MJ K C (aF K) te el)
  (hfr:T.all (fun j=>fr[j]? == some none)=true:=by rfl):MO K C (Ai wi fr gt tc te) (pL it fr tg tst el):=by
 intro F H σ ρ Q r R e P
 rcases fL e with ⟨z,e1,rfl⟩ | ⟨l,e1,hk⟩
 ·exact hi F H σ ρ _ _ R e1 P
 split at hk
 case isFalse=>cases hk
 rename_i hlen
 refine hi F H σ ρ _ _ R e1 fun J F1 H1 u hJ D hD=>?_
 have R1:=R.up u
 obtain ⟨Rb,no⟩:=R1.block fr
 have hD0:C.H0 D=none:=R1.rb.Fd hD
 have hFD:F1 D=none:=u.fh.free hD
 have hρ:∀ (j:Nat),j∈T->(frR fr ρ)[j]?=some none:=fun j hj=>by
  have:=ZaX.mp hfr j hj
  unfold frR
  rw [Zag,show fr[j]?=some none by simpa using this]
  rfl
 refine ⟨fun i m σ' H'=>∃ F' ys acc,m=l.length - i∧i≤l.length∧bh F1 F'∧(∀ b o,F' b=some o->F1 b=some o∨Frz H1 b o)∧bh H1 H'∧H' D=some (.lst ys)∧F' D=none∧bR K F' ys acc∧acc.length≤i ∧
   RE K C.toCf F' H' σ' (frR fr ρ)∧bnd (gJ tg tst el (frR fr ρ) (l.drop i)) (fun r=>some (.ok (.lst (acc++r))))=some r,
  ⟨l.length,F1,[],[],by simp,Za9 _,bh.refl _,fun _ _ q=>.inl q,fC hD,aX,hFD,.nil,Zaf _,Rb.other hFD hD0 no,by rw [Za3];exact hk⟩,?_⟩
 rintro i m σ' H' ⟨F',ys,acc,rfl,hil,s1,fr1,sH,eD,nD,ra,hacc,R',e'⟩
 by_cases hlt:i < l.length
 case neg =>
  have ei:i=l.length:=by omega
  subst ei
  rw [List.drop_length] at e'
  have e':some (Res.ok (PV.lst (acc++[])))=some r:=e'
  rw [ZaE] at e'
  cases e'
  exact .inl ⟨hJ.stop F' H' s1 R'.rb.sub sH,P D F' H' (u.trans ⟨s1,sH,fr1,R'.rb.sub⟩) (u.hh.free hD) nD ⟨ys,eD,ra⟩⟩
 refine .inr ⟨hJ.go i F' H' hlt s1 R'.rb.sub sH,fun σ2 H2=>∃ F2 ys acc,bh F1 F2∧(∀ b o,F2 b=some o->F1 b=some o∨Frz H1 b o)∧bh H1 H2∧H2 D=some (.lst ys)∧F2 D=none∧bR K F2 ys acc∧acc.length≤i+1 ∧
   RE K C.toCf F2 H2 σ2 (frR fr ρ)∧bnd (gJ tg tst el (frR fr ρ) (l.drop (i+1))) (fun r=>some (.ok (.lst (acc++r))))=some r,
  fun σ2 H2 ⟨F2,ys,acc,z⟩=>⟨l.length - (i+1),by omega,F2,ys,acc,rfl,hlt,z⟩,fun x H'' y=>?_⟩
 obtain ⟨F'',p,u2,ep,rx⟩:=hJ.yld i F' H' x H'' hlt s1 R'.rb.sub sH y
 have ed:l.drop i=p::l.drop (i+1):=by
  rw [ZaH hlt]
  rw [Zac hlt] at ep
  rw [Zab ep]
 rw [ed,gJ] at e'
 split at e'
 ·cases e'
 rename_i ρ1 h1
 obtain ⟨w1,w2,w3⟩:=hT p _ ρ1 h1
 have no1:=w3 no
 have weak:∀ (j:Nat) s,(frR fr ρ)[j]?=some (some s)->ρ1[j]?=some (some s):=fun j s ej=>by
  rw [w2 j fun z=>by rw [hρ j z] at ej;cases ej];exact ej
 refine hg F'' H'' σ' (frR fr ρ) x p ρ1 _ (R'.up u2) rx h1 fun σ1 R1'=>?_
 have stay:∀ {F3 H3:Hp},Up F' H' F3 H3->bh F1 F3∧(∀ b o,F3 b=some o->F1 b=some o∨Frz H1 b o)∧bh H1 H3∧H3 D=some (.lst ys)∧F3 D=none∧bR K F3 ys acc:=fun {F3 H3} u3=>by
  refine ⟨s1.trans u3.ff,fun b o q=>?_,sH.trans u3.hh,u3.hh _ _ eD,?_,ra.up u3.ff⟩
  ·rcases u3.fr b o q with z | z
   ·exact fr1 b o z
   ·exact .inr (z.imp (fun z=>sH.free z) id)
  ·cases q:F3 D with
   | none=>rfl
   | some o =>
    rcases u3.fr D o q with z | z | ⟨ys,z⟩
    ·rw [nD] at z;cases z
    ·rw [eD] at z;cases z
    ·subst z
     have w:=u3.fh _ _ q
     rw [u3.hh _ _ eD] at w;cases w
 have Pl:∀ {F3 H3:Hp},Up F' H' F3 H3->∀ {z:PV},r=.ex z->PX C F3 z:=fun {F3 H3} u3 {z} ez=>by
  subst ez
  exact PX.up P (u.ff.trans (s1.trans u3.ff))
 rw [uh] at e'
 rcases fL e' with ⟨z',e4,ez⟩ | ⟨b,e4,e5⟩
 ·exact ht F'' H'' σ1 ρ1 _ _ R1' e4 (Pl u2 ez)
 refine ht F'' H'' σ1 ρ1 _ _ R1' e4 fun F3 H3 u3=>?_
 have u23:=u2.trans u3
 cases b with
 | false =>
  rw [if_neg (by decide)] at e5 ⊢
  obtain ⟨a1,a2,a3,a4,a5,a6⟩:=stay u23
  exact ⟨F3,ys,acc,a1,a2,a3,a4,a5,a6,by omega,(R1'.up u3).weak w1.symm weak,e5⟩
 | true =>
  rw [if_pos rfl] at e5 ⊢
  rw [uh] at e5
  rcases fL e5 with ⟨z',e6,ez⟩ | ⟨q,e6,e7⟩
  ·exact he F3 H3 σ1 ρ1 _ _ (R1'.up u3) e6 (Pl u23 ez)
  refine he F3 H3 σ1 ρ1 _ _ (R1'.up u3) e6 fun v F4 H4 u4 rv=>?_
  have u24:=u23.trans u4
  obtain ⟨a1,a2,a3,a4,a5,a6⟩:=stay u24
  refine ⟨ys,a4,by rw [a6.1];omega,F4,ys++[v],acc++[q],a1,a2,Hf hD a3,aX,a5,a6.snoc rv,by simp;omega,((R1'.up (u3.trans u4)).other a5 hD0 no1).weak w1.symm weak,?_⟩
  rw [uh] at e7
  rw [←e7]
  congr 1
  funext rr
  show some (Res.ok (PV.lst (acc++[q]++rr)))=some (Res.ok (PV.lst (acc++q::rr)))
  rw [ZaA];rfl
theorem uZ {wi:TI}{it:Fn (List PV)}{fr:List (Option Nat)}{gt:TG}{tg:PV->Rho->Option Rho}{T:List Nat}{tc:TT}{tst:Fn Bool}{el:Fn PV} (hi:MI K C wi it) (hg:MG K C gt tg) (hT:Wr T tg) (ht:MT K C tc tst) (he:MJ K C (aF K) te el)
  (hfr:T.all (fun j=>fr[j]? == some none)=true:=by rfl):MO K C (Ai wi fr gt tc te) (pL it fr tg tst el):=sZ hi.h hg hT ht he hfr
end
noncomputable def tyN:PV->Option String
 | .non=>some "NoneType"
 | .bl _=>some "bool"
 | .int _=>some "int"
 | .str _=>some "str"
 | .tup _=>some "tuple"
 | .lst _=>some "list"
 | .dk _=>some "dict"
 | .dt _=>some "dict"
 | _=>none
noncomputable def Qn (t T:String):Option Bool :=
 if t=T then some true else
 if T="int" then some (t == "bool") else
 if T="bool"∨T="str"∨T="tuple"∨T="list"∨T="dict" then some false else none
theorem Mr {K:PySem.W.Frag}{p:PV}{t T:String}{b:Bool} (h:tyN p=some t) (e:Qn t T=some b):PySem.W.kitOne K (.type t) (.type T)=some b:=by
 have ht:t="NoneType"∨t="bool"∨t="int"∨t="str"∨t="tuple"∨t="list"∨t="dict":=by
  cases p <;> simp [tyN] at h <;> subst h <;> simp
 unfold Qn at e
 split at e
 ·rename_i e1
  subst e1
  cases e
  exact Jk
 ·split at e
  ·rename_i n1 e1
   subst e1
   cases e
   rcases ht with rfl | rfl | rfl | rfl | rfl | rfl | rfl <;> first | exact absurd rfl n1 | kernel_rfl
  ·split at e
   ·rename_i n1 n2 e1
    cases e
    rcases e1 with rfl | rfl | rfl | rfl | rfl <;> rcases ht with rfl | rfl | rfl | rfl | rfl | rfl | rfl <;> first | exact absurd rfl n1 | kernel_rfl
   ·cases e
noncomputable def isI (p:PV) (T:String):Option Bool:=match tyN p with
 | some t=>Qn t T
 | none=>none
section
variable {X:Cx}
noncomputable def S5 (K:PySem.W.Frag):List V->Hp->VK->Prop:=fun xs H Q=>∃ x p T b,xs=[x,.ty T]∧Rep K H x p∧isI p T=some b∧Q (.bl b) H
theorem tu:jt X (.builtin "isinstance") (S5 X.K):=by
 intro pins s σ H xs us Q I rv h
 obtain ⟨x,p,T,b,rfl,rp,e,q⟩:=h
 obtain ⟨u,v,rfl,ru,rw'⟩:=rv.two
 cases rw'
 have fin:∀ tk,EP X pins σ Q (.bool b) { s with toks:=tk }:=fun tk=>⟨.bl b,H,I.tok _,rfl,q⟩
 unfold isI at e
 split at e
 case h_2=>cases e
 rename_i t ht
 have ek:=Mr (K:=X.K) ht e
 cases rp with
 | non=>cases ru;cases ht;exact Za7 PySem.W.kitx_none I.kIn True.intro ek (fun z=>nomatch z) fin
 | bl=>cases ru;cases ht;exact Za7 PySem.W.kitx_bool I.kIn True.intro ek (fun z=>nomatch z) fin
 | int=>obtain ⟨t,rfl⟩:=ru;cases ht;exact Za7 PySem.W.kitx_int I.kIn True.intro ek (fun z=>nomatch z) fin
 | str=>obtain ⟨t,rfl⟩:=ru;cases ht;exact Za7 PySem.W.kitx_str I.kIn True.intro ek (fun z=>nomatch z) fin
 | ty=>cases ht
 | tup h =>
  cases ru;cases ht
  obtain ⟨_,_,⟨o,h1,h2,_⟩,_⟩:=I.tuple (SqT.of h)
  exact Za7 PySem.W.kitx_tuple I.kIn ⟨o,h1,h2⟩ ek (fun z=>nomatch z) fin
 | lst h =>
  cases ru;cases ht
  obtain ⟨_,_,⟨o,n,h1,h2,_⟩,_⟩:=I.list h
  exact Za7 PySem.W.kitx_list I.kIn ⟨o,h1,h2⟩ ek (fun z=>nomatch z) fin
 | dk h =>
  cases ru;cases ht
  obtain ⟨_,_,vs,_,o,es,ep,h1,h2,_⟩:=h.ok I.hok
  exact Za7 PySem.W.kitx_dict I.kIn ⟨o,h1,h2.1⟩ ek (fun z=>nomatch z) fin
 | dt h =>
  cases ru;cases ht
  obtain ⟨_,_,vs,_,o,es,ep,h1,h2,_⟩:=h.ok I.hok
  exact Za7 PySem.W.kitx_dict I.kIn ⟨o,h1,h2.1⟩ ek (fun z=>nomatch z) fin
 | exc=>cases ht
 | exc0=>cases ht
end
section
variable {K:PySem.W.Frag}{C:Cg}{α β γ:Type}{A:Rel α}{B:Rel β}{D:Rel γ}{ta tb te:TE}{f:Fn α}{g:Fn β}{rr:List V->Hp->VK->Prop}
noncomputable def R1M (C:Cg) (A:Rel α) (D:Rel γ) (rr:List V->Hp->VK->Prop) (op:α->Option (Res γ)):Prop :=
 ∀ F H x a res Q,bh F H->A F H x a->op a=some res->Pr C F (fun c=>∀ v F' H',Up F H F' H'->D F' H' v c->Q v H') res->rr [x] H Q
theorem bV {op:α->Option (Res γ)} (rule:R1M C A D rr op) (ha:MJ K C A ta f):MJ K C D (tCB rr (jh ta uQ)) (m1 op f):=by
 intro F H σ ρ Q r R e P
 refine ha.run R e P fun p v F1 H1 hk u a=>?_
 exact rule F1 H1 v p r Q u.fh a hk (P.later u)
noncomputable def R1O (K:PySem.W.Frag) (C:Cg) (A:Rel α) (rr:List V->Hp->VK->Prop) (op:α->Option (Res PV)):Prop :=
 ∀ F H x a res Q,bh F H->A F H x a->op a=some res->Pr C F (fun p=>∀ a F' H',Up F H F' H'->H a=none->F' a=none->Own K F' H' a p->Q (.ref a) H') res->rr [x] H Q
theorem JK {op:α->Option (Res PV)} (rule:R1O K C A rr op) (ha:MJ K C A ta f):MO K C (tCB rr (jh ta uQ)) (m1 op f):=by
 intro F H σ ρ Q r R e P
 refine ha.run R e P fun p v F1 H1 hk u a=>?_
 exact rule F1 H1 v p r Q u.fh a hk (P.m5 u)
noncomputable def R2B (C:Cg) (A:Rel α) (B:Rel β) (D:Rel γ) (rr:List V->Hp->VK->Prop) (op:α->β->Option (Res γ)):Prop :=
 ∀ F H x y a b res Q,bh F H->A F H x a->B F H y b->op a b=some res->Pr C F (fun c=>∀ v F' H',Up F H F' H'->D F' H' v c->Q v H') res->rr [x,y] H Q
theorem zp {op:α->β->Option (Res γ)} (up:UpM A) (rule:R2B C A B D rr op) (ha:MJ K C A ta f) (hb:MJ K C B tb g):MJ K C D (tCB rr (jh ta (jh tb uQ))) (m2 op f g):=by
 intro F H σ ρ Q r R e P
 refine ha.run R e P fun p v F1 H1 hk u a=>?_
 refine hb.run (R.up u) hk (P.later u) fun q w F2 H2 hk2 u2 b=>?_
 exact rule F2 H2 v w p q r Q u2.fh (up _ _ _ _ _ _ u2 a) b hk2 (P.later (u.trans u2))
noncomputable def cZ:PV->Option (Res PV)
 | .str z=>if z.length≤sizeLine then some (.ok (.int z.length)) else none
 | .lst l=>some (.ok (.int l.length))
 | .tup l=>some (.ok (.int l.length))
 | _=>none
theorem dF:R1M C (aH K) (aF K) (fun xs H Q=>∃ x n,xs=[x]∧RN K x H n∧Q (.int n) H) cZ:=by
 intro F H x a res Q s ha e P
 match a,e with
 | .str z,e =>
  cases Rep.bU ha
  have e:(if z.length≤sizeLine then some (Res.ok (PV.int z.length)) else none)=some res:=e
  split at e
  ·rename_i hz
   cases e
   exact ⟨_,_,rfl,⟨hz,rfl⟩,P _ F H (Up.refl s) .int⟩
  ·cases e
 | .lst l,e =>
  cases e
  obtain ⟨b,xs,rfl,h1,r1⟩:=Rep.dB ha
  rw [←r1.1] at P
  exact ⟨_,_,rfl,.inl ⟨xs,h1,rfl⟩,P _ F H (Up.refl s) .int⟩
 | .tup l,e =>
  cases e
  obtain ⟨b,xs,rfl,h1,r1⟩:=Rep.dz ha
  rw [←r1.1] at P
  exact ⟨_,_,rfl,.inr ⟨xs,h1,rfl⟩,P _ F H (Up.refl s) .int⟩
noncomputable def Ba (p q:PV):Option (Res PV):=match q with
 | .ty T=>match isI p T with
  | some b=>some (.ok (.bl b))
  | none=>none
 | _=>none
theorem Ms:R2B C (aH K) (aF K) (aF K) (S5 K) Ba:=by
 intro F H x y a b res Q s ha hb e P
 match b,e with
 | .ty T,e =>
  cases Rep.Qc hb
  have e:(match isI a T with
   | some b=>some (Res.ok (PV.bl b))
   | none=>none)=some res:=e
  split at e
  ·rename_i k hk
   cases e
   exact ⟨x,a,T,k,rfl,ha,hk,P _ F H (Up.refl s) .bl⟩
  ·cases e
noncomputable def jA:List PV->Option (List Bool)
 | []=>some []
 | .bl b::r=>(jA r).map (b::·)
 | _=>none
theorem vQ {F:Hp}:∀ {l:List PV}{bs:List Bool}{xs:List V},jA l=some bs->bR K F xs l->xs=bs.map V.bl
 | [],bs,xs,e,r=>by cases e;exact r.gP
 | .bl b::l,bs,xs,e,r=>by
  rw [jA] at e
  cases h:jA l with
  | none=>rw [h] at e;cases e
  | some cs =>
   rw [h] at e
   cases e
   obtain ⟨v,ys,rfl,r1,r2⟩:=r.dO
   rw [Rep.gQ r1,vQ h r2]
   rfl
noncomputable def vR (l:List PV):Option (Res PV):=match jA l with
 | some bs=>some (.ok (.bl (bs.all id)))
 | none=>none
theorem Ox:R1M C (aV K) (aF K) (fun xs H Q=>∃ (p:Addr) (bs:List Bool),xs=[.ref p]∧SqL K H p (bs.map V.bl)∧Q (.bl (bs.all id)) H) vR:=by
 intro F H x a res Q s ha e P
 unfold vR at e
 split at e
 ·rename_i bs hb
  cases e
  obtain ⟨b,xs,rfl,h1,r1⟩:=ha
  rw [vQ hb r1] at h1
  exact ⟨b,bs,rfl,h1,P _ F H (Up.refl s) .bl⟩
 ·cases e
noncomputable def Dg (l:List PV):Option (Res PV):=some (.ok (.lst l))
theorem Qo:R1O K C (aV K) (fun xs H Q=>∃ p ys,xs=[.ref p]∧(SqL K H p ys∨SqT K H p ys)∧∀ l,H l=none->Q (.ref l) (upd H l (.lst ys))) Dg:=by
 intro F H x a res Q s ha e P
 cases e
 obtain ⟨b,xs,rfl,h1,r1⟩:=ha
 exact ⟨b,xs,rfl,.inl h1,fun l hl=>P l F _ (Up.CV s hl) hl (s.free hl) ⟨_,aX,r1⟩⟩
noncomputable def Bb (l:List PV):Option (Res PV):=some (.ok (.tup l))
theorem JL:R1M C (aV K) (aF K) (fun xs H Q=>∃ p ys,xs=[.ref p]∧((SqL K H p ys∧∀ l,H l=none->Q (.ref l) (upd H l (.tup ys)))∨(SqT K H p ys∧Q (.ref p) H))) Bb:=by
 intro F H x a res Q s ha e P
 cases e
 obtain ⟨b,xs,rfl,h1,r1⟩:=ha
 refine ⟨b,xs,rfl,.inl ⟨h1,fun l hl=>?_⟩⟩
 have un:=Up.new (o:=.tup xs) s hl
 exact P _ _ _ un (.tup aX r1.1 (r1.up un.ff).2)
noncomputable def nq:List PV->Option (List Str)
 | []=>some []
 | .str b::r=>(nq r).map (b::·)
 | _=>none
theorem xW {F:Hp}:∀ {l:List PV}{bs:List Str}{xs:List V},nq l=some bs->bR K F xs l->xs=bs.map V.str
 | [],bs,xs,e,r=>by cases e;exact r.gP
 | .str b::l,bs,xs,e,r=>by
  rw [nq] at e
  cases h:nq l with
  | none=>rw [h] at e;cases e
  | some cs =>
   rw [h] at e
   cases e
   obtain ⟨v,ys,rfl,r1,r2⟩:=r.dO
   rw [Rep.bU r1,xW h r2]
   rfl
noncomputable def vU (z:Str) (l:List PV):Option (Res PV):=match nq l with
 | some ys=>if (ys.map (·.length)).sum+ys.length * z.length≤16777216 then some (.ok (.str (Txt.join z ys))) else none
 | none=>none
noncomputable def uJ (f:Fn PV) (g:Fn (List PV)):Fn PV:=fun ρ=>bnd (f ρ) fun a=>match a with
 | .str z=>bnd (g ρ) fun l=>vU z l
 | _=>none
theorem tD {f:Fn PV}{g:Fn (List PV)} (ha:MJ K C (aF K) ta f) (hb:MJ K C (aV K) tb g) :
  MJ K C (aF K) (tBM K "str" (fun x xs H Q=>∃ (z:Str) (p:Addr) (ys:List Str),x=.str z∧xs=[.ref p]∧SqL K H p (ys.map V.str)∧(ys.map (·.length)).sum+ys.length * z.length≤16777216∧Q (.str (Txt.join z ys)) H) ta (jh tb uQ)) (uJ f g):=by
 intro F H σ ρ Q r R e P
 refine ha.run R e P fun p v F1 H1 hk u a=>?_
 match p,hk with
 | .str z,hk =>
  cases Rep.bU a
  refine ⟨tyS,hb.run (R.up u) hk (P.later u) fun q w F2 H2 hk2 u2 b=>?_⟩
  unfold vU at hk2
  split at hk2
  ·rename_i ys hys
   split at hk2
   ·rename_i hz
    cases hk2
    obtain ⟨b1,xs,rfl,h1,r1⟩:=b
    rw [xW hys r1] at h1
    exact ⟨z,b1,ys,rfl,rfl,h1,hz,P _ F2 H2 (u.trans u2) .str⟩
   ·cases hk2
  ·cases hk2
noncomputable def fM (f:Fn PV):Fn (List PV):=fun ρ=>bnd (f ρ) uF
noncomputable def cH (i:Nat):Fn (List PV):=fun ρ=>bnd (mVL i ρ) uF
noncomputable def Mt (i:Nat) (f:Sn):Sn:=fun ρ=>f (yW i ρ)
end
noncomputable abbrev XR0:Hp->Value->Option Addr->PV->Prop:=fun _ _ _ _=>False
noncomputable abbrev C0 (io:Addr->Prop) (H0 F0:Hp):Cg:=⟨⟨io,True,H0,F0,E0⟩,XR0⟩
noncomputable def startR (ps:List PV) (k:Nat):Rho:=ps.map (fun p=>some (.sh p))++List.replicate k none
noncomputable def fin:Option Out->Option (Res PV)
 | some (.nx _)=>some (.ok .non)
 | some (.rt p)=>some (.ok p)
 | some (.ex z)=>some (.ex z)
 | _=>none
noncomputable def qz:Option Out->Option (Res PV)
 | some (.ro p)=>some (.ok p)
 | some (.ex z)=>some (.ex z)
 | _=>none
section
variable {K:PySem.W.Frag}{XR:Hp->Value->Option Addr->PV->Prop}{N:List Str}{vs:List V}{H:Hp}{Q:VK}{E:XK}{t:TS}{b:Sn}{m:List PV->Option (Res PV)}
theorem tE {E:XK}{F:Hp}{ps:List PV}{n:Nat} (s:bh F H) (r:bR K F vs ps) (hN:N.length=vs.length+n):RE K ⟨fun _=>False,True,H,F,E⟩ F H (start N vs) (startR ps n) where
 rb:=⟨s,fun _ _ h _=>h,fun _ _ h=>.inl h,fun _ h=>h.elim⟩
 len:=by unfold start startR;rw [List.length_append,List.length_append,List.length_map,List.length_map,List.length_replicate,List.length_replicate,r.1,hN];have:=r.1;omega
 sh:=fun i p e=>by
  unfold startR at e
  unfold start
  by_cases hi:i < ps.length
  ·rw [Zax (by simpa using hi),Zag] at e
   rw [Zax (by rw [List.length_map,r.1];exact hi),Zag]
   cases h:ps[i]? with
   | none=>rw [h] at e;cases e
   | some q =>
    rw [h] at e
    cases e
    obtain ⟨x,hx,rx⟩:=r.get h
    exact ⟨x,by rw [hx];rfl,rx⟩
  ·rw [ZaC (by simpa using hi),Za6] at e
   split at e <;> cases e
 ow:=fun i p e=>by
  exfalso
  unfold startR at e
  by_cases hi:i < ps.length
  ·rw [Zax (by simpa using hi),Zag] at e
   cases h:ps[i]? with
   | none=>rw [h] at e;cases e
   | some q=>rw [h] at e;cases e
  ·rw [ZaC (by simpa using hi),Za6] at e
   split at e <;> cases e
 dd:=⟨_,RD.no fun i p e=>by
  unfold startR at e
  by_cases hi:i < ps.length
  ·rw [Zax (by simpa using hi),Zag] at e
   cases h:ps[i]? with
   | none=>rw [h] at e;cases e
   | some q=>rw [h] at e;cases e
  ·rw [ZaC (by simpa using hi),Za6] at e
   split at e <;> cases e⟩
 dis:=fun i j p q a e=>by
  exfalso
  unfold startR at e
  by_cases hi:i < ps.length
  ·rw [Zax (by simpa using hi),Zag] at e
   cases h:ps[i]? with
   | none=>rw [h] at e;cases e
   | some q=>rw [h] at e;cases e
  ·rw [ZaC (by simpa using hi),Za6] at e
   split at e <;> cases e
theorem eV {k n:Nat} (hk:N.length=k+n) (hm:∀ ps r,m ps=some r->ps.length=k∧fin (b (startR ps n))=some r) (h:spM K XR0 m vs H Q E) (hS:∀ (io:Addr->Prop) (H0 F0:Hp),(∀ a,¬io a)->MS K (C0 io H0 F0) t b) :
  t { nx:=fun _ H'=>Q .non H',rt:=Q } (start N vs) H:=by
 obtain ⟨ps,F,r,s,rp,e,P⟩:=h
 obtain ⟨hl,e⟩:=hm ps r e
 have R:=tE (E:=E0) (N:=N) (n:=n) s rp (by rw [rp.1,hl];exact hk)
 have up:∀ {F' H':Hp},bh F F'->RB ⟨fun _=>False,True,H,F,E0⟩ F' H'->Up F H F' H':=fun s' rb=>⟨s',fun c o q=>rb.keep c o q id,rb.new,rb.sub⟩
 have M:=hS (fun _=>False) H F (fun _ h=>h)
 cases ho:b (startR ps n) with
 | none=>rw [ho] at e;cases e
 | some o =>
  rw [ho] at e
  refine M F H _ _ _ o R ho ?_
  cases o with
  | nx ρ=>cases e;exact fun F' H' σ s' R'=>P .non F' H' (up s' R'.rb) .non
  | rt p=>cases e;exact fun v F' H' s' rb rv=>P v F' H' (up s' rb) rv
  | ex z=>exact fun _ _ _ _ _ _ x=>x.elim
  | ro p=>cases e
  | rd p=>cases e
  | bk ρ=>cases e
  | ct ρ=>cases e
theorem tG {k n:Nat} (hk:N.length=k+n) (hm:∀ ps r,m ps=some r->ps.length=k∧qz (b (startR ps n))=some r) (h:spO K XR0 m vs H Q E) (hS:∀ (io:Addr->Prop) (H0 F0:Hp),(∀ a,¬io a)->MS K (C0 io H0 F0) t b) :
  t { nx:=fun _ H'=>Q .non H',rt:=Q } (start N vs) H:=by
 obtain ⟨ps,F,r,s,rp,e,P⟩:=h
 obtain ⟨hl,e⟩:=hm ps r e
 have R:=tE (E:=E0) (N:=N) (n:=n) s rp (by rw [rp.1,hl];exact hk)
 have up:∀ {F' H':Hp},bh F F'->RB ⟨fun _=>False,True,H,F,E0⟩ F' H'->Up F H F' H':=fun s' rb=>⟨s',fun c o q=>rb.keep c o q id,rb.new,rb.sub⟩
 have M:=hS (fun _=>False) H F (fun _ h=>h)
 cases ho:b (startR ps n) with
 | none=>rw [ho] at e;cases e
 | some o =>
  rw [ho] at e
  refine M F H _ _ _ o R ho ?_
  cases o with
  | ro p=>cases e;exact fun a F' H' s' rb w n1 n2=>P a F' H' (up s' rb) n2 n1 w
  | ex z=>exact fun _ _ _ _ _ _ x=>x.elim
  | nx ρ=>cases e
  | rt p=>cases e
  | rd p=>cases e
  | bk ρ=>cases e
  | ct ρ=>cases e
theorem d9 (h:spM K XR m vs H Q E) {k:Nat} (hm:∀ ps r,m ps=some r->ps.length=k):vs.length=k:=by
 obtain ⟨ps,F,r,s,rp,e,P⟩:=h
 rw [rp.1];exact hm ps r e
theorem qm (h:spO K XR m vs H Q E) {k:Nat} (hm:∀ ps r,m ps=some r->ps.length=k):vs.length=k:=by
 obtain ⟨ps,F,r,s,rp,e,P⟩:=h
 rw [rp.1];exact hm ps r e
end
section
variable {X:Cx}{k:Nat}{N:List Str}{scope:Scope}{cl:List (Str×Addr)}{C:Addr}{s2:Shared}{H2:Hp}{fp:List Addr}
theorem qp:IxR (X.comp N scope cl C s2 H2 fp) (rIx X.K):=aM
theorem JM:OpR (X.comp N scope cl C s2 H2 fp) (binaryOp .Add) (Jz X.K):=bw
theorem Mu (hr:eX k X.A):OpR (X.comp N scope cl C s2 H2 fp) (compareOp .In) (Qi X.K):=Dc hr
end
section
variable {K:PySem.W.Frag}{C:Cg}{te:TE}
noncomputable def Bc (xs:List PV) (lo hi st:Option Int):List PV:=(sliceRange (sliceBounds lo hi st xs.length).1 (sliceBounds lo hi st xs.length).2.1 (sliceBounds lo hi st xs.length).2.2).filterMap (xs[·]?)
theorem bR.picks {F:Hp}{xs:List V}{l:List PV} (h:bR K F xs l):∀ js:List Nat,bR K F (js.filterMap (xs[·]?)) (js.filterMap (l[·]?))
 | []=>.nil
 | j::js=>by
  by_cases hj:j < xs.length
  ·have hl:j < l.length:=by rw [←h.1];exact hj
   rw [Zbd (Zac hj),Zbd (Zac hl)]
   exact (bR.picks h js).cons (h.2 j _ _ (Zac hj) (Zac hl))
  ·have hl:¬j < l.length:=by rw [←h.1];exact hj
   rw [Zbc (ZaQ (by omega)),Zbc (ZaQ (by omega))]
   exact bR.picks h js
noncomputable def Mv (f:Fn (List PV)) (lo hi st:Fn (Option Int)):Fn PV:=fun ρ=>bnd (f ρ) fun l=>bnd (lo ρ) fun a=>bnd (hi ρ) fun b=>bnd (st ρ) fun c=>if c=some 0 then none else some (.ok (.lst (Bc l a b c)))
theorem Qp {f:Fn (List PV)}{lo hi st:Fn (Option Int)}{tl th ts:TO} (h:MJ K C (aV K) te f) (hl:MP' K C tl lo) (hh:MP' K C th hi) (hs:MP' K C ts st):MO K C (R9 K te tl th ts) (Mv f lo hi st):=by
 intro F H σ ρ Q r R e P
 refine h.run R e P fun l v F1 H1 hk u a=>?_
 refine hl.run (R.up u) hk (P.m5 u) fun o F2 H2 hk2 u2=>?_
 refine hh.run (R.up (u.trans u2)) hk2 (P.m5 (u.trans u2)) fun o2 F3 H3 hk3 u3=>?_
 refine hs.run (R.up (u.trans (u2.trans u3))) hk3 (P.m5 (u.trans (u2.trans u3))) fun o3 F4 H4 hk4 u4=>?_
 split at hk4
 ·cases hk4
 ·rename_i hz
  cases hk4
  obtain ⟨b,xs,rfl,h1,r1⟩:=a
  have u24:=u2.trans (u3.trans u4)
  refine ⟨b,xs,rfl,u24.hh.seq h1,hz,fun p hp=>?_⟩
  refine P p F4 _ (u.trans (u24.trans (Up.CV u4.fh hp))) ((u.hh.trans u24.hh).free hp) (u4.fh.free hp) ⟨_,aX,?_⟩
  unfold stepV Bc
  rw [r1.1]
  exact (r1.up u24.ff).picks _
end
structure S6 (a:Addr) (F H F' H':Hp):Prop where
 ff:bh F F'
 hb:SameBut a H H'
 fr:∀ b o,F' b=some o->F b=some o∨Frz H b o
 fh:bh F' H'
noncomputable def JN (K:PySem.W.Frag) (F:Hp) (a:Addr) (p:PV) (j:Nat) (xs:List V) (l:List PV):Prop :=
 xs.length=l.length∧xs[j]?=some (.ref a)∧l[j]?=some p∧∀ (k:Nat) x q,k≠j->xs[k]?=some x->l[k]?=some q->Rep K F x q
noncomputable def JP (K:PySem.W.Frag) (j:Nat) (m:List PV->Option (Res PV)):Sp:=fun vs H Q _=>∃ ps F a p p',bh F H∧JN K F a p j vs ps∧Own K F H a p∧F a=none∧m ps=some (.ok p')∧∀ F' H',S6 a F H F' H'->Own K F' H' a p'->F' a=none->Q .non H'
noncomputable def jB (j:Nat) (ps:List PV) (n:Nat):Rho:=(ps.mapIdx fun k p=>some (if k=j then Sl.ow p else Sl.sh p))++List.replicate n none
noncomputable def Be (j:Nat):Option Out->Option (Res PV)
 | some (.nx ρ)=>match ownAt j ρ with
  | some p=>some (.ok p)
  | none=>none
 | _=>none
section
variable {K:PySem.W.Frag}{C:Cg}{N:List Str}{vs:List V}{H F:Hp}{Q:VK}{E:XK}{t:TS}{b:Sn}{m:List PV->Option (Res PV)}{j:Nat}{ps:List PV}{a:Addr}{p:PV}{n:Nat}
theorem j5 {i:Nat}{s:Sl} (e:(jB j ps n)[i]?=some (some s)):∃ q,ps[i]?=some q∧s=if i=j then Sl.ow q else Sl.sh q:=by
 unfold jB at e
 by_cases hi:i < ps.length
 ·rw [Zax (by simpa using hi),Zbf] at e
  cases h:ps[i]? with
  | none=>rw [h] at e;cases e
  | some q=>rw [h] at e;exact ⟨q,rfl,(Zab (Zab e)).symm⟩
 ·rw [ZaC (by simpa using hi),Za6] at e
  split at e <;> cases e
theorem Bf {i:Nat}{x:V} (h:vs[i]?=some x):(start N vs)[i]?=some (some x):=by
 unfold start
 rw [Zax (by rw [List.length_map];exact cP h),Zag,h]
 rfl
theorem Dh (s:bh F H) (r:JN K F a p j vs ps) (w:Own K F H a p) (hn:F a=none) (hN:N.length=vs.length+n):RE K ⟨fun c=>c=a,False,H,F,E⟩ F H (start N vs) (jB j ps n) where
 rb:=⟨s,fun _ _ h _=>h,fun _ _ h=>.inl h,fun b hb=>by
  obtain ⟨o,eo⟩:=w.ne
  subst hb
  have h1:H b≠none:=by rw [eo];simp
  exact ⟨h1,h1⟩⟩
 len:=by unfold start jB;rw [List.length_append,List.length_append,List.length_map,List.length_mapIdx,List.length_replicate,List.length_replicate,r.1,hN];have:=r.1;omega
 sh:=fun i q e=>by
  obtain ⟨q',e1,e2⟩:=j5 e
  by_cases hij:i=j
  ·rw [if_pos hij] at e2;cases e2
  ·rw [if_neg hij] at e2
   cases e2
   have hi:i < vs.length:=by rw [r.1];exact cP e1
   exact ⟨vs[i],Bf (by simp [hi]),r.2.2.2 i _ _ hij (by simp [hi]) e1⟩
 ow:=fun i q e=>by
  obtain ⟨q',e1,e2⟩:=j5 e
  by_cases hij:i=j
  ·rw [if_pos hij] at e2
   cases e2
   subst hij
   rw [r.2.2.1] at e1
   cases e1
   exact ⟨a,Bf r.2.1,w,hn,.inl rfl⟩
  ·rw [if_neg hij] at e2;cases e2
 dis:=fun i k q q' c e e' _ _=>by
  have key:∀ {i:Nat}{q:PV},(jB j ps n)[i]?=some (some (.ow q))->i=j:=fun {i q} e=>by
   obtain ⟨q',e1,e2⟩:=j5 e
   by_cases hij:i=j
   ·exact hij
   ·rw [if_neg hij] at e2;cases e2
  rw [key e,key e']
 dd:=⟨_,RD.no fun i q e=>by
  obtain ⟨q',e1,e2⟩:=j5 e
  by_cases hij:i=j
  ·rw [if_pos hij] at e2;cases e2
  ·rw [if_neg hij] at e2;cases e2⟩
noncomputable abbrev C1 (a:Addr) (H0 F0:Hp):Cg:=⟨⟨fun c=>c=a,False,H0,F0,E0⟩,XR0⟩
theorem JQ {k:Nat} (hk:N.length=k+n) (hm:∀ ps r,m ps=some r->ps.length=k∧Be j (b (jB j ps n))=some r) (h:JP K j m vs H Q E) (hS:∀ (a:Addr) (H0 F0:Hp),MS K (C1 a H0 F0) t b) :
  t { nx:=fun _ H'=>Q .non H',rt:=Q } (start N vs) H:=by
 obtain ⟨ps,F,a,p,p',s,rp,w,hn,e,P⟩:=h
 obtain ⟨hl,e⟩:=hm ps _ e
 have R:=Dh (E:=E0) (N:=N) (n:=n) s rp w hn (by rw [rp.1,hl];exact hk)
 cases ho:b (jB j ps n) with
 | none=>rw [ho] at e;cases e
 | some o =>
  rw [ho] at e
  refine hS a H F F H _ _ _ o R ho ?_
  cases o with
  | nx ρ =>
   intro F' H' σ s' R'
   have e:(match ownAt j ρ with | some p=>some (Res.ok p) | none=>none)=some (.ok p'):=e
   split at e
   ·rename_i q hq
    cases e
    obtain ⟨c,e1,e2,e3,e4⟩:=R'.ow j _ (cM hq)
    have hc:c=a:=e4.elim id fun z=>z.1.elim
    subst hc
    exact P F' H' ⟨s',fun b o q hb=>R'.rb.keep b o q hb,R'.rb.new,R'.rb.sub⟩ e2 e3
   ·cases e
  | _=>cases e
theorem JR (h:JP K j m vs H Q E) {k:Nat} (hm:∀ ps r,m ps=some r->ps.length=k):vs.length=k:=by
 obtain ⟨ps,F,a,p,p',s,rp,w,hn,e,P⟩:=h
 rw [rp.1];exact hm ps _ e
noncomputable def MAH (K:PySem.W.Frag) (C:Cg) (i j:Nat) (t:TA) (f:Fn (List PV)):Prop :=
 ∀ F H σ ρ Q r a p,RE K C.toCf F H σ ρ->ρ[i]?=some (some (.ow p))->σ[i]?=some (some (.ref a))->f ρ=some r->Pr C F (fun l=>∀ xs F' H',Up F H F' H'->JN K F' a p j xs l->Q xs H') r->t σ H Q
noncomputable def vV (i:Nat) (g:Fn (List PV)):Fn (List PV):=fun ρ=>match ownAt i ρ with
 | some p=>bnd (g ρ) fun l=>some (.ok (p::l))
 | none=>none
theorem JS {i:Nat}{t:TA}{g:Fn (List PV)} (h:MA K C t g):MAH K C i 0 (jh (qU i) t) (vV i g):=by
 intro F H σ ρ Q r a p R e ea hf P
 refine ⟨_,ea,?_⟩
 unfold vV at hf
 have eo:ownAt i ρ=some p:=by unfold ownAt;rw [e]
 rw [eo] at hf
 refine h.run R hf P fun l xs F1 H1 hk u b=>?_
 cases hk
 refine P _ F1 H1 u ⟨by simp [b.1],rfl,rfl,fun k x q hk ex eq=>?_⟩
 cases k with
 | zero=>exact absurd rfl hk
 | succ k=>exact b.2 k x q (by simpa using ex) (by simpa using eq)
theorem RE.Ua {F' H':Hp}{σ:St}{ρ:Rho}{p':PV}{i:Nat} (R:RE K C.toCf F H σ ρ) (e:ρ[i]?=some (some (.ow p))) (ea:σ[i]?=some (some (.ref a))) (u:S6 a F H F' H') (w:Own K F' H' a p') (hn:F' a=none):RE K C.toCf F' H' σ (ρ.set i (some (.ow p'))):=by
 obtain ⟨a',e1,e2,e3,e4⟩:=R.ow i p e
 rw [ea] at e1
 cases e1
 obtain ⟨oa,eoa⟩:=e2.ne
 refine ⟨⟨u.fh,fun b o q n=>?_,fun b o q=>?_,fun b hb=>⟨?_,(R.rb.ios b hb).2⟩⟩,by simp [R.len],fun j q f=>?_,fun j q f=>?_,fun j k q q' b f f' g g'=>?_,?_⟩
 ·have:b≠a:=fun z=>by
   subst z
   rcases e4 with z | z
   ·exact n z
   ·rw [z.2] at q;cases q
  exact u.hb b o (R.rb.keep b o q n) this
 ·rcases u.fr b o q with z | z
  ·exact R.rb.new b o z
  ·exact .inr (z.imp (fun z=>R.rb.Fd z) id)
 ·by_cases hba:b=a
  ·subst hba;obtain ⟨o,eo⟩:=w.ne;rw [eo];simp
  ·cases hb':H b with
   | none=>exact absurd hb' (R.rb.ios b hb).1
   | some o=>rw [u.hb b o hb' hba];simp
 ·rcases get_set f with ⟨f1,f2⟩ | ⟨f1,f2⟩
  ·cases f2
  ·obtain ⟨v,g1,g2⟩:=R.sh j q f2
   exact ⟨v,g1,g2.up u.ff⟩
 ·rcases get_set f with ⟨f1,f2⟩ | ⟨f1,f2⟩
  ·subst f1;cases f2;exact ⟨a,ea,w,hn,e4⟩
  ·obtain ⟨b,g1,g2,g3,g4⟩:=R.ow j q f2
   have hb:b≠a:=fun z=>by subst z;exact f1 (R.dis i j p q b e f2 ea g1)
   refine ⟨b,g1,g2.up u.ff fun o qq=>u.hb b o qq hb,?_,g4⟩
   cases hF:F' b with
   | none=>rfl
   | some o =>
    obtain ⟨ob,eob⟩:=g2.ne
    rcases u.fr b o hF with z | z | ⟨ys,z⟩
    ·rw [g3] at z;cases z
    ·rw [eob] at z;cases z
    ·subst z
     have w:=u.fh _ _ hF
     rw [u.hb b _ eob hb] at w;cases w
     exact (g2.Fb eob).elim
 ·have key:∀ (j:Nat) q,(ρ.set i (some (Sl.ow p')))[j]?=some (some (.ow q))->∃ q0,ρ[j]?=some (some (.ow q0)):=fun j q f=>by
   rcases get_set f with ⟨f1,f2⟩ | ⟨f1,f2⟩
   ·subst f1;exact ⟨p,e⟩
   ·exact ⟨q,f2⟩
  obtain ⟨q0,k0⟩:=key j q f
  obtain ⟨q1,k1⟩:=key k q' f'
  exact R.dis j k q0 q1 b k0 k1 g g'
 ·obtain ⟨P,d⟩:=R.dd
  have na:∀ j b,P j b->b≠a:=fun j b z e'=>by subst e';exact d.ow j i p b z e ea
  refine ⟨P,fun j b z=>?_,d.dis,fun j k q b z f g=>?_,fun j q f=>?_⟩
  ·obtain ⟨a1,⟨o',a2,a3⟩,a4⟩:=d.own j b z
   have hb':=u.hb b _ a2 (na j b z)
   refine ⟨?_,⟨o',hb',a3⟩,a4⟩
   cases hF:F' b with
   | none=>rfl
   | some o =>
    rcases u.fr b o hF with w | w | ⟨ys,w⟩
    ·rw [a1] at w;cases w
    ·rw [a2] at w;cases w
    ·subst w
     have w:=u.fh _ _ hF
     rw [hb'] at w;cases w
     exact absurd rfl (a3 ys)
  ·rcases get_set f with ⟨f1,f2⟩ | ⟨f1,f2⟩
   ·subst f1;exact d.ow j i p b z e g
   ·exact d.ow j k q b z f2 g
  ·rcases get_set f with ⟨f1,f2⟩ | ⟨f1,f2⟩
   ·cases f2
   ·obtain ⟨w,e3,e5⟩:=d.dp j q f2
    exact ⟨w,e3,e5.up u.ff (fun b o z q=>u.hb b o q (na j b z)) fun b ys q=>u.hb b _ q fun z=>by subst z;exact e2.Fb q⟩
noncomputable def mIO (i:Nat) (m:List PV->Option (Res PV)) (f:Fn (List PV)):Sn:=fun ρ=>match ownAt i ρ with
 | some _=>lz (f ρ) fun l=>match m l with
  | some (.ok p')=>some (.nx (ρ.set i (some (.ow p'))))
  | _=>none
 | none=>none
theorem S8 {i j:Nat}{t:TA}{f:Fn (List PV)}{m:List PV->Option (Res PV)} (h:MAH K C i j t f):MS K C (Er (qF (JP K j m) [] C.E t)) (mIO i m f):=by
 intro F H σ ρ D o R e P
 unfold mIO at e
 split at e
 case h_2=>cases e
 rename_i p hp
 have hp:=cM hp
 obtain ⟨a,ea,w,hn,h4⟩:=R.ow i p hp
 rcases gk e with ⟨z,e1,rfl⟩ | ⟨l,e1,e2⟩
 ·exact h F H σ ρ _ _ a p R hp ea e1 P
 ·refine h F H σ ρ _ _ a p R hp ea e1 fun xs F1 H1 u rr=>?_
  split at e2
  ·rename_i p' hm
   cases e2
   have R1:=R.up u
   obtain ⟨a',ea',w',hn',_⟩:=R1.ow i p hp
   rw [ea] at ea'
   cases ea'
   refine ⟨l,F1,a,p,p',u.fh,by rw [ZaE];exact rr,w',hn',hm,fun F2 H2 u2 w2 n2=>?_⟩
   exact P F2 H2 σ (u.ff.trans u2.ff) (R1.Ua hp ea u2 w2 n2)
  ·cases e2
end
section
variable {X:Cx}
noncomputable def JT:V->List V->Hp->VK->Prop:=fun x xs H Q=>∃ (z y:Str),x=.str z∧xs=[.str y]∧(y.length == 0)=false∧z.length≤sizeLine∧(Txt.split z y).length≤sizeLine∧∀ p,H p=none->Q (.ref p) (upd H p (.lst ((Txt.split z y).map V.str)))
theorem xX:∀ (tk:Nat) (xs:List Str),Vals (xs.map V.str) (strsFrom tk xs)
 | _,[]=>.nil
 | tk,_::r=>.cons ⟨tk,rfl⟩ (xX (tk+1) r)
theorem jK:MtR X "str.split" JT:=by
 intro pins s σ H x xs v us Q I rx rv h
 obtain ⟨z,y,rfl,rfl,hy,hz,hn,q⟩:=h
 obtain ⟨t,rfl⟩:=rx
 obtain ⟨u,rfl,ru⟩:=rv.one
 obtain ⟨t',rfl⟩:=ru
 have fin:∀ (its:List Value) (tk:Nat),Vals ((Txt.split z y).map V.str) its->EP X pins σ Q (.ref s.heap.objs.size) { s with heap:=s.heap.push { cls:=.type "list",data:=.seq its.toArray },toks:=tk }:=fun its tk r =>
  ⟨.ref s.heap.objs.size,_,I.R0 (t':=tk) r (by rw [List.length_map];exact hn),rfl,q _ I.fresh⟩
 cases h1:(decide (z.length < y.length) || decide (Builtin.Str.strKind z < Builtin.Str.strKind y))
 ·cases hf:(Builtin.Str.occurrences z y 0 z.length (z.length+1)).isEmpty
  ·have e:Txt.split z y=Builtin.Str.partsBetween z (Builtin.Str.occurrences z y 0 z.length (z.length+1)) y.length:=(if_neg (ne_true_of_eq_false h1)).trans (if_neg (ne_true_of_eq_false hf))
   rw [e] at hn fin
   exact call_meets F.slot_str_split (typeIs_str _ _ _) F.entry_str_split (F.args_str_split_2 _ _) (meets_str_split_sep z y t t' h1 hy hf hz hn) (fin _ _ (xX _ _))
  ·have e:Txt.split z y=[z]:=(if_neg (ne_true_of_eq_false h1)).trans (if_pos hf)
   rw [e] at fin
   exact call_meets F.slot_str_split (typeIs_str _ _ _) F.entry_str_split (F.args_str_split_2 _ _) (meets_str_split_not_found z y t t' h1 hy hf) (fin [.str z t] s.toks (.cons ⟨t,rfl⟩ .nil))
 ·have e:Txt.split z y=[z]:=if_pos h1
  rw [e] at fin
  exact call_meets F.slot_str_split (typeIs_str _ _ _) F.entry_str_split (F.args_str_split_2 _ _) (meets_str_split_cannot_occur z y t t' h1) (fin [.str z t] s.toks (.cons ⟨t,rfl⟩ .nil))
end
section
variable {K:PySem.W.Frag}{C:Cg}{ta tb:TE}
noncomputable def zq (z y:PV):Option (Res PV):=match z,y with
 | .str z,.str y=>if (y.length == 0)=false∧z.length≤sizeLine∧(Txt.split z y).length≤sizeLine then some (.ok (.lst ((Txt.split z y).map PV.str))) else none
 | _,_=>none
noncomputable def lA (f g:Fn PV):Fn PV:=fun ρ=>bnd (f ρ) fun a=>match a with
 | .str z=>bnd (g ρ) fun b=>zq (.str z) b
 | _=>none
theorem xY {F:Hp}:∀ (xs:List Str),bR K F (xs.map V.str) (xs.map PV.str)
 | []=>.nil
 | _::r=>(xY r).cons .str
theorem jL {f g:Fn PV} (ha:MJ K C (aF K) ta f) (hb:MJ K C (aF K) tb g):MO K C (tBM K "str" JT ta (jh tb uQ)) (lA f g):=by
 intro F H σ ρ Q r R e P
 refine ha.run R e P fun p v F1 H1 hk u a=>?_
 match p,hk with
 | .str z,hk =>
  cases Rep.bU a
  refine ⟨tyS,hb.run (R.up u) hk (P.m5 u) fun q w F2 H2 hk2 u2 b=>?_⟩
  match q,hk2 with
  | .str y,hk2 =>
   cases Rep.bU b
   have hk2:(if (y.length == 0)=false∧z.length≤sizeLine∧(Txt.split z y).length≤sizeLine then some (Res.ok (PV.lst ((Txt.split z y).map PV.str))) else none)=some r:=hk2
   split at hk2
   ·rename_i h
    cases hk2
    refine ⟨z,y,rfl,rfl,h.1,h.2.1,h.2.2,fun p hp=>?_⟩
    exact P p F2 _ (u.trans (u2.trans (Up.CV u2.fh hp))) ((u.hh.trans u2.hh).free hp) (u2.fh.free hp) ⟨_,aX,xY _⟩
   ·cases hk2
end
section
variable {X:Cx}
end
section
variable {K:PySem.W.Frag}{C:Cg}{ta tb:TE}
end
section
variable {X:Cx}
end
section
variable {X:Cx}{pos:Pos}
end
section
variable {K:PySem.W.Frag}{C:Cg}
end
section
variable {K:PySem.W.Frag}{C:Cg}{ta tb:TE}
end
theorem vW:typeLookup (.type "list") "keys"=pure none:=am_miss_of_fast (by decide +kernel)
theorem uU:typeLookup (.type "tuple") "keys"=pure none:=am_miss_of_fast (by decide +kernel)
theorem gR:entryFor table "dict.update.loop"=some Builtin.«dict.update.loop»:=entryFor_of_tree (by kernel_rfl)
theorem cW:plainId "dict.update.loop"=true:=by decide +kernel
section
variable {prog:Program}{w:World}{A:Around}{E:Value->Shared->Prop}{s:Shared}{a:Addr}{o:Obj}{xs:Array Value}{k:Nat}{name:Str}{Q:Option Value->Shared->Prop}
theorem rm (hx:s.heap.get? a=some o) (hc:o.cls=.type "list") (hdat:o.data=.seq xs k) (hd:o.dict=none) (hmiss:typeLookup (.type "list") name=pure none) (hname:(["__module__","__name__","__qualname__","__doc__","__annotations__"]:List Str).contains name=false) (hA:A.handled=none)
  (h:∀ h' tk,(∀ b ob,s.heap.get? b=some ob->h'.get? b=some ob)->Q none { s with heap:=h',toks:=tk }) (hsz:name.length+100≤sizeLine:=by size_fits) :
  wpAny (model prog w) A (getAttr? (.ref a) name) Q E s:=by
 obtain ⟨c,dct,dat,sl⟩:=o
 simp only at hc hdat hd
 subst hc hdat hd
 obtain ⟨hp,g,d,tk,os⟩:=s
 have hT:∀ tk',(⟨hp,g,d,tk',os⟩:Shared).TypeIs (.ref a) "list":=fun _=>⟨_,hx,rfl⟩
 have f1:=sub_AttributeError
 have f3:=F.slot_list_getattribute.lookup
 have f4:=F.slot_list_getattribute.bind (.ref a)
 have f5:=am_list_getattr_none
 unfold getAttr? getAttrBy? getAttrBy
 repeat (any_goals (first | assumption | exact hT _ | ((with_reducible show wpAny _ _ (call (Value.builtin "list.__getattribute__") _ _) _ _ _);refine call_meets F.slot_list_getattribute (hT _) am_entry_list_getattribute (F.args_list_getattribute_2 _ _) (meets_getattribute_miss_list a xs k sl name _ hmiss hname hsz) ⟨hx,hA,fun h' tk' e hx'=>?_⟩) | wp_step))
 obtain ⟨t',u',he⟩:=hx'.there
 show wpAny _ _ (getattributeRaised _ _ _ _ _ _ _) _ _ _
 unfold getattributeRaised
 repeat (any_goals (first | assumption | wp_step))
 exact h _ _ hx'.keeps
theorem qC (hx:s.heap.get? a=some o) (hc:o.cls=.type "tuple") (hdat:o.data=.seq xs k) (hd:o.dict=none) (hmiss:typeLookup (.type "tuple") name=pure none) (hname:(["__module__","__name__","__qualname__","__doc__","__annotations__"]:List Str).contains name=false) (hA:A.handled=none)
  (h:∀ h' tk,(∀ b ob,s.heap.get? b=some ob->h'.get? b=some ob)->Q none { s with heap:=h',toks:=tk }) (hsz:name.length+100≤sizeLine:=by size_fits) :
  wpAny (model prog w) A (getAttr? (.ref a) name) Q E s:=by
 obtain ⟨c,dct,dat,sl⟩:=o
 simp only at hc hdat hd
 subst hc hdat hd
 obtain ⟨hp,g,d,tk,os⟩:=s
 have hT:∀ tk',(⟨hp,g,d,tk',os⟩:Shared).TypeIs (.ref a) "tuple":=fun _=>⟨_,hx,rfl⟩
 have f1:=sub_AttributeError
 have f3:=F.slot_tuple_getattribute.lookup
 have f4:=F.slot_tuple_getattribute.bind (.ref a)
 have f5:=am_tuple_getattr_none
 unfold getAttr? getAttrBy? getAttrBy
 repeat (any_goals (first | assumption | exact hT _ | ((with_reducible show wpAny _ _ (call (Value.builtin "tuple.__getattribute__") _ _) _ _ _);refine call_meets F.slot_tuple_getattribute (hT _) am_entry_tuple_getattribute (F.args_tuple_getattribute_2 _ _) (meets_getattribute_miss_tuple a xs k sl name _ hmiss hname hsz) ⟨hx,hA,fun h' tk' e hx'=>?_⟩) | wp_step))
 obtain ⟨t',u',he⟩:=hx'.there
 show wpAny _ _ (getattributeRaised _ _ _ _ _ _ _) _ _ _
 unfold getattributeRaised
 repeat (any_goals (first | assumption | wp_step))
 exact h _ _ hx'.keeps
end
section
variable {X:Cx}{pins:List (Addr×Obj)}{σ:St}{H H':Hp}{s:Shared}{d:Addr}{y v:V}{u r:Value}{A:Around}{E:Value->Shared->Prop}
theorem Ho {Q:Unit->Shared->Prop} (hu:A.units < cLine) (I:Inv X pins σ H s) (g:uT H d y v H') (ry:RelV y u) (rv:RelV v r) (h:∀ h' tk,Heap.SameBut d s.heap h'->Inv X pins σ H' { s with heap:=h',toks:=tk }->Q () { s with heap:=h',toks:=tk }) :
  wpAny (model X.prog X.w) A (dictSet d u r) Q E s:=by
 rcases g with ⟨kvs,k,e,ey,l,eH⟩ | ⟨kvs,k,b,e,ey,eb,l,eH⟩
 ·subst ey eH
  obtain ⟨z,hd,vs,rel,dd⟩:=Sd I.hok e
  have hz:vs.length≤sizeLine:=by rw [←rel.length];exact z
  have hl:(putK kvs k v).length≤sizeLine:=by have:=uE kvs k v;omega
  refine wpAny_dictSet_pairs (hsz:=hz) (Oq ry) dd fun h' dd' hs=>h h' _ hs ?_
  have he:∃ q,h'.get? d=some q:=let ⟨q,_,_,hq,_⟩:=dd';⟨q,hq⟩
  exact EY I (by rw [e];exact True.intro) hs he (Qa hl hd (rel.put k rv) dd')
 ·subst ey eH
  cases (show u=Value.ref b from ry)
  obtain ⟨z,hd,xs,rel,dd⟩:=Sh I.hok e
  have hz:xs.length≤sizeLine:=by rw [←Paired.length rel];exact z
  have hl:(putK kvs k v).length≤sizeLine:=by have:=uE kvs k v;omega
  refine wpAny_dictSet_heap (hsz:=hz) (show (tupleKind (fJ X.prog X.w)).room A from hu) (Jl I.hok eb) dd fun h' dd' hs=>h h' _ hs ?_
  obtain ⟨q,es,ep,hq,h2,h3,h4,_,h5⟩:=dd'
  refine EY I (by rw [e];exact True.intro) hs ⟨q,hq⟩ ⟨hl,hd,_,(rel.put k eb rv).keeps fun c ys ec=>?_,q,es,ep,hq,h2,h3,h4,h5⟩
  rw [aO (Jc ec e (fun z=>nomatch z))]
  exact ec
theorem uT.other (g:uT H d y v H') {b:Addr} (hb:b≠d):H' b=H b:=by
 rcases g with ⟨kvs,k,e,ey,l,rfl⟩ | ⟨kvs,k,b',e,ey,eb,l,rfl⟩
 ·exact aO hb
 ·exact aO hb
noncomputable def xZ (d:Addr):List (V×V)->Hp->(Hp->Prop)->Prop
 | [],H,Q=>Q H
 | (y,v)::r,H,Q=>∃ H',uT H d y v H'∧xZ d r H' Q
noncomputable def yR (K:PySem.W.Frag) (H:Hp) (ys:List V) (ps:List (V×V)):Prop:=ys.length=ps.length∧∀ (j:Nat) x p,ys[j]?=some x->ps[j]?=some p->∃ T,x=.ref T∧SqT K H T [p.1,p.2]
theorem SqT.but {K:PySem.W.Frag}{T:Addr}{xs:List V} (h:SqT K H T xs) (hb:∀ b,b≠d->H' b=H b) (hn:T≠d):SqT K H' T xs:=by
 rcases h with (h | ⟨o,h⟩) | h
 ·exact .inl (.inl (by rw [hb T hn];exact h))
 ·exact .inl (.inr ⟨o,by rw [hb T hn];exact h⟩)
 ·exact .inr h
theorem JV {it:Addr}{fp:List Addr}{n:Nat}{P:Nat->Value->Prop}{St:Nat->Heap->Prop}{ps:List (V×V)}{R:Result->Shared->Prop}{H0:Hp} (hc:X.calm=true) (W:Walks X.prog X.w A.in1 it fp [it] n P St) (hu:A.in1.units < cLine)
  (hn:ps.length=n) (hd:d ∉ fp) (hit:∀ H,H d≠none->(∀ b,b≠d->H b=H0 b)->vo X pins H it)
  (hp:∀ (i:Nat) v p,P i v->ps[i]?=some p->∃ T,v=.ref T∧T≠d∧SqT X.K H0 T [p.1,p.2]) :
  ∀ (k i:Nat) (s:Shared) (H:Hp),n - i=k->i≤n->St i s.heap->Inv X pins σ H s->H d≠none->(∀ b,b≠d->H b=H0 b)->∀ tk,xZ d (ps.drop i) H (fun H'=>∀ s',Inv X pins σ H' s'->R (.ok (.ret .none)) s') ->
   codeAny (model X.prog X.w) A (.builtin "dict.update.loop" ⟨[.ref d,.ref it,.int i tk,.none],[]⟩) R s:=by
 intro k
 induction k with
 | zero =>
  intro i s H hk hi hst I hHd hb tk hR
  have hin:i=n:=by omega
  subst hin
  refine codeAny_builtin gR ?_
  rw [Around.under_plainId cW _]
  show wpAny _ A.in1 (pyNext (.ref it) >>= _) _ _ s
  refine wpAny_bind (W.done s _ _ hst fun h' tk' hk'=>?_)
  show wpAny _ _ (Builtin.Dict.addKeywords d [] >>= _) _ _ _
  rw [ZbC (by omega)] at hR
  exact wpAny_bind (wpAny_pure (wpAny_pure (hR _ (I.uY hk' fun b hb'=>by rw [ZaF.mp hb'];exact hit H hHd hb))))
 | succ k ih =>
  intro i s H hk hi hst I hHd hb tk hR
  have hlt:i < n:=by omega
  have hlp:i < ps.length:=by omega
  have hdr:ps.drop i=ps[i]::ps.drop (i+1):=ZaH hlp
  rw [hdr] at hR
  refine codeAny_builtin gR ?_
  rw [Around.under_plainId cW _]
  show wpAny _ A.in1 (pyNext (.ref it) >>= _) _ _ s
  refine wpAny_bind (W.item i s _ _ hlt hst fun v h' tk' hP hst' hk'=>?_)
  obtain ⟨T,rfl,hT,hq⟩:=hp i v ps[i] hP (by simp [hlp])
  have I1:Inv X pins σ H { s with heap:=h',toks:=tk' }:=I.uY hk' fun b hb'=>by rw [ZaF.mp hb'];exact hit H hHd hb
  obtain ⟨its,rv,ht,_⟩:=I1.tuple (SqT.but hq hb hT)
  obtain ⟨u1,u2,rfl,r1,r2⟩:∃ u1 u2,its=[u1,u2]∧RelV ps[i].1 u1∧RelV ps[i].2 u2:=by
   cases rv with
   | cons a t=>cases t with
    | cons b t=>cases t;exact ⟨_,_,rfl,a,b⟩
  obtain ⟨H',g,hR⟩:=hR
  refine wpAny_bind (wpAny_holding (wpAny_bind (wpAny_tryCatch ?_)))
  unfold Builtin.Dict.pairItems
  refine wpAny_bind (wpAny_typeOf ht.typeIs ?_)
  rw [if_pos (by decide)]
  obtain ⟨o,h1,_,m,h2⟩:=ht
  refine wpAny_bind (wpAny_seqItems h1 h2 (wpAny_pure ?_))
  show wpAny _ A.in1 (holding [u1,u2] (dictSet d u1 u2)) _ _ _
  refine wpAny_holding (Ho hu I1 g r1 r2 fun h2' tk2 hs2 I2=>?_)
  refine wpAny_pure ⟨plainId_quiet cW _,?_⟩
  have:=ih (i+1) { s with heap:=h2',toks:=tk2 } H' (by omega) hlt (W.frame _ _ _ hst' fun b hb' o e=>(hs2.2 b fun z=>hd (by rw [←z];exact hb')).trans e) I2
   (by rcases g with ⟨_,_,_,_,_,rfl⟩ | ⟨_,_,_,_,_,_,_,rfl⟩ <;> rw [aX] <;> simp) (fun b hb'=>(uT.other g hb').trans (hb b hb')) 0 hR
  exact this
end
theorem Bg:∀ {xs:List V}{us:List Value}{i:Nat}{u:Value},Vals xs us->us[i]?=some u->∃ x,xs[i]?=some x∧RelV x u
 | [],_,i,u,r,h=>by cases r;simp at h
 | x::xs,_,i,u,r,h=>by
  cases r with
  | cons a t =>
   cases i with
   | zero=>simp at h;subst h;exact ⟨x,rfl,a⟩
   | succ i=>obtain ⟨y,h1,h2⟩:=Bg (i:=i) t (by simpa using h);exact ⟨y,by simpa using h1,h2⟩
noncomputable def Di (K:PySem.W.Frag) (n:HO):List V->Hp->VK->Prop:=fun xs H Q=>∃ p ys ps,xs=[.ref p]∧(SqL K H p ys∨H p=some (.tup ys))∧yR K H ys ps∧∀ d,H d=none->xZ d ps (upd H d n) fun H'=>Q (.ref d) H'
section
variable {X:Cx}
theorem Dj {n:HO} (hc:X.calm=true) (hu:X.A.units+64 < cLine) (hn:n=.dK []∨n=.dT []):jt X (.type "dict") (Di X.K n):=by
 intro pins s σ H xs us Q I rv h
 obtain ⟨p,ys,ps,rfl,hq,hps,q⟩:=h
 obtain ⟨u,rfl,ru⟩:=rv.one
 cases ru
 have hh:X.A.handled=none:=I.ok.hd hc
 refine callType_codes (Q₁:=fun obj s₁=>obj=.ref s.heap.objs.size∧s₁={ s with heap:=s.heap.push { cls:=.type "dict",data:=.dict #[] } }) F.kt_called_dict (F.kt_typeCall_dict_1 _) F.entry_dict_init (kt_code_dict_new _ ⟨rfl,rfl⟩) ?_
 rintro obj s₁ ⟨rfl,rfl⟩
 have ok:dM X.prog X.w (upd H s.heap.objs.size n) (s.heap.push { cls:=.type "dict",data:=.dict #[] }) s.heap.objs.size n:=by
  rcases hn with rfl | rfl
  ·exact Jm s.heap I.big
  ·exact Jo s.heap I.big
 have hfree:H s.heap.objs.size=none:=I.hok.fresh (Zaf _)
 have I1:Inv X pins σ (upd H s.heap.objs.size n) { s with heap:=s.heap.push { cls:=.type "dict",data:=.dict #[] } }:=I.laid (a:=s.heap.objs.size) (o:=n) (t':=s.toks) (fun _ _ q=>Zaa _ q) (Zaf _) ok
 have q:=q _ hfree
 have hd1:(s.heap.push { cls:=.type "dict",data:=.dict #[] }).get? s.heap.objs.size=some { cls:=.type "dict",data:=.dict #[] }:=Zam _ rfl
 have tyD:({ s with heap:=s.heap.push { cls:=.type "dict",data:=.dict #[] } }:Shared).TypeIs (.ref s.heap.objs.size) "dict":=⟨_,hd1,rfl⟩
 refine ⟨tyD,F.args_dict_init_2 _ _,?_⟩
 unfold Builtin.«dict.__init__»
 refine wpAny_bind ?_
 unfold Builtin.Dict.selfAndRest
 refine wpAny_bind (wpAny_notOrdered_dict tyD ?_)
 show wpAny _ _ (pure (s.heap.objs.size,[Value.ref p])) _ _ _
 refine wpAny_pure ?_
 show wpAny _ _ (Builtin.Dict.updateFrom "dict.__init__" s.heap.objs.size (.ref p) [] .none) _ _ _
 unfold Builtin.Dict.updateFrom
 have same:bh H (upd H s.heap.objs.size n):=fC hfree
 have hnd:∀ (j:Nat) x pr,ys[j]?=some x->ps[j]?=some pr->∃ T,x=.ref T∧T≠s.heap.objs.size∧SqT X.K (upd H s.heap.objs.size n) T [pr.1,pr.2]:=fun j x pr e1 e2=>by
  obtain ⟨T,rfl,hT⟩:=hps.2 j x pr e1 e2
  obtain ⟨its,_,ht,_⟩:=I.tuple hT
  exact ⟨T,rfl,Zay ht.lt,same.tup hT⟩
 have fin:∀ (h2:Heap) (tk:Nat) (o:Obj) (St:Nat->Heap->Prop) (its:List Value),(∀ b ob,(s.heap.push { cls:=.type "dict",data:=.dict #[] }).get? b=some ob->h2.get? b=some ob)->Vals ys its ->
   Walks X.prog X.w X.A.in1.in1 h2.objs.size [h2.objs.size,p] [h2.objs.size] its.toArray.size (fun i v=>its.toArray[i]?=some v) St->St 0 (h2.push o)->p≠s.heap.objs.size->(∀ b,o.cls≠.ref b) ->
   codeAny (model X.prog X.w) X.A.in1 (.builtin "dict.update.loop" ⟨[.ref s.heap.objs.size,.ref h2.objs.size,.int (0:Nat) 0,.none],[]⟩) (wants (fun r s₂=>r=.none∧EP X pins σ Q (.ref s.heap.objs.size) s₂) X.xe) { s with heap:=h2.push o,toks:=tk }:=by
  intro h2 tk o St its hk rv W h0 hp _
  have I2:Inv X pins σ (upd H s.heap.objs.size n) { s with heap:=h2,toks:=tk }:=I1.kept hk
  have I3:Inv X pins σ (upd H s.heap.objs.size n) { s with heap:=h2.push o,toks:=tk }:=I2.kept (t':=tk) fun b ob e=>Zaa _ e
  have lt1:s.heap.objs.size < h2.objs.size:=Zaj (hk _ _ hd1)
  have hn2:upd H s.heap.objs.size n h2.objs.size=none:=I2.hok.fresh (Zaf _)
  refine JV (A:=X.A.in1) (ps:=ps) (H0:=upd H s.heap.objs.size n) hc W (show X.A.units+2 < cLine by omega) ?_ ?_ (fun Hx hx1 hx2=>?_) (fun i v pr hv hpr=>?_) _ 0 _ _ rfl (Za9 _) h0 I3 (by rw [aX];simp) (fun _ _=>rfl) 0 ?_
  ·rw [List.size_toArray,←rv.length];exact hps.1.symm
  ·intro z
   rcases Zao.mp z with z | z
   ·exact absurd z (Zay lt1)
   ·exact absurd (ZaF.mp z).symm hp
  ·exact I2.Ab (Zaf _) (by rw [hx2 _ (Nat.ne_of_gt lt1)];exact hn2)
  ·rw [List.getElem?_toArray] at hv
   obtain ⟨y,hy,ry⟩:=Bg rv hv
   obtain ⟨T,rfl,h1,h2⟩:=hnd i y pr hy hpr
   cases ry
   exact ⟨T,rfl,h1,h2⟩
  ·rw [Za3]
   have mono:∀ (ps:List (V×V)) (Hx:Hp) (P1 P2:Hp->Prop),(∀ H,P1 H->P2 H)->xZ s.heap.objs.size ps Hx P1->xZ s.heap.objs.size ps Hx P2:=by
    intro ps
    induction ps with
    | nil=>exact fun Hx P1 P2 hP h=>hP _ h
    | cons a r ih=>exact fun Hx P1 P2 hP ⟨H',g,h⟩=>⟨H',g,ih _ _ _ hP h⟩
   exact mono _ _ _ _ (fun Hx hQ s' Is=>⟨rfl,.ref _,Hx,Is,rfl,hQ⟩) q
 rcases hq with hq | hq
 ·obtain ⟨its,rv,pl,hz⟩:=I1.list (same.seq hq)
  have hp:p≠s.heap.objs.size:=fun z=>by
   obtain ⟨o,m,e,c,_⟩:=pl
   rw [z,hd1] at e;cases e;exact absurd (show Value.type "dict"=Value.type "list" from c) (by decide)
  obtain ⟨o,m,e,c,dn,dt⟩:=id pl
  refine wpAny_bind (wpAny_typeOf (show Shared.TypeIs _ (.ref p) "list" from ⟨_,e,c⟩) ?_)
  rw [if_pos (by decide)]
  refine wpAny_bind (rm e c dt dn vW (by decide +kernel) hh fun h2 tk hk=>?_)
  rw [if_pos (show (none:Option Value).isNone=true from rfl)]
  refine wpAny_bind (wpAny_rule (wpAny_bind (wpAny_pyIter_list ((pl.keeps hk).isList) ?_)))
  refine wpAny_pure ⟨plainId_quiet cW _,fin h2 tk _ _ its hk rv (Walks.list (A:=X.A.in1.in1) hh _ p (Zay (pl.keeps hk).lt) its.toArray) ⟨⟨_,Zam _ rfl,rfl,rfl⟩,(pl.keeps fun b ob eb=>Zaa _ (hk b ob eb)).isList⟩ hp (fun b z=>nomatch z)⟩
 ·obtain ⟨_,its,rv,tn⟩:=(show dM X.prog X.w _ _ p (.tup ys) from I1.hok p _ (same _ _ hq))
  have hp:p≠s.heap.objs.size:=fun z=>by
   obtain ⟨⟨o,e,c,_⟩,_⟩:=tn
   rw [z,hd1] at e;cases e;exact absurd (show Value.type "dict"=Value.type "tuple" from c) (by decide)
  obtain ⟨⟨o,e,c,m,dt⟩,dn⟩:=id tn
  refine wpAny_bind (wpAny_typeOf (show Shared.TypeIs _ (.ref p) "tuple" from ⟨_,e,c⟩) ?_)
  rw [if_pos (by decide)]
  refine wpAny_bind (qC e c dt (dn o e) uU (by decide +kernel) hh fun h2 tk hk=>?_)
  rw [if_pos (show (none:Option Value).isNone=true from rfl)]
  have tp:({ s with heap:=h2,toks:=tk }:Shared).heap.IsTuple p its.toArray:=⟨o,hk _ _ e,c,m,dt⟩
  refine wpAny_bind (wpAny_rule (wpAny_bind (wpAny_pyIter_tuple tp ?_)))
  refine wpAny_pure ⟨plainId_quiet cW _,fin h2 tk _ _ its hk rv (Walks.tuple (A:=X.A.in1.in1) hh _ p (Zay (Zaj (hk _ _ e))) its.toArray) ⟨⟨_,Zam _ rfl,rfl,rfl⟩,⟨o,Zaa _ (hk _ _ e),c,m,dt⟩⟩ hp (fun b z=>nomatch z)⟩
end
section
variable {κ:Type} [DecidableEq κ]
noncomputable def xj:List (κ×PV)->κ->Option PV
 | [],_=>none
 | (a,p)::l,k=>if a=k then some p else xj l k
noncomputable def rA:List (κ×PV)->κ->PV->List (κ×PV)
 | [],k,p=>[(k,p)]
 | (a,q)::l,k,p=>if a=k then (a,p)::(if (l.any fun e=>decide (e.1=k))=true then rA l k p else l) else (a,q)::rA l k p
inductive gh (K:PySem.W.Frag) (F:Hp):List (κ×V)->List (κ×PV)->Prop
 | nil:gh K F [] []
 | cons {k:κ}{v:V}{p:PV}{xs:List (κ×V)}{l:List (κ×PV)} (h:Rep K F v p) (t:gh K F xs l):gh K F ((k,v)::xs) ((k,p)::l)
variable {K:PySem.W.Frag}{F F':Hp}{xs:List (κ×V)}{l:List (κ×PV)}{k:κ}
theorem gh.of:∀ {xs:List (κ×V)}{l:List (κ×PV)},xs.map (·.1)=l.map (·.1)->(∀ (j:Nat) x p,xs[j]?=some x->l[j]?=some p->Rep K F x.2 p.2)->gh K F xs l
 | [],[],_,_=>.nil
 | [],_::_,h,_=>by simp at h
 | _::_,[],h,_=>by simp at h
 | (a,v)::xs,(b,p)::l,h,hr=>by
  simp only [Zah,ZbI] at h
  obtain ⟨h1,h2⟩:=h
  have h1:a=b:=h1
  subst h1
  exact .cons (hr 0 _ _ rfl rfl) (gh.of h2 fun j x p e1 e2=>hr (j+1) x p (by simpa using e1) (by simpa using e2))
theorem gh.keys (h:gh K F xs l):xs.map (·.1)=l.map (·.1):=by
 induction h with
 | nil=>rfl
 | cons h t ih=>simp [ih]
theorem gh.len (h:gh K F xs l):xs.length=l.length:=by
 have:=congrArg List.length h.keys
 simpa using this
theorem gh.at (h:gh K F xs l):∀ (j:Nat) x p,xs[j]?=some x->l[j]?=some p->Rep K F x.2 p.2:=by
 induction h with
 | nil=>intro j x p e;simp at e
 | cons h t ih =>
  intro j x p e1 e2
  cases j with
  | zero=>simp at e1 e2;subst e1 e2;exact h
  | succ j=>exact ih j x p (by simpa using e1) (by simpa using e2)
theorem gh.none (h:gh K F xs l) (e:xj l k=none):sI xs k=none:=by
 induction h with
 | nil=>rfl
 | @cons a v p xs l h t ih =>
  unfold xj at e
  split at e
  ·cases e
  ·rename_i hk
   rw [pC hk];exact ih e
theorem gh.some {p:PV} (h:gh K F xs l) (e:xj l k=some p):∃ v,sI xs k=some v∧Rep K F v p:=by
 induction h with
 | nil=>cases e
 | @cons a v q xs l h t ih =>
  unfold xj at e
  split at e
  ·rename_i hk
   cases e
   exact ⟨v,sJ hk,h⟩
  ·rename_i hk
   obtain ⟨w,h1,h2⟩:=ih e
   exact ⟨w,by rw [pC hk];exact h1,h2⟩
theorem gh.any (h:gh K F xs l):(xs.any fun e=>decide (e.1=k))=l.any fun e=>decide (e.1=k):=by
 induction h with
 | nil=>rfl
 | cons h t ih=>simp only [ZbJ,ih]
theorem gh.repl {v:V}{p:PV} (h:gh K F xs l) (r:Rep K F v p):(l.any fun e=>decide (e.1=k))=true->gh K F (xs.map fun kv=>if kv.1=k then (kv.1,v) else kv) (rA l k p):=by
 induction h with
 | nil=>intro z;cases z
 | @cons a w q xs l h t ih =>
  intro z
  unfold rA
  rw [Zah]
  by_cases hk:a=k
  ·rw [if_pos hk,if_pos hk]
   refine .cons r ?_
   by_cases hl:(l.any fun e=>decide (e.1=k))=true
   ·rw [if_pos hl];exact ih hl
   ·rw [if_neg hl]
    have hx:∀ e∈xs,¬e.1=k:=fun e he z=>hl (by rw [←t.any];exact List.any_eq_true.mpr ⟨e,he,by simpa using z⟩)
    rw [show xs.map (fun kv=>if kv.1=k then (kv.1,v) else kv)=xs from by
     conv=>rhs;rw [←List.map_id xs]
     exact List.map_congr_left fun e he=>by rw [if_neg (hx e he)];rfl]
    exact t
  ·rw [if_neg hk,if_neg hk]
   refine .cons h (ih ?_)
   rw [ZbJ] at z
   simpa [hk] using z
theorem gh.snoc {v:V}{p:PV} (h:gh K F xs l) (r:Rep K F v p):(l.any fun e=>decide (e.1=k))=false->gh K F (xs++[(k,v)]) (rA l k p):=by
 induction h with
 | nil=>intro _;exact .cons r .nil
 | @cons a w q xs l h t ih =>
  intro z
  rw [ZbJ,Bool.or_eq_false_iff] at z
  have hk:¬a=k:=by simpa using z.1
  unfold rA
  rw [if_neg hk]
  exact .cons h (ih z.2)
theorem gh.put {v:V}{p:PV} (h:gh K F xs l) (r:Rep K F v p):gh K F (putK xs k v) (rA l k p):=by
 unfold putK
 by_cases z:(xs.any fun e=>decide (e.1=k))=true
 ·rw [if_pos z];exact h.repl r (by rw [←h.any];exact z)
 ·rw [if_neg z];exact h.snoc r (by rw [←h.any];exact Bool.not_eq_true _ ▸ z)
end
noncomputable def Bh:PV->Option Key
 | .int i=>some (.inl i)
 | .str x=>some (.inr x)
 | _=>none
noncomputable def rB:List PV->Option (List Key)
 | []=>some []
 | p::l=>match Bh p,rB l with
  | some k,some ks=>some (k::ks)
  | _,_=>none
theorem Bj {K:PySem.W.Frag}{F:Hp}{p:PV}{k:Key}{v:V} (h:Bh p=some k) (r:Rep K F v p):v=kV k:=by
 cases p with
 | int i=>cases h;cases Rep.bK r;rfl
 | str x=>cases h;cases Rep.bU r;rfl
 | _=>cases h
theorem yc {K:PySem.W.Frag}{F:Hp}:∀ {l:List PV}{ks:List Key}{xs:List V},rB l=some ks->bR K F xs l->xs=ks.map kV
 | [],ks,xs,h,r=>by cases h;exact r.gP
 | p::l,ks,xs,h,r=>by
  unfold rB at h
  split at h
  ·rename_i k ks' h1 h2
   cases h
   obtain ⟨v,ys,rfl,r1,r2⟩:=r.dO
   rw [Bj h1 r1,yc h2 r2]
   rfl
  ·cases h
noncomputable def PV.isD:PV->Bool
 | .dk _=>true
 | .dt _=>true
 | _=>false
noncomputable def DLk (K:PySem.W.Frag) (F H:Hp) (a:Addr):PV->Prop
 | .dk l=>∃ xs,Rd H a (.dK xs)∧xs.map (·.1)=l.map (·.1)∧∀ (j:Nat) x p,xs[j]?=some x->l[j]?=some p->Rep K F x.2 p.2
 | .dt l=>∃ xs,Rd H a (.dT xs)∧xs.map (·.1)=l.map (·.1)∧∀ (j:Nat) x p,xs[j]?=some x->l[j]?=some p->Rep K F x.2 p.2
 | _=>False
theorem DLk.up {K:PySem.W.Frag}{F H F' H':Hp}{a:Addr}{p:PV} (o:DLk K F H a p) (sf:bh F F') (sh:bh H H'):DLk K F' H' a p:=by
 cases p with
 | dk l=>obtain ⟨xs,e,r,q⟩:=o;exact ⟨xs,e.same sh,r,fun j x p a b=>(q j x p a b).up sf⟩
 | dt l=>obtain ⟨xs,e,r,q⟩:=o;exact ⟨xs,e.same sh,r,fun j x p a b=>(q j x p a b).up sf⟩
 | _=>exact o.elim
theorem Own.look {K:PySem.W.Frag}{F H:Hp}{a:Addr}{p:PV} (o:Own K F H a p) (d:p.isD=true):DLk K F H a p:=by
 cases p with
 | dk l=>obtain ⟨xs,e,r⟩:=o;exact ⟨xs,.inl e,r⟩
 | dt l=>obtain ⟨xs,e,r⟩:=o;exact ⟨xs,.inl e,r⟩
 | _=>cases d
noncomputable def aD (K:PySem.W.Frag):Rel PV:=fun F H v p=>p.isD=true∧∃ a,v=.ref a∧DLk K F H a p
theorem aD.up {K:PySem.W.Frag}:UpM (aD K):=fun _ _ _ _ _ _ u ⟨h1,b,e,o⟩=>⟨h1,b,e,o.up u.ff u.hh⟩
noncomputable def asD (p:PV):Option (Res PV):=if p.isD=true then some (.ok p) else none
theorem Rep.own {K:PySem.W.Frag}{F H:Hp}{v:V}{p:PV} (r:Rep K F v p) (s:bh F H) (d:p.isD=true):∃ a,v=.ref a∧DLk K F H a p:=by
 cases r with
 | dk h hl hr=>exact ⟨_,rfl,_,h.same s,hl,hr⟩
 | dt h hl hr=>exact ⟨_,rfl,_,h.same s,hl,hr⟩
 | _=>cases d
section
variable {K:PySem.W.Frag}{C:Cg}{ta tb tc te:TE}{f g h:Fn PV}
noncomputable def tH (i:Nat):Fn PV:=fun ρ=>bnd (mVL i ρ) asD
theorem Hq (i:Nat):MJ K C (aD K) (qU i) (tH i):=by
 intro F H σ ρ Q r R e P
 unfold tH at e
 rcases fL e with ⟨z,e1,rfl⟩ | ⟨p,e1,hk⟩
 ·unfold mVL at e1
  split at e1 <;> cases e1
 ·unfold asD at hk
  split at hk
  case isFalse=>cases hk
  rename_i hd
  cases hk
  unfold mVL at e1
  split at e1
  ·rename_i q hq
   cases e1
   obtain ⟨v,e2,e3⟩:=R.sh i _ hq
   exact ⟨v,e2,P v F H (Up.refl R.rb.sub) ⟨hd,Rep.own e3 R.rb.sub hd⟩⟩
  ·rename_i q hq
   cases e1
   obtain ⟨a,e2,e3,_⟩:=R.ow i _ hq
   exact ⟨_,e2,P _ F H (Up.refl R.rb.sub) ⟨hd,a,rfl,e3.look hd⟩⟩
  ·cases e1
noncomputable def JW:PV->PV->Option (Option PV)
 | .dk l,k=>(Bh k).map (xj l)
 | .dt l,.tup ks=>(rB ks).map (xj l)
 | _,_=>none
theorem DLk.isD {F H:Hp}{a:Addr}{p:PV} (o:DLk K F H a p) (d:p.isD=true):IsD H a:=by
 cases p with
 | dk l=>obtain ⟨xs,e,_⟩:=o;exact .inl ⟨xs,e⟩
 | dt l=>obtain ⟨xs,e,_⟩:=o;exact .inr ⟨xs,e⟩
 | _=>cases d
noncomputable def Qq:PV->PV->PV->Option PV
 | .dk l,k,p=>match Bh k with
  | some k=>if l.length < sizeLine then some (.dk (rA l k p)) else none
  | none=>none
 | .dt l,.tup ks,p=>match rB ks with
  | some k=>if l.length < sizeLine then some (.dt (rA l k p)) else none
  | none=>none
 | _,_,_=>none
theorem Mw {F H:Hp}{a:Addr}{d k p d':PV}{y v:V} (s:bh F H) (o:Own K F H a d) (ry:Rep K F y k) (rv:Rep K F v p) (e:Qq d k p=some d') :
  ∃ ob,uT H a y v (upd H a ob)∧Own K F (upd H a ob) a d':=by
 have inv:(∃ l,d=.dk l)∨∃ l ks,d=.dt l∧k=.tup ks:=by
  clear o ry rv
  cases d <;> first | exact noS e | exact .inl ⟨_,rfl⟩ | (cases k <;> first | exact noS e | exact .inr ⟨_,_,rfl,rfl⟩)
 rcases inv with ⟨l,rfl⟩ | ⟨l,ks,rfl,rfl⟩
 ·obtain ⟨xs,h1,h2,h3⟩:=o
  have D:=gh.of (K:=K) (F:=F) h2 h3
  have e:(match Bh k with | some k=>if l.length < sizeLine then some (PV.dk (rA l k p)) else none | none=>none)=some d':=e
  split at e
  case h_2=>cases e
  rename_i k' hk
  split at e
  case isFalse=>cases e
  rename_i hz
  cases e
  cases Bj hk ry
  have D':=D.put (k:=k') rv
  exact ⟨_,uT.k h1 (by rw [D.len];exact hz),_,aX,D'.keys,D'.at⟩
 ·obtain ⟨xs,h1,h2,h3⟩:=o
  have D:=gh.of (K:=K) (F:=F) h2 h3
  have e:(match rB ks with | some k=>if l.length < sizeLine then some (PV.dt (rA l k p)) else none | none=>none)=some d':=e
  split at e
  case h_2=>cases e
  rename_i k' hk
  split at e
  case isFalse=>cases e
  rename_i hz
  cases e
  obtain ⟨b,ys,rfl,hb,rr⟩:=Rep.Jq ry
  cases yc hk rr
  have D':=D.put (k:=k') rv
  exact ⟨_,uT.t h1 (s _ _ hb) (by rw [D.len];exact hz),_,aX,D'.keys,D'.at⟩
noncomputable def asPair:PV->Option (PV×PV)
 | .tup [a,b]=>some (a,b)
 | _=>none
noncomputable def nu:List PV->Option (List (PV×PV))
 | []=>some []
 | p::l=>match asPair p,nu l with
  | some a,some r=>some (a::r)
  | _,_=>none
noncomputable def jC (d:PV):List (PV×PV)->Option PV
 | []=>some d
 | (k,p)::r=>match Qq d k p with
  | some d'=>jC d' r
  | none=>none
theorem vX {F H:Hp} (s:bh F H):∀ {l:List PV}{ps:List (PV×PV)}{xs:List V},nu l=some ps->bR K F xs l ->
  ∃ vs:List (V×V),yR K H xs vs∧vs.length=ps.length∧∀ (j:Nat) x p,vs[j]?=some x->ps[j]?=some p->Rep K F x.1 p.1∧Rep K F x.2 p.2
 | [],ps,xs,h,r=>by
  cases h
  cases r.gP
  exact ⟨[],⟨rfl,fun j x p e=>by simp at e⟩,rfl,fun j x p e=>by simp at e⟩
 | p::l,ps,xs,h,r=>by
  unfold nu at h
  split at h
  ·rename_i a r' h1 h2
   cases h
   obtain ⟨v,ys,rfl,r1,r2⟩:=r.dO
   obtain ⟨vs,g1,g2,g3⟩:=vX s h2 r2
   unfold asPair at h1
   split at h1
   ·rename_i pa pb
    cases h1
    obtain ⟨b,zs,rfl,hb,rr⟩:=Rep.dz r1
    obtain ⟨v1,zs1,rfl,q1,rr⟩:=rr.dO
    obtain ⟨v2,zs2,rfl,q2,rr⟩:=rr.dO
    cases rr.gP
    refine ⟨(v1,v2)::vs,⟨by simp [g1.1],fun j x p e1 e2=>?_⟩,by simp [g2],fun j x p e1 e2=>?_⟩
    ·cases j with
     | zero=>simp at e1 e2;subst e1 e2;exact ⟨b,rfl,s.tup hb⟩
     | succ j=>exact g1.2 j x p (by simpa using e1) (by simpa using e2)
    ·cases j with
     | zero=>simp at e1 e2;subst e1 e2;exact ⟨q1,q2⟩
     | succ j=>exact g3 j x p (by simpa using e1) (by simpa using e2)
   ·cases h1
  ·cases h
theorem vY {F:Hp}{a:Addr}{Q:Hp->Prop}:∀ {ps:List (PV×PV)}{vs:List (V×V)}{H:Hp}{d d':PV},bh F H->F a=none->Own K F H a d->vs.length=ps.length->(∀ (j:Nat) x p,vs[j]?=some x->ps[j]?=some p->Rep K F x.1 p.1∧Rep K F x.2 p.2) ->
  jC d ps=some d'->(∀ H',bh F H'->(∀ b,b≠a->H' b=H b)->Own K F H' a d'->Q H')->xZ a vs H Q
 | [],vs,H,d,d',s,hn,o,hl,hr,e,q=>by
  cases vs with
  | nil=>cases e;exact q H s (fun _ _=>rfl) o
  | cons v vs=>simp at hl
 | (k,p)::ps,vs,H,d,d',s,hn,o,hl,hr,e,q=>by
  cases vs with
  | nil=>simp at hl
  | cons v vs =>
   unfold jC at e
   split at e
   case h_2=>cases e
   rename_i d1 h1
   obtain ⟨r1,r2⟩:=hr 0 v (k,p) rfl rfl
   obtain ⟨ob,g,o1⟩:=Mw s o r1 r2 h1
   refine ⟨_,g,vY (H:=upd H a ob) (fun b u z=>by rw [aO (b8 z hn)];exact s b u z) hn o1 (by simpa using hl) (fun j x p e1 e2=>hr (j+1) x p (by simpa using e1) (by simpa using e2)) e fun H' s' hb o'=>?_⟩
   exact q H' s' (fun b hb'=>(hb b hb').trans (aO hb')) o'
noncomputable def tK (d:PV) (l:List PV):Option (Res PV):=match nu l with
 | some ps=>(jC d ps).map .ok
 | none=>none
theorem Mx {n:HO}{d:PV} (hd:∀ F H a,H a=some n->Own K F H a d):R1O K C (aV K) (Di K n) (tK d):=by
 intro F H x l res Q s ha e P
 obtain ⟨b,xs,rfl,h1,r1⟩:=ha
 unfold tK at e
 split at e
 case h_2=>cases e
 rename_i ps hps
 cases hd':jC d ps with
 | none=>rw [hd'] at e;cases e
 | some d' =>
  rw [hd'] at e
  cases e
  obtain ⟨vs,g1,g2,g3⟩:=vX (H:=H) s hps r1
  refine ⟨b,xs,vs,rfl,.inl h1,g1,fun a na=>?_⟩
  refine vY (F:=F) (s.trans (fC na)) (s.free na) (hd _ _ _ aX) g2 g3 hd' fun H' s' hb o'=>?_
  exact P a F H' ⟨bh.refl _,fun c o q=>by rw [hb c (b8 q na),aO (b8 q na)];exact q,fun _ _ q=>.inl q,s'⟩ na (s.free na) o'
theorem My {F H:Hp}{a:Addr} (h:H a=some (.dK [])):Own K F H a (.dk []):=⟨[],h,rfl,fun j x p e=>by simp at e⟩
end
section
variable {K:PySem.W.Frag}{C:Cg}{ta tb te:TE}{f g:Fn PV}
noncomputable def Dk:PV->Option (Res PV)
 | .dk l=>some (.ok (.int l.length))
 | _=>none
theorem Qs:R1M C (aD K) (aF K) (fun xs H Q=>∃ p kvs,xs=[.ref p]∧Rd H p (.dK kvs)∧Q (.int kvs.length) H) Dk:=by
 intro F H x a res Q s ha e P
 match a,e with
 | .dk l,e =>
  cases e
  obtain ⟨_,ad,rfl,xs,h1,h2,h3⟩:=ha
  have D:=gh.of (K:=K) (F:=F) h2 h3
  rw [←D.len] at P
  exact ⟨ad,xs,rfl,h1,P _ F H (Up.refl s) .int⟩
end
section
variable {X:Cx}
theorem Hr:jt X (.builtin "len") (fun xs H Q=>∃ p kvs,xs=[.ref p]∧Rd H p (.dK kvs)∧Q (.int kvs.length) H):=by
 intro pins s σ H xs us Q I rv h
 obtain ⟨p,kvs,rfl,e,q⟩:=h
 obtain ⟨u,rfl,ru⟩:=rv.one
 cases ru
 exact Sq I e fun t s' I'=>⟨.int kvs.length,H,I',⟨t,rfl⟩,q⟩
theorem Dl {k:Nat} (hr:eX k X.A) (hc:X.calm=true):jt X (.type "dict") (Di X.K (.dK [])):=Dj hc hr.units (.inl rfl)
end
section
variable {X:Cx}{k:Nat}{N:List Str}{scope:Scope}{cl:List (Str×Addr)}{C:Addr}{s2:Shared}{H2:Hp}{fp:List Addr}
end
noncomputable def rgf (a c:Int) (i:Nat):V:=.int (a+(i:Int) * c)
theorem Bk {P:Program}{w:World}{K:PySem.W.Frag}{tg:Expr} (it:Addr) (a c:Int) (n:Nat):Turn P w K tg (Itf (rgf a c) n) [it] it (fun i h=>IsRangeIter h it (a+(i:Nat) * c) ((n:Int) - (i:Nat)) c) where
 mem:=by simp
 obj:=fun i h st b hb=>by
  have e:b=it:=by simpa using hb
  subst e
  exact ⟨_,st,fun v z=>by
   have z':Data.fields _=Data.cell v:=z
   cases z'⟩
 keep:=fun i h h' st k=>k it (by simp) _ st
 item:=by
  intro X hP hw hK hc i pins s σ H E I hf st hg
  subst hP hw hK
  obtain ⟨f0,f1,f2,f3,f4,f5⟩:=hf it (by simp)
  have W:=Walks.range (prog:=X.prog) (w:=X.w) (I.ok.hd hc) it a c n
  refine W.item i s _ _ hg st fun v h' tk hv st' kk=>?_
  obtain ⟨t,rfl⟩:=hv
  have I1:Inv X pins σ H { s with heap:=h',toks:=tk }:=I.turned (fun b o hb e=>kk b o (by simpa using hb) e) f0 f1 f3 f4 f5
  exact ⟨_,rfl,Ac (s:={ s with heap:=h',toks:=tk }) (n:="range_iterator") st' rfl rfl (by decide) ⟨rgf a c i,H,I1,⟨t,rfl⟩,⟨rfl,rfl⟩,st',fun b hb=>(hf b hb).1⟩⟩
 done:=by
  intro X hP hw hK hc i pins s σ H E I hf st hg
  subst hP hw hK
  have hg':i=n:=hg
  obtain ⟨f0,f1,f2,f3,f4,f5⟩:=hf it (by simp)
  exact wpAny_pyNext_range_end (I.ok.hd hc) st (by omega) fun h' eb=>⟨rfl,I.turned (t':=s.toks) (fun b o hb e=>eb b o hb e) f0 f1 f3 f4 f5⟩
 self:=fun _ _ _ _ _ st h=>wpAny_pyIter_rangeiter st h
section
variable {X:Cx}{tg:Expr}
noncomputable def rgn (a b c:Int):Nat:=if a < b then ((b - a - 1) / c+1).toNat else 0
noncomputable def CR (a b c:Int):Prop:=0≤a∧a < 2 ^ 30∧-(2 ^ 30)≤b∧b < 2 ^ 30∧0 < c∧c < 2 ^ 30
noncomputable instance (a b c:Int):Decidable (CR a b c):=inferInstanceAs (Decidable (_∧_))
theorem Bl {a b c:Int} (h:CR a b c):Builtin.Range.rangeSize a b c=(rgn a b c:Int):=by
 obtain ⟨h1,h2,h3,h4,h5,h6⟩:=h
 unfold rgn Builtin.Range.rangeSize
 rw [if_pos (by omega)]
 split
 ·have:0≤(b - a - 1) / c:=Int.ediv_nonneg (by omega) (by omega)
  omega
 ·rfl
theorem Qt {a b c:Int} (h:CR a b c):(rgn a b c:Int)≤2 ^ 31:=by
 obtain ⟨h1,h2,h3,h4,h5,h6⟩:=h
 unfold rgn
 split
 ·have h7:(b - a - 1) / c≤b - a - 1:=Int.ediv_le_self c (by omega)
  omega
 ·decide
theorem JX {a b c:Int} (h:CR a b c):Builtin.Range.small a b c=true:=by
 have hs:=Bl h
 have hl:=Qt h
 obtain ⟨h1,h2,h3,h4,h5,h6⟩:=h
 unfold Builtin.Range.small Builtin.Range.rangeFitsLong
 rw [hs,if_pos (show c > 0 by omega)]
 have e1:(2:Int) ^ 63=9223372036854775808:=by decide
 have e2:(2:Int) ^ 30=1073741824:=by decide
 have e3:(2:Int) ^ 31=2147483648:=by decide
 rw [e2] at *
 rw [e3] at hl
 simp only [Zbl,decide_eq_true_eq,Bool.or_eq_true]
 rw [e1]
 refine ⟨⟨⟨⟨?_,?_⟩,?_⟩,?_⟩,.inr ?_⟩ <;> omega
noncomputable def Oz (ta:TA):TI:=fun σ H R=>ta σ H fun vs H1=>∃ a b c:Int,vs=[.int a,.int b,.int c]∧CR a b c∧R (Itf (rgf a c) (rgn a b c)) H1
theorem yd {x y z:Expr}{ta:TA}{p pos:Pos} (hg:Gl X "range") (hm:X.mg "range"=none) (ha:PA X [x,y,z] ta) (he:starEach [x,y,z] X.env=(false,eval x X.env)::starEach [y,z] X.env:=by rfl) (hpl:(backTo pos (starEach [y,z] X.env)).any (·.1)=false:=by rfl) :
  PI X tg (.Call (.Name "range" p) [x,y,z] [] pos) (Oz ta):=by
 intro pins s σ H R I h
 refine Call_ (o9 I hg hm boot_range (Za5 (thn (ha pos pins s σ H _ I h) fun us s1 ⟨vs,H1,I1,r1,q1⟩=>?_) he hpl))
 obtain ⟨a,b,c,e,q1,q⟩:=q1
 subst e
 cases r1 with
 | cons r rr =>
  cases rr with
  | cons r' rr =>
   cases rr with
   | cons r'' rr =>
    cases rr
    obtain ⟨t,rfl⟩:=r
    obtain ⟨t',rfl⟩:=r'
    obtain ⟨t'',rfl⟩:=r''
    obtain ⟨h1,h2,h3,h4,h5,h6⟩:=id q1
    refine call_range_3 (by omega) ?_ (.inl (PyProof.noPylong_small (by omega)))
    refine wpAny_pyIter_range (IsRange.new ..) (JX q1) ?_
    have I2:Inv X pins σ H1 { s1 with heap:=s1.heap.push { cls:=.type "range",data:=.fields #[.int a t,.int b t',.int c t''] },toks:=s1.toks }:=I1.kept fun b o e=>Zaa _ e
    refine ⟨_,[_],_,_,H1,rfl,I2.kept (t':=s1.toks) fun b o e=>Zaa _ e,Bk _ a c (rgn a b c),?_,fun b' hb=>?_,q⟩
    ·have e1:a+((0:Nat):Int) * c=a:=by simp
     show IsRangeIter _ _ (a+((0:Nat):Int) * c) (((rgn a b c:Nat):Int) - ((0:Nat):Int)) c
     rw [e1,Bl q1,show ((rgn a b c:Nat):Int) - ((0:Nat):Int)=(rgn a b c:Nat) from by omega]
     exact Zam _ rfl
    ·have e:=ZaF.mp hb
     subst e
     exact I2.Ab (Zaf _) (I2.hok.fresh (Zaf _))
theorem ue {acc:Array Value}{n:Nat} (h:ItemsOf (fun i v=>∃ t,v=.int (0+(i:Nat) * 1) t) acc n):Vals ((List.range n).map fun i=>V.int (i:Nat)) acc.toList:=by
 obtain ⟨hs,hv⟩:=h
 have go:∀ (l:List Value) (k:Nat),(∀ (i:Nat) v,l[i]?=some v->∃ t,v=Value.int (((k+i:Nat):Int)) t)->Vals ((List.range' k l.length).map fun i=>V.int (i:Nat)) l:=by
  intro l
  induction l with
  | nil=>intro k _;exact .nil
  | cons v l ih =>
   intro k h
   rw [Zak,List.range'_succ,Zah]
   obtain ⟨t,e⟩:=h 0 v rfl
   refine .cons ⟨t,by rw [e];rfl⟩ (ih (k+1) fun i v hv=>?_)
   obtain ⟨t,e⟩:=h (i+1) v (by simpa using hv)
   exact ⟨t,by rw [e];congr 2;omega⟩
 have:=go acc.toList 0 fun i v e=>by
  obtain ⟨t,e2⟩:=hv i v (by simpa using e)
  exact ⟨t,by rw [e2];congr 1;omega⟩
 rwa [Array.length_toList,hs,←List.range_eq_range'] at this
section
variable {prog:Program}{w:World}{A:Around}{E:Value->Shared->Prop}{s:Shared}
end
end
section
variable {K:PySem.W.Frag}{C:Cg}{F:Hp}{te:TE}{tA:TA}{f:Fn PV}
theorem S9 (g:Nat->PV) (h:Nat->V) (n:Nat) (hr:∀ i F,Rep K F (h i) (g i)):ItR K (Itf h n) F ((List.range n).map g) where
 stop:=fun F' H' s s'=>by simp [Itf]
 go:=fun i F' H' hi s s'=>by simpa [Itf] using hi
 yld:=fun i F' H' x H'' hi s s' y=>by
  obtain ⟨rfl,rfl⟩:=y
  have hi':i < n:=by simpa using hi
  exact ⟨F',g i,Up.refl s',by simp [hi'],hr i F'⟩
noncomputable def vZ (a c:Int) (n:Nat):List PV:=(List.range n).map fun i=>.int (a+(i:Nat) * c)
noncomputable def zr:List PV->Option (Res (List PV))
 | [.int a,.int b,.int c]=>if CR a b c then some (.ok (vZ a c (rgn a b c))) else none
 | _=>none
theorem Fx {f:Fn (List PV)} (h:MA K C tA f):MI K C (Oz tA) (m1 zr f):=by
 intro F H σ ρ R' r R e P
 refine h.run R e P fun l xs F1 H1 hk u a=>?_
 match l,hk with
 | [.int i,.int j,.int k],hk =>
  have hk:(if CR i j k then some (Res.ok (vZ i k (rgn i j k))) else none)=some r:=hk
  split at hk
  ·rename_i hj
   cases hk
   obtain ⟨v,ys,rfl,r1,r2⟩:=a.dO
   obtain ⟨w,zs,rfl,r3,r4⟩:=r2.dO
   obtain ⟨w',zs',rfl,r5,r6⟩:=r4.dO
   cases r6.gP
   cases Rep.bK r1
   cases Rep.bK r3
   cases Rep.bK r5
   exact ⟨i,j,k,rfl,hj,P _ F1 H1 u (S9 (fun n=>.int (i+(n:Nat) * k)) (rgf i k) _ fun _ _=>.int)⟩
  ·cases hk
end
section
variable {K:PySem.W.Frag}{C:Cg}{ta:TE}{f:Fn PV}
noncomputable def OD (_ j:Int):Prop:=0 < j∧j.natAbs.log2 < 9000
noncomputable def OJ (_ j:Int):Bool:=decide (0 < j∧j.natAbs.log2 < 9000)
theorem JZ {X:Cx}:OpR X (binaryOp .FloorDiv) (rI OD fun i j=>.int (i / j)):=_root_.L2.opI fun i j _ _ _ _ _ hc q=>by
 have h1:(0:Int) < j:=hc.1
 exact floordiv_int (by omega) (by rw [Int.fdiv_eq_ediv_of_nonneg i (by omega)];exact q) (.inl (PyProof.noPylong_of_log2 hc.2))
noncomputable def zu:=MP.opI OJ fun i j=>.int (i / j)
theorem Qu:R2M C (aF K) (aF K) (aF K) (rI OD fun i j=>.int (i / j)) zu:=Fo (fun _ _ h=>of_decide_eq_true (p:=0 < _∧_) h) fun _ _ _=>.int
end
section
variable {prog:Program}{w:World}{A:Around}{E:Value->Shared->Prop}{s:Shared}
end
section
variable {X:Cx}
end
section
variable {K:PySem.W.Frag}{C:Cg}{te:TE}
end
section
variable {K:PySem.W.Frag}{C:Cg}{ta:TE}{f:Fn PV}
inductive MPs (K:PySem.W.Frag) (C:Cg):List (TE×TE)->List (Fn PV×Fn PV)->Prop
 | nil:MPs K C [] []
 | cons {tk tv:TE}{fk fv:Fn PV}{ts:List (TE×TE)}{fs:List (Fn PV×Fn PV)} (hk:MJ K C (aF K) tk fk) (hv:MJ K C (aF K) tv fv) (h:MPs K C ts fs):MPs K C ((tk,tv)::ts) ((fk,fv)::fs)
inductive ye (K:PySem.W.Frag) (F:Hp):List (V×V)->List (PV×PV)->Prop
 | nil:ye K F [] []
 | cons {x y:V}{p q:PV}{xs:List (V×V)}{l:List (PV×PV)} (h1:Rep K F x p) (h2:Rep K F y q) (t:ye K F xs l):ye K F ((x,y)::xs) ((p,q)::l)
theorem ye.up {F F':Hp}{xs:List (V×V)}{l:List (PV×PV)} (h:ye K F xs l) (s:bh F F'):ye K F' xs l:=by
 induction h with
 | nil=>exact .nil
 | cons h1 h2 _ ih=>exact .cons (h1.up s) (h2.up s) ih
end
noncomputable def POk (K:PySem.W.Frag) (C:Cg) (F:Hp) (D:Ends) (i:Nat) (c:Option (Option V)):Out->Prop
 | .nx ρ=>∀ F' H' σ,bh F F'->RE K C.toCf F' H' σ ρ->σ[i]?=c->D.nx σ H'
 | .bk ρ=>∀ F' H' σ,bh F F'->RE K C.toCf F' H' σ ρ->σ[i]?=c->D.bk σ H'
 | .ct ρ=>∀ F' H' σ,bh F F'->RE K C.toCf F' H' σ ρ->σ[i]?=c->D.ct σ H'
 | o=>PO' K C F D o
section
variable {K:PySem.W.Frag}{C:Cg}{i:Nat}{te:TE}{F H:Hp}{σ:St}{ρ:Rho}{D:Ends}{t u:TS}{f g:Sn}{o:Out}{c:Option (Option V)}
theorem POk.up {F1:Hp} (h:POk K C F D i c o) (s:bh F F1):POk K C F1 D i c o:=by
 cases o with
 | nx ρ=>exact fun F' H' σ a=>h F' H' σ (s.trans a)
 | bk ρ=>exact fun F' H' σ a=>h F' H' σ (s.trans a)
 | ct ρ=>exact fun F' H' σ a=>h F' H' σ (s.trans a)
 | rt p=>exact fun v F' H' a=>h v F' H' (s.trans a)
 | ro p=>exact fun v F' H' a=>h v F' H' (s.trans a)
 | rd p=>exact fun v F' H' S a=>h v F' H' S (s.trans a)
 | ex z=>exact PX.up h s
end
noncomputable def New (H F' H':Hp) (S:Addr->Prop):Prop:=∀ b,S b->H b=none∧F' b=none∧∃ o,H' b=some o∧∀ ys,o≠.tup ys
section
variable {K:PySem.W.Frag}{C:Cg}{te ta tb:TE}{F F1 F2 H H1 H2:Hp}{σ:St}{ρ:Rho}{D:Ends}{t u:TS}{f g:Sn}{o:Out}{S:Addr->Prop}{v:V}{p:PV}
theorem New.up (n:New H F1 H1 S) (u:Up F1 H1 F2 H2):New H F2 H2 S:=fun b q=>by
 obtain ⟨n0,n1,o,n2,n3⟩:=n b q
 refine ⟨n0,?_,o,u.hh _ _ n2,n3⟩
 cases e:F2 b with
 | none=>rfl
 | some o' =>
  rcases u.fr b o' e with z | z | ⟨ys,z⟩
  ·rw [n1] at z;cases z
  ·rw [n2] at z;cases z
  ·subst z
   have w:=u.fh _ _ e
   rw [u.hh _ _ n2] at w
   cases w
   exact absurd rfl (n3 ys)
theorem Dp.stay (d:Dp K F1 H1 S v p) (u:Up F1 H1 F2 H2):Dp K F2 H2 S v p:=d.up u.ff (fun b o _ q=>u.hh b o q) fun b ys q=>u.hh b _ q
noncomputable def J0 (F H:Hp) (S:Addr->Prop):Hp:=fun b=>@ite _ (S b∨∃ ys,H b=some (.tup ys)) (Classical.propDecidable _) (H b) (F b)
theorem zx {b:Addr} (h:S b∨∃ ys,H b=some (.tup ys)):J0 F H S b=H b:=@if_pos _ (Classical.propDecidable _) h _ _ _
theorem wg {b:Addr} (h:¬(S b∨∃ ys,H b=some (.tup ys))):J0 F H S b=F b:=@if_neg _ (Classical.propDecidable _) h _ _ _
theorem Hs (s:bh F H):bh F (J0 F H S):=fun b o e=>by
 by_cases h:S b∨∃ ys,H b=some (.tup ys)
 ·rw [zx h];exact s b o e
 ·rw [wg h];exact e
theorem J1 (s:bh F H):bh (J0 F H S) H:=fun b o e=>by
 by_cases h:S b∨∃ ys,H b=some (.tup ys)
 ·rw [zx h] at e;exact e
 ·rw [wg h] at e;exact s b o e
noncomputable def Dps (K:PySem.W.Frag) (F H:Hp) (S:Nat->Addr->Prop) (xs:List V) (l:List PV):Prop :=
 xs.length=l.length∧(∀ i j b,S i b->S j b->i=j)∧∀ (j:Nat) x p,xs[j]?=some x->l[j]?=some p->Dp K F H (S j) x p
end
section
variable {K:PySem.W.Frag}{C:Cg}{te ta tb:TE}{F F1 F2 H H1 H2:Hp}{σ:St}{ρ:Rho}{D:Ends}{t u:TS}{f g:Sn}{o:Out}{S:Addr->Prop}{v:V}{p:PV}
theorem Dp.dB {l:List PV} (d:Dp K F H S v (.lst l)):∃ (T:Nat->Addr->Prop) (a:Addr) (xs:List V),v=.ref a∧H a=some (.lst xs)∧S a∧(∀ j b,T j b->S b∧b≠a)∧Dps K F H T xs l:=by
 cases d with
 | fr h st=>cases st
 | lst h hp hs dj hl hr=>exact ⟨_,_,_,rfl,h,hp,hs,hl,dj,hr⟩
end
section
variable {K:PySem.W.Frag}{C:Cg}{te ta tb:TE}{F F1 F2 H H1 H2:Hp}{σ:St}{ρ:Rho}{D:Ends}{t u:TS}{f g:Sn}{o:Out}{S:Addr->Prop}{v:V}{p:PV}
theorem Dp.dz {l:List PV} (d:Dp K F H S v (.tup l)) (hl:(PV.tup l).still=false):∃ (T:Nat->Addr->Prop) (a:Addr) (xs:List V),v=.ref a∧H a=some (.tup xs)∧(∀ j b,T j b->S b)∧Dps K F H T xs l:=by
 cases d with
 | fr h st=>rw [hl] at st;cases st
 | tup h hs dj hl hr=>exact ⟨_,_,_,rfl,h,hs,hl,dj,hr⟩
theorem Dps.len {T:Nat->Addr->Prop}{xs:List V}{l:List PV} (h:Dps K F H T xs l):xs.length=l.length:=h.1
theorem Dps.put {T:Nat->Addr->Prop}{xs:List V}{l:List PV} (h:Dps K F H T xs l) {j:Nat}{b:Addr}{ob:HO} (hb:T j b) (nt:∀ ys,H b≠some (.tup ys)) {x:V}{q:PV} (ex:xs[j]?=some x) (d:Dp K F (upd H b ob) (T j) x q):Dps K F (upd H b ob) T xs (l.set j q):=by
 refine ⟨by simp [h.1],h.2.1,fun k y r e1 e2=>?_⟩
 rcases get_set e2 with ⟨f1,f2⟩ | ⟨f1,f2⟩
 ·subst f1;subst f2
  rw [ex] at e1;cases e1
  exact d
 ·exact (h.2.2 k y r e1 f2).up (bh.refl _) (fun c o z e=>by rw [aO (fun w=>by subst w;exact f1 (h.2.1 j k c hb z))];exact e) fun c ys e=>by rw [aO (fun w=>by subst w;exact nt ys e)];exact e
theorem Dp.snoc {b:Addr}{T:Nat->Addr->Prop}{ys:List V}{row:List PV}{q:PV} (e:H b=some (.lst ys)) (sb:S b) (ht:∀ j c,T j c->S c∧c≠b) (d:Dps K F H T ys row) (r:Rep K F v q) (st:q.still=true):Dp K F (upd H b (.lst (ys++[v]))) S (.ref b) (.lst (row++[q])):=by
 refine .lst (S:=fun j c=>j < ys.length∧T j c) aX sb (fun j c z=>ht j c z.2) (fun i j c z z'=>d.2.1 i j c z.2 z'.2) (by simp [d.1]) fun j x p e1 e2=>?_
 by_cases hj:j < ys.length
 ·rw [Zax hj] at e1
  rw [Zax (by rw [←d.1];exact hj)] at e2
  refine ((d.2.2 j x p e1 e2).up (bh.refl _) (fun c o z e=>by rw [aO (ht j c z).2];exact e) fun c zs e'=>?_).mono fun c z=>⟨hj,z⟩
  rw [aO (fun w=>by subst w;rw [e] at e';cases e')];exact e'
 ·rw [ZaC (by omega)] at e1
  rw [ZaC (by rw [←d.1];omega)] at e2
  have ej:j=ys.length:=by
   have:=cP e1
   simp at this
   omega
  rw [ej,Nat.sub_self] at e1
  rw [ej,d.1,Nat.sub_self] at e2
  cases e1;cases e2
  exact .fr r st
end
noncomputable def Ub:Option Out->Option (Res PV)
 | some (.rd p)=>some (.ok p)
 | some (.ex z)=>some (.ex z)
 | _=>none
section
variable {K:PySem.W.Frag}{XR:Hp->Value->Option Addr->PV->Prop}{N:List Str}{vs:List V}{H:Hp}{Q:VK}{E:XK}{t:TS}{b:Sn}{m:List PV->Option (Res PV)}
end
end L2.MP
namespace L2
open PySem PySem.Spec PyProof PyProof.Rows
namespace MP
section
variable {K:PySem.W.Frag}{C:Cg}{tA:TA}
end
end MP
noncomputable def Bm:HO->Prop
 | .dK _=>True
 | .dT _=>True
 | _=>False
section
variable {X:Cx}{pins:List (Addr×Obj)}{σ:St}{H:Hp}{s:Shared}{a:Addr}{u:HO}{raw:Obj}
theorem Inv.loose (I:Inv X pins σ H s) (e:H a=some (.frz raw u)) (hu:Bm u) (h0:∀ o v,X.H₀ a≠some (.frz o v)):Inv X pins σ (upd H a u) s where
 ok:=I.ok
 os:=I.os
 bare:=I.bare
 base:={
  keep:=I.base.keep
  slot:=I.base.slot
  free:=fun b o q n hx=>by
   have:=I.base.free b o q n hx
   rw [aO (fun z=>by subst z;rw [e] at this;cases this)];exact this
  there:=I.base.there
  tups:=fun b xs q=>by
   have:=I.base.tups b xs q
   rw [aO (fun z=>by subst z;rw [e] at this;cases this)];exact this
  frzs:=fun b o v q=>by
   rw [aO (fun z=>by subst z;exact h0 o v q)];exact I.base.frzs b o v q
  tbls:=fun b ps q=>by
   obtain ⟨more,r⟩:=I.base.tbls b ps q
   exact ⟨more,by rw [aO (fun z=>by subst z;rw [e] at r;cases r)];exact r⟩ }
 loc:=I.loc
 cell:=I.cell
 free:=by rw [aO (fun z=>by have:=I.free;rw [z,e] at this;cases this)];exact I.free
 freeC:=fun x c q=>by
  have:=I.freeC x c q
  rw [aO (fun z=>by subst z;rw [e] at this;cases this)];exact this
 pin:=fun p hp=>by
  obtain ⟨p1,p2,p3⟩:=I.pin p hp
  exact ⟨p1,by rw [aO (fun z=>by rw [z,e] at p2;cases p2)];exact p2,p3⟩
 hok:=fun b o q=>by
  have ho:∀ c y,H c=some (.own y)->upd H a u c=some (.own y):=fun c y r=>by rw [aO (fun z=>by subst z;rw [e] at r;cases r)];exact r
  have ht:∀ c xs,H c=some (.tup xs)->upd H a u c=some (.tup xs):=fun c xs r=>by rw [aO (fun z=>by subst z;rw [e] at r;cases r)];exact r
  by_cases hb:b=a
  ·subst hb
   rw [aX] at q;cases q
   exact (I.hok b _ e).2.stay (fun _ _ _ q=>q) (fun c r=>ho c b r) ht
  ·rw [aO hb] at q
   exact (I.hok b o q).stay (fun _ _ _ q=>q) (fun c r=>ho c b r) ht
 len:=I.len
noncomputable def Ends.loose (D:Ends) (a:Addr) (raw:Obj) (u:HO):Ends where
 nx:=fun σ H=>H a=some (.frz raw u)∧D.nx σ (upd H a u)
 bk:=fun σ H=>H a=some (.frz raw u)∧D.bk σ (upd H a u)
 ct:=fun σ H=>H a=some (.frz raw u)∧D.ct σ (upd H a u)
 rt:=fun v H=>H a=some (.frz raw u)∧D.rt v (upd H a u)
end
end L2
namespace L2.MP
open PySem PySem.Spec PyProof.Rows
structure Sw (F F':Hp) (a:Addr) (u:HO):Prop where
 ne:∀ b,b≠a->F' b=F b
 l:Rd F a u
 r:Rd F' a u
 d:Bm u
section
variable {K:PySem.W.Frag}{F F' H H':Hp}{a:Addr}{u:HO}{v:V}{p:PV}
theorem Sw.symm (w:Sw F F' a u):Sw F' F a u:=⟨fun b hb=>(w.ne b hb).symm,w.r,w.l,w.d⟩
theorem Sw.other (w:Sw F F' a u) {b:Addr}{o:HO} (e:F b=some o) (h1:¬Bm o) (h2:∀ raw x,Bm x->o≠.frz raw x):F' b=some o:=by
 rw [w.ne b fun z=>?_]
 ·exact e
 ·subst z
  rcases w.l with q | ⟨raw,q⟩
  ·rw [e] at q;cases q;exact h1 w.d
  ·rw [e] at q;cases q;exact h2 raw u w.d rfl
theorem Sw.rd (w:Sw F F' a u) {b:Addr}{o:HO} (h:Rd F b o) (ho:Bm o):Rd F' b o:=by
 by_cases hb:b=a
 ·subst hb
  have:o=u:=by
   rcases h with h | ⟨r,h⟩ <;> rcases w.l with q | ⟨r',q⟩ <;> rw [h] at q <;> cases q
   ·rfl
   ·exact ho.elim
   ·exact w.d.elim
   ·rfl
  rw [this];exact w.r
 ·rcases h with h | ⟨r,h⟩
  ·exact .inl (by rw [w.ne b hb];exact h)
  ·exact .inr ⟨r,by rw [w.ne b hb];exact h⟩
end
section
variable {K:PySem.W.Frag}{t:TS}{f:Sn}
end
section
variable {K:PySem.W.Frag}{C:Cg}{te:TE}{t:TS}{f:Sn}{F H:Hp}{σ:St}{ρ:Rho}{D:Ends}{o:Out}
end
structure Uj (a c:Addr) (F H F' H':Hp):Prop where
 ff:bh F F'
 hb:∀ b o,H b=some o->b≠a->b≠c->H' b=some o
 fr:∀ b o,F' b=some o->F b=some o∨Frz H b o
 fh:bh F' H'
section
variable {K:PySem.W.Frag}{C:Cg}{N:List Str}{vs:List V}{H F:Hp}{Q:VK}{E:XK}{t:TS}{b:Sn}{m:List PV->Option (Res PV)}{ps:List PV}{a c:Addr}{p q:PV}{n:Nat}
end
end L2.MP
namespace L2
open PySem PySem.Spec PyProof PyProof.Rows
section
variable {X:Cx}
end
namespace MP
section
variable {K:PySem.W.Frag}{C:Cg}
end
end MP
namespace MP
section
variable {K:PySem.W.Frag}{C:Cg}
end
end MP
section
variable {X:Cx}
end
namespace MP
section
variable {K:PySem.W.Frag}{C:Cg}
end
end MP
end L2
namespace L2.MP
open PySem PySem.Spec PyProof.Rows
section
variable {K:PySem.W.Frag}{C:Cg}{te:TE}{F F' G H H1 H':Hp}{σ:St}{ρ:Rho}{D:Ends}{t:TS}{f:Sn}{o:Out}{S:Addr->Prop}{v:V}{p:PV}
theorem Rep.vH:∀ {n:Nat}{v:V}{p:PV},Rep K F v p->MP.vH n p=true->(∀ b ys,F b=some (.tup ys)->G b=some (.tup ys))->Rep K G v p
 | 0,v,p,h,hs,g=>h.free hs
 | n+1,v,p,h,hs,g=>by
  cases h with
  | non=>exact .non
  | bl=>exact .bl
  | int=>exact .int
  | str=>exact .str
  | ty=>exact .ty
  | tup h hl hr=>exact .tup (g _ _ h) hl fun j x p a b=>(hr j x p a b).vH (n:=n) (ZaX.mp hs p (Zau b)) g
  | lst=>cases hs
  | dk=>cases hs
  | dt=>cases hs
  | exc=>cases hs
  | exc0=>cases hs
noncomputable def PV.Mz:PV->Bool
 | .lst l=>l.all PV.still
 | .dk l=>l.all fun kv=>kv.2.still
 | .dt l=>l.all fun kv=>kv.2.still
 | _=>false
theorem Own.dp {a:Addr} (w:Own K F H a p) (h:p.Mz=true):Dp K F H (fun b=>b=a) (.ref a) p:=by
 cases p with
 | lst l =>
  obtain ⟨xs,e2,e3⟩:=w
  exact .lst (S:=fun _ _=>False) e2 rfl (fun j b q=>q.elim) (fun i j b q=>q.elim) e3.1 fun j x p e4 e5=>.fr (e3.2 j x p e4 e5) (ZaX.mp h p (Zau e5))
 | dk l =>
  obtain ⟨xs,e2,e3,e4⟩:=w
  exact .dk (S:=fun _ _=>False) e2 rfl (fun j b q=>q.elim) (fun i j b q=>q.elim) e3 fun j x p e5 e6=>.fr (e4 j x p e5 e6) (ZaX.mp h p (Zau e6))
 | dt l =>
  obtain ⟨xs,e2,e3,e4⟩:=w
  exact .dt (S:=fun _ _=>False) e2 rfl (fun j b q=>q.elim) (fun i j b q=>q.elim) e3 fun j x p e5 e6=>.fr (e4 j x p e5 e6) (ZaX.mp h p (Zau e6))
 | _=>cases h
end
open PySem PySem.Spec PyProof PyProof.Rows
section
variable {K:PySem.W.Frag}{C:Cg}
end
section
variable {K:PySem.W.Frag}{C:Cg}{te ta tb:TE}{F F1 F2 H H1 H2:Hp}{σ:St}{ρ:Rho}{D:Ends}{t u:TS}{f g:Sn}{o:Out}{S:Addr->Prop}{v:V}{p:PV}
theorem Dp.none {b:Addr} (sb:S b):Dp K F (upd H b (.lst [])) S (.ref b) (.lst []) :=
 .lst (S:=fun _ _=>False) aX sb (fun _ _ z=>z.elim) (fun _ _ _ z=>z.elim) rfl fun j x p e1=>by simp at e1
end
end L2.MP
namespace L2
open PySem PySem.Spec PyProof PyProof.Rows
noncomputable def Dm (h:Heap) (d:Addr) (es:Array DictEntry) (ep:Nat):Prop:=∃ o,h.get? d=some o∧o.ExactDict∧o.data=.dict es ep
section
variable {prog:Program}{w:World}{A:Around}{E:Value->Shared->Prop}{s:Shared}{h h':Heap}{d it:Addr}{es:Array DictEntry}{ep i:Nat}
theorem Dm.step (r:Dm h d es ep) (k:∀ o,h.get? d=some o->h'.get? d=some o):Dm h' d es ep:=by
 obtain ⟨o,e,q⟩:=r;exact ⟨o,k o e,q⟩
theorem Dm.small (r:Dm h d es ep):d < h.objs.size:=by obtain ⟨o,e,_⟩:=r;exact Zaj e
theorem Dm.ty (r:Dm s.heap d es ep):s.TypeIs (.ref d) "dict":=by
 obtain ⟨o,e,c,_⟩:=r;exact ⟨o,e,c.1⟩
end
open PySem PySem.W PyProof.Rows
noncomputable def J3 {α:Type} (lt:Nat->Nat->Bool):KasT α->α
 | .ret a=>a
 | .ask i j k=>J3 lt (k (lt i j))
noncomputable def kIn {α:Type} (n:Nat) (P:α->Prop):KasT α->Prop
 | .ret a=>P a
 | .ask i j k=>i < n∧j < n∧∀ b,kIn n P (k b)
theorem kIn.then {α β:Type}{n:Nat}{P:α->Prop}{P':β->Prop}{f:α->KasT β}:∀ {t:KasT α},kIn n P t->(∀ a,P a->kIn n P' (f a))->kIn n P' (t.bind f)
 | .ret a,h,hf=>hf a h
 | .ask i j k,h,hf=>⟨h.1,h.2.1,fun b=>kIn.then (h.2.2 b) hf⟩
theorem kIn.val {α:Type}{n:Nat}{P:α->Prop}{lt:Nat->Nat->Bool}:∀ {t:KasT α},kIn n P t->P (J3 lt t)
 | .ret _,h=>h
 | .ask i j k,h=>kIn.val (t:=k (lt i j)) (h.2.2 (lt i j))
theorem kIn.run {α:Type}{n:Nat}{P:α->Prop}{lt:Nat->Nat->Bool}{cmp:Nat->Nat->(Bool->Shared->Prop)->Shared->Prop}{Q:α->Shared->Prop}{s:Shared} (hc:∀ i j C,i < n->j < n->C (lt i j) s->cmp i j C s):∀ {t:KasT α},kIn n P t->Q (J3 lt t) s->t.kasWp cmp Q s
 | .ret _,_,q=>q
 | .ask i j k,h,q=>hc i j _ h.1 h.2.1 (kIn.run hc (h.2.2 (lt i j)) q)
noncomputable def Bd (n:Nat) (p:Array Nat):Prop:=∀ x∈p.toList,x < n
section
variable {n:Nat}{p:Array Nat}
theorem Bd.get (h:Bd n p) (n0:0 < n) (i:Nat):p.getD i 0 < n:=by
 by_cases hi:i < p.size
 ·have e:p.getD i 0=p[i]:=by simp [Array.getD,hi]
  rw [e]
  exact h _ (Array.getElem_mem_toList hi)
 ·have e:p.getD i 0=0:=by simp [Array.getD,hi]
  rw [e];exact n0
theorem Bd.perm {q:Array Nat} (h:Bd n p) (e:q.Perm p):Bd n q:=fun x hx=>h x ((Array.perm_iff_toList_perm.mp e).mem_iff.mp hx)
end
open PySem PySem.Spec PySem.W PyProof PyProof.Rows
noncomputable def Ht (h:Heap) (v:Value) (p:Str×Int):Prop:=∃ a o t u n,v=.ref a∧h.get? a=some o∧o.cls=.type "tuple"∧o.data=.seq #[.str p.1 t,.int p.2 u] n
noncomputable def ltP (p q:Str×Int):Bool:=if p.1=q.1 then (if p.2=q.2 then false else decide (p.2 < q.2)) else decide (p.1.cps.toList < q.1.cps.toList)
section
variable {prog:Program}{w:World}{A:Around}{E:Value->Shared->Prop}{s:Shared}{u v:Value}{p q:Str×Int}
theorem Ht.same {h h':Heap} (x:Ht h v p) (k:∀ a o,v=.ref a->h.get? a=some o->h'.get? a=some o):Ht h' v p:=by
 obtain ⟨a,o,t,t2,n,rfl,e1,e2,e3⟩:=x
 exact ⟨a,o,t,t2,n,rfl,k a o rfl e1,e2,e3⟩
theorem Ht.lt (hp:Ht s.heap v p) (hq:Ht s.heap u q) {Q:Bool->Shared->Prop} (h:Q (ltP p q) s):wpAny (model prog w) A (keyLt' (tuples' true) v u) Q E s:=by
 obtain ⟨a,o,t,t2,n,rfl,e1,e2,e3⟩:=hp
 obtain ⟨b,o',r,r2,n',rfl,f1,f2,f3⟩:=hq
 refine kat_lt e1 e3 f1 f3 (kat_cons (wpAny_eqBool_str ?_))
 by_cases c:p.1=q.1
 ·rw [decide_eq_true c]
  refine kat_yes (kat_cons (wpAny_eqBool_int ?_))
  by_cases d:p.2=q.2
  ·rw [beq_iff_eq.mpr d]
   refine kat_yes (kat_nil ?_)
   rw [show ltP p q=false by unfold ltP;rw [if_pos c,if_pos d]] at h
   exact h
  ·rw [beq_eq_false_iff_ne.mpr d]
   refine kat_no ?_
   show wpAny _ _ (oneLt' false _ _) _ _ _
   rw [show ltP p q=decide (p.2 < q.2) by unfold ltP;rw [if_pos c,if_neg d]] at h
   exact kat_one _ _ (lt_int h)
 ·rw [decide_eq_false c]
  refine kat_no ?_
  show wpAny _ _ (oneLt' true _ _) _ _ _
  rw [show ltP p q=decide (p.1.cps.toList < q.1.cps.toList) by unfold ltP;rw [if_neg c]] at h
  exact oneLt_str h
end
open PySem PySem.Spec PySem.W PyProof PyProof.Rows
theorem KT.at {H:Hp}{kvs:List (List Key×V)}{xs:List (List Key×Addr×Value)} (r:KT H kvs xs):xs.length=kvs.length∧∀ (i:Nat) k,(kvs.map (·.1))[i]?=some k->∃ b u,xs[i]?=some (k,b,u)∧H b=some (.tup (k.map kV)):=by
 induction r with
 | nil=>exact ⟨rfl,fun i k h=>by simp at h⟩
 | @cons p q ps qs hq t ih =>
  refine ⟨by simp [ih.1],fun i k h=>?_⟩
  cases i with
  | zero =>
   have h:p.1=k:=by simpa using h
   subst h
   obtain ⟨q1,b,u⟩:=q
   exact ⟨b,u,by rw [hq.1];rfl,hq.2.1⟩
  | succ i=>exact ih.2 i k (by simpa using h)
section
variable {X:Cx}
end
namespace MP
section
variable {K:PySem.W.Frag}{C:Cg}
theorem Up.tups {F H:Hp}{l:Addr}{o:HO} (s:bh F H) (hl:H l=none):Up F H (J0 F H fun _=>False) (upd H l o):=by
 refine ⟨Hs s,fC hl,fun b o q=>?_,(J1 s).trans (fC hl)⟩
 by_cases hb:False∨∃ ys,H b=some (.tup ys)
 ·rw [zx hb] at q
  obtain ⟨ys,z⟩:=hb.resolve_left id
  rw [z] at q;cases q
  exact .inr (.inr ⟨ys,rfl⟩)
 ·rw [wg hb] at q
  exact .inl q
end
end MP
end L2
namespace L2.MP
open PySem PySem.Spec PyProof.Rows
section
variable {K:PySem.W.Frag}{C:Cg}{te:TE}
end
section
variable {K:PySem.W.Frag}{C:Cg}{te ta tb:TE}{F F1 F2 H H1 H2:Hp}{σ:St}{ρ:Rho}{D:Ends}{S:Addr->Prop}{v:V}{p:PV}
end
end L2.MP
namespace L2
open PySem PySem.F PySem.Spec PyProof PyProof.Rows
section
variable {prog:Program}{w:World}{A:Around}{E:Value->Shared->Prop}{s:Shared}{t:Tok}{n:Int}
noncomputable def kwS (n:Int) (t:Tok):List (Str×Value):=[("start",.int n t)]
noncomputable def itO (l:Addr):Obj:={ cls:=.type "list_iterator",data:=.fields #[.ref l,.int 0 0] }
noncomputable def enO (a:Addr) (k:Int):Obj:={ cls:=.type "enumerate",data:=.fields #[.none,.bool false,.ref a,rawInt k,.none,.none] }
set_option maxHeartbeats 1000000 in
theorem Bo (l:Addr) (xs:Array Value) (k:Nat) (dc:Option Addr) (sl:Array (Option Value)) (t:Tok) :
  Meets (Builtin.«enumerate.__new__» ⟨[.type "enumerate",.ref l],kwS 1 t⟩) (fun _ R s=>s.heap.get? l=some { cls:=.type "list",dict:=dc,data:=.seq xs k,slots:=sl } ∧
   R (.ok (.ret (.ref (s.heap.push (itO l)).objs.size))) { s with heap:=(s.heap.push (itO l)).push (enO s.heap.objs.size 1) }) :=
 .of_wp fun prog w A R s h=>by
  obtain ⟨hp,g,d,tk,os⟩:=s
  obtain ⟨hl,h⟩:=h
  have sub:=sub_enumerate
  have isL:Heap.IsList (Shared.heap ⟨hp,g,d,tk,os⟩) l xs:=⟨_,hl,rfl,k,rfl⟩
  unfold kwS
  wp_walk using Za2 hl
  refine wpAny_stack_any fun st=>wpAny_pure ?_
  split
  ·rename_i c _ _ _ _ _
   cases (c == Value.type "enumerate")
   ·wp_walk using Za2 hl,wpAny_pyIter_list isL
    exact ⟨_,rfl,h⟩
   ·wp_walk using Za2 hl,wpAny_pyIter_list isL
    exact ⟨_,rfl,h⟩
  ·wp_walk using Za2 hl,wpAny_pyIter_list isL
   exact ⟨_,rfl,h⟩
theorem J5 (a:Value):checkTypeCall "enumerate" ⟨[a],kwS 1 t⟩=pure ():=by kernel_rfl
theorem J6 (a:Value):checkBuiltinCall "enumerate.__new__" ⟨[.type "enumerate",a],kwS 1 t⟩=pure ():=by kernel_rfl
theorem J7 (o a:Value):argsOk "object.__init__" ⟨[o,a],kwS 1 t⟩:=by unfold argsOk;kernel_rfl
theorem J8 {self a:Value}:Meets (Builtin.«object.__init__» ⟨[self,a],kwS 1 t⟩) (fun _ R s=>s.TypeIs self "enumerate"∧R (.ok (.ret .none)) s):=by
 refine Meets.of_wp fun prog w A R s ⟨ty,q⟩=>?_
 have h1:=F.called_enumerate.init.lookup
 have h2:=F.called_enumerate.made
 have h3:(some "enumerate.__new__" != some "object.__new__")=true:=by decide
 unfold kwS
 repeat any_goals first
  | assumption
  | wp_step
 exact ⟨_,rfl,q⟩
theorem Dn {l:Addr}{xs:Array Value}{Q:Value->Shared->Prop} (hL:s.heap.IsList l xs)
  (q:∀ h',IsEnum h' (s.heap.objs.size+1) s.heap.objs.size 1 .none->h'.IsListIter s.heap.objs.size l 0->h'.objs.size=s.heap.objs.size+2->(∀ b o,s.heap.get? b=some o->h'.get? b=some o)->Q (.ref (s.heap.objs.size+1)) { s with heap:=h' }) :
  wpAny (model prog w) A (call (.type "enumerate") [.ref l] (kwS 1 t)) Q E s:=by
 obtain ⟨⟨c,dc,dt,sl⟩,hl,hc,k,hd⟩:=hL
 replace hc:c=.type "list":=hc
 replace hd:dt=.seq xs k:=hd
 subst hc hd
 have ft:=F.called_enumerate
 obtain ⟨m0,ml,hm⟩:=ft.mro
 have made:=ft.made
 have subT:=ft.sub
 have noT:=ft.notType
 have can:=ft.canCreate
 have tc:=J5 (t:=t) (.ref l)
 have z1:(s.heap.push (itO l)).objs.size=s.heap.objs.size+1:=Zbq ..
 refine wpAny_call (codeAny_of_tree ?_)
 show wpAny _ _ (callAny (.type "enumerate") _) _ _ _
 refine wpAny_pure ⟨Code.quiet_builtin _ (by decide +kernel),codeAny_builtin F.entry_type_call ?_⟩
 rw [Around.under_plain (weight_type_call_type "enumerate" [.ref l] (kwS 1 t)) (units_type_call_type "enumerate" [.ref l] (kwS 1 t))]
 repeat any_goals first
  | assumption
  | wp_step
 have mk:=Bo l xs k dc sl t prog w A.in1 (wants (fun o s'=>o=.ref (s.heap.objs.size+1)∧s'={ s with heap:=(s.heap.push (itO l)).push (enO s.heap.objs.size 1) }) E) s ⟨hl,by rw [z1];exact ⟨rfl,rfl⟩⟩
 refine codeAny_mono (codeAny_call_builtin ft.plain F.entry_enumerate_new (wpAny_of_eq (J6 _) mk)) fun r s1 hr=>?_
 match r,hr with
 | .error e,hr=>exact hr
 | .ok (.ret o),hr =>
  obtain ⟨rfl,rfl⟩:=hr
  have en:IsEnum ((s.heap.push (itO l)).push (enO s.heap.objs.size 1)) (s.heap.objs.size+1) s.heap.objs.size 1 .none:=by
   have e:=Zam (s.heap.push (itO l)) (o:=enO s.heap.objs.size 1) rfl
   rw [z1] at e;exact e
  have ty:Shared.TypeIs { s with heap:=(s.heap.push (itO l)).push (enO s.heap.objs.size 1) } (.ref (s.heap.objs.size+1)) "enumerate":=⟨_,en,rfl⟩
  have fin:=q _ en ⟨_,Zaa _ (Zam _ rfl),rfl,rfl⟩ (by rw [Zbq,z1]) fun b o x=>Zaa _ (Zaa _ x)
  have lk:=ft.init.lookup
  have bi:=ft.init.bind (.ref (s.heap.objs.size+1))
  repeat any_goals first
   | assumption
   | wp_step
  refine codeAny_mono (codeAny_call_builtin ft.init.plain F.entry_object_init (ft.init.check _ _ _ _ _ _ _ _ ty (J7 (t:=t) _ _) (J8 prog w A.in1 (wants (fun r s2=>r=.none∧Q (.ref (s.heap.objs.size+1)) s2) E) _ ⟨ty,rfl,fin⟩))) fun r2 s2 hr2=>?_
  match r2,hr2 with
  | .error e,hr2=>exact hr2
  | .ok (.ret o2),hr2 =>
   obtain ⟨rfl,hq⟩:=hr2
   repeat any_goals first
    | assumption
    | wp_step
end
noncomputable def Tc (K:PySem.W.Frag) (a:Addr):It :=
 ⟨fun i H=>∃ xs x,SqL K H a xs∧xs[i]?=some x,fun i H x H'=>∃ p y,H p=none∧x=.ref p∧H'=upd H p (.tup [.int ((i+1:Nat):Int),y])∧∀ xs,SqL K H a xs->xs[i]?=some y,fun i H=>∃ xs,SqL K H a xs∧xs.length≤i⟩
theorem Bp {prog:Program}{w:World}{A:Around}{it:Addr}{fp:List Addr}{n:Nat}{P:Nat->Value->Prop}{St:Nat->Heap->Prop} (D:Draws prog w A it fp n P St):Draws prog w A it fp (n+1) (fun i x=>∃ j,i=j+1∧P j x) (fun i h=>∃ j,i=j+1∧St j h) where
 live:=fun _ h ⟨j,_,z⟩=>D.live j h z
 frame:=fun _ h h' ⟨j,e,z⟩ k=>⟨j,e,D.frame j h h' z k⟩
 item:=fun i s Q E hi ⟨j,e,z⟩ q=>D.item j s Q E (by omega) z fun x h' tk hp hs hb=>q x h' tk ⟨j,e,hp⟩ ⟨j+1,by omega,hs⟩ hb
 done:=fun s Q E ⟨j,e,z⟩ q=>D.done s Q E (Nat.succ.inj e ▸ z) q
theorem Hu {prog:Program}{w:World}{A:Around} (hh:A.handled=none) (it l:Addr) (ne:l≠it) (items:Array Value) (i:Nat) (hx:items[i]?=none):Draws prog w A it [it,l] i (fun _ _=>False) (fun j h=>j=i∧h.IsListIter it l i∧h.IsList l items) where
 live:=fun _ _ z=>let ⟨o,ho,_⟩:=z.2.1;⟨o,ho⟩
 frame:=fun _ _ _ z k=>⟨z.1,z.2.1.at fun o e=>k it (by simp) o e,z.2.2.at fun o e=>k l (by simp) o e⟩
 item:=fun j s Q E hj z _=>absurd z.1 (Zay hj)
 done:=fun s Q E z q=>by
  exact wpAny_nextOf_list_end hh z.2.1 z.2.2 hx q
theorem Do {P:Program}{w:World}{K:PySem.W.Frag}{elts:List Expr}{x1:Nat}{pos:Pos} (a e it:Addr) (hei:e≠it) :
  Turn P w K (.Tuple elts x1 pos) (Tc K a) [e,it] e (fun i h=>(∃ old,IsEnum h e it ((i+1:Nat):Int) old)∧h.IsListIter it a i) where
 mem:=by simp
 obj:=fun i h st b hb=>by
  obtain ⟨⟨old,he⟩,o,ho,c,d⟩:=st
  rcases Zao.mp hb with z | z
  ·subst z;exact ⟨_,he,fun v q=>by cases q⟩
  ·have z:b=it:=by simpa using z
   subst z
   exact ⟨o,ho,fun v q=>by rw [d] at q;cases q⟩
 keep:=fun i h h' st k=>by
  obtain ⟨⟨old,he⟩,hit⟩:=st
  exact ⟨⟨old,k e (by simp) _ he⟩,hit.at fun o q=>k it (by simp) o q⟩
 item:=by
  intro X hP hw hK hc i pins s σ H E I hf st hg
  subst hP hw hK
  obtain ⟨xs,x,hq,hx⟩:=hg
  obtain ⟨its,rv,p,hz⟩:=I.list hq
  obtain ⟨u,hu,ru⟩:=rv.get hx
  obtain ⟨⟨old,he⟩,hit⟩:=st
  have hl:=p.isList
  have hai:a≠it:=by
   rintro rfl
   obtain ⟨o1,e1,c1,_⟩:=hl
   obtain ⟨o2,e2,c2,_⟩:=hit
   rw [e1] at e2;cases e2;rw [c1] at c2;exact absurd c2 (by decide)
  have hae:a≠e:=by
   rintro rfl
   obtain ⟨o1,e1,c1,_⟩:=hl
   rw [he] at e1;cases e1;exact absurd (show Value.type "enumerate"=Value.type "list" from c1) (by decide)
  have D:=Bp (Draws.list (prog:=X.prog) (w:=X.w) (A:=X.A.in1) (I.ok.hd hc) it a hai its.toArray)
  have hlt:i < its.toArray.size:=by
   have:=(Zap.mp hu).1
   simpa using this
  refine wpAny_pyNext_enum_itemD (i:=i+1) D he ⟨i,rfl,hit,hl⟩ (Nat.succ_lt_succ hlt) hei (by simp [hei,Za4 hae]) fun v h1 tk hP ho hst hT hsz hk=>?_
  obtain ⟨jP,ejP,hP⟩:=hP
  have ejP:i=jP:=by omega
  subst ejP
  obtain ⟨jS,ejS,hst⟩:=hst
  have ejS:i+1=jS:=by omega
  subst ejS
  have ev:v=u:=by
   have hP':its.toArray[i]?=some v:=hP
   rw [List.getElem?_toArray,hu] at hP'
   exact (Zab hP').symm
  subst ev
  refine ⟨_,rfl,wpAny_letOwnedTupleGo_enum ho fun h2 he2 hs2=>?_⟩
  have elt:e < s.heap.objs.size:=Zaj he
  have hT2:h2.get? s.heap.objs.size=some { cls:=.type "tuple",data:=.seq #[.int ((i+1:Nat):Int) tk,v] }:=(hs2.2 _ (Nat.ne_of_gt elt)).trans hT
  refine ⟨.ref s.heap.objs.size,upd H s.heap.objs.size (.tup [.int ((i+1:Nat):Int),x]),I.xP (ch:=[e,it]) (fun b o hb q=>?_) hf (Zaf _) ⟨by show 2≤sizeLine;decide,[.int ((i+1:Nat):Int) tk,v],.cons ⟨tk,rfl⟩ (.cons ru .nil),gD.mk hT2⟩,rfl,⟨_,x,I.hok.fresh (Zaf _),rfl,rfl,fun ys hy=>by rw [I.rW hy hq];exact hx⟩,⟨⟨v,by simpa using he2⟩,?_⟩,fun b hb=>?_⟩
  ·have h1':b≠e:=fun z=>hb (by simp [z])
   have h2':b≠it:=fun z=>hb (by simp [z])
   exact (hs2.2 b h1').trans (hk b o h1' h2' q)
  ·exact hst.1.at fun o q=>(hs2.2 it (Za4 hei)).trans q
  ·rw [aO ?_]
   ·exact (hf b hb).1
   ·rcases Zao.mp hb with z | z
    ·rw [z];exact Zay elt
    ·have z:b=it:=by simpa using z
     rw [z]
     obtain ⟨o2,e2,_⟩:=hit
     exact Zay (Zaj e2)
 done:=by
  intro X hP hw hK hc i pins s σ H E I hf st hg
  subst hP hw hK
  obtain ⟨xs,hq,hx⟩:=hg
  obtain ⟨its,rv,p,hz⟩:=I.list hq
  obtain ⟨⟨old,he⟩,hit⟩:=st
  have hl:=p.isList
  have ln:=rv.length
  have hai:a≠it:=by
   rintro rfl
   obtain ⟨o1,e1,c1,_⟩:=hl
   obtain ⟨o2,e2,c2,_⟩:=hit
   rw [e1] at e2;cases e2;rw [c1] at c2;exact absurd c2 (by decide)
  refine wpAny_pyNext_enum_endD (Hu (prog:=X.prog) (w:=X.w) (A:=X.A.in1) (I.ok.hd hc) it a hai its.toArray i (by rw [List.getElem?_toArray];exact Zbp.mpr (by omega))) he ⟨rfl,hit,hl⟩ fun h1 eb=>⟨rfl,?_⟩
  exact I.uY (t':=s.toks) (ch:=[e,it]) (fun b o hb q=>eb b o (fun z=>hb (by simp [z])) q) hf
 self:=fun A i s Q E st h=>by
  obtain ⟨⟨old,he⟩,_⟩:=st
  exact wpAny_pyIter_enum he h
noncomputable def J9 (K:PySem.W.Frag) (ta:TA):TI:=fun σ H R=>ta σ H fun vs H1=>∃ a,vs=[.ref a]∧(∃ xs,SqL K H1 a xs)∧R (Tc K a) H1
section
variable {M:Model}{A:Around}{E:Value->Shared->Prop}{s:Shared}
theorem cw_typeKw {pos:Pos}{T:String}{args:List (Bool×Sem Value)}{kws:List (Option Str×Sem Value)}{Q:Value->Shared->Prop} (h1:args.any (·.1)=false) (h2:kws.any (·.1.isNone)=false)
  (h:wpAny M A (evalArgs (.type T) true args kws) (fun a s'=>wpAny M A (call (.type T) a.pos a.kw) Q E s') E s):wpAny M A (callWith pos (.type T) [] args kws) Q E s:=by
 unfold callWith
 refine wpAny_bind (wpAny_holding (wpAny_mono h (fun a s' h'=>wpAny_bind (wpAny_standAt ?_)) fun _ _ z=>z))
 simp only [h1,h2,Bool.or_false]
 exact wpAny_bind (wpAny_pure (wpAny_bind (wpAny_mono h' (fun r s2 hr=>wpAny_bind (wpAny_holding (wpAny_point (wpAny_pure hr)))) fun _ _ z=>z)))
end
theorem Ka {X:Cx}{l:Expr}{ta:TA}{elts:List Expr}{x1 j:Nat}{tpos p pos kp vp:Pos} (hg:Gl X "enumerate") (hm:X.mg "enumerate"=none) (ha:PA X [l] ta) (hs:starEach [l] X.env=[(false,eval l X.env)]:=by rfl) :
  PI X (.Tuple elts x1 tpos) (.Call (.Name "enumerate" p) [l] [⟨some "start",.Constant (.int 1) j vp,kp⟩] pos) (J9 X.K ta):=by
 intro pins s σ H R I h
 have he:eval (.Call (.Name "enumerate" p) [l] [⟨some "start",.Constant (.int 1) j vp,kp⟩] pos) X.env=(do callWith pos (←eval (.Name "enumerate" p) X.env) [] (backTo pos (starEach [l] X.env)) (backToKw pos (keywordEach [⟨some "start",.Constant (.int 1) j vp,kp⟩] X.env))):=rfl
 rw [he]
 refine wpAny_bind (o9 I hg hm boot_enumerate (cw_typeKw (by rw [hs];rfl) rfl ?_))
 have hb:backTo pos (starEach [l] X.env)=[(false,eval l X.env)]:=by rw [hs];rfl
 have ha':=ha pos pins s σ H _ I h
 rw [hb] at ha' ⊢
 refine evalArgs_kwB rfl (thn ha' fun us s1 ⟨vs,H1,I1,r1,q1⟩=>?_)
 refine kws_cons (thn (au (X:=X) pins s1 σ H1 (fun x H2=>x=.int 1∧H2=H1) I1 ⟨rfl,rfl⟩) fun v s2 ⟨x,H2,I2,r2,ex,eH⟩=>kws_nil ?_)
 subst ex eH
 obtain ⟨tk,rfl⟩:=r2
 obtain ⟨a,e,⟨xs,hq⟩,q⟩:=q1
 subst e
 cases r1 with
 | cons r rr =>
  cases rr
  cases r
  obtain ⟨its,rv,p,hz⟩:=I2.list hq
  refine Dn (t:=tk) p.isList fun h1 he hit hsz hk=>?_
  refine wpAny_pyIter_enum he ?_
  have I3:Inv X pins σ H2 { s2 with heap:=h1 }:=I2.kept (t':=s2.toks) hk
  refine ⟨s2.heap.objs.size+1,[s2.heap.objs.size+1,s2.heap.objs.size],_,_,H2,rfl,I3,Do a _ _ (by simp),⟨⟨_,he⟩,hit⟩,fun b hb=>?_,q⟩
  rcases Zao.mp hb with z | z
  ·subst z;exact I2.Ab (Nat.le_succ _) (I2.hok.fresh (Nat.le_succ _))
  ·have z:b=s2.heap.objs.size:=by simpa using z
   subst z;exact I2.Ab (Zaf _) (I2.hok.fresh (Zaf _))
namespace MP
section
variable {K:PySem.W.Frag}{C:Cg}{tA:TA}
noncomputable def iJ (l:List PV):List PV:=l.mapIdx fun (i:Nat) x=>.tup [.int ((i+1:Nat):Int),x]
noncomputable def zy:List PV->Option (Res (List PV))
 | [.lst l]=>some (.ok (iJ l))
 | _=>none
theorem Kc {f:Fn (List PV)} (h:MA K C tA f):MI K C (J9 K tA) (m1 zy f):=by
 intro F H σ ρ R' r R e P
 refine h.run R e P fun l xs F1 H1 hk u a=>?_
 match l,hk with
 | [.lst l],hk =>
  cases hk
  obtain ⟨v,ys,rfl,r1,r2⟩:=a.dO
  cases r2.gP
  obtain ⟨b,xs,rfl,h1,r1⟩:=Rep.dB r1
  have hl:(iJ l).length=l.length:=by simp [iJ]
  refine ⟨b,rfl,⟨xs,u.fh.seq h1⟩,P _ F1 H1 u ⟨fun F' H' s s'=>?_,fun i F' H' hi s s'=>?_,fun i F' H' x H'' hi s s' y=>?_⟩⟩
  ·exact ⟨xs,(s.trans s').seq h1,by rw [hl,r1.1];exact Zaf _⟩
  ·rw [hl] at hi
   exact ⟨xs,xs[i]'(by rw [r1.1];exact hi),(s.trans s').seq h1,by simp⟩
  ·obtain ⟨p,y,hp,rfl,rfl,hy⟩:=y
   have e:=hy xs ((s.trans s').seq h1)
   obtain ⟨q,e2,rq⟩:=r1.got e
   have un:=Up.new (o:=.tup [.int ((i+1:Nat):Int),y]) s' hp
   refine ⟨_,.tup [.int ((i+1:Nat):Int),q],un,?_,.tup aX rfl fun j x p hx hp'=>?_⟩
   ·unfold iJ
    rw [Zbf,e2]
    rfl
   ·match j with
    | 0=>simp at hx hp';subst hx hp';exact .int
    | 1=>simp at hx hp';subst hx hp';exact rq.up (s.trans un.ff)
    | j+2=>simp at hx
end
end MP
open PySem PySem.Spec PyProof PyProof.Rows
section
variable {K:Type} [DecidableEq K]
variable {prog:Program}{w:World}{knd:HeapKind prog w K}{A:Around}{E:Value->Shared->Prop}{s:Shared}{d a:Addr}{k:K}{xs:List (K×Addr×Value)}{p:Addr×Value}
end
theorem KT.drop {H:Hp}{kvs:List (List Key×V)}{xs:List (List Key×Addr×Value)} (r:KT H kvs xs) (k:List Key):KT H (xT kvs k) (xs.filter fun x=>decide (x.1≠k)):=by
 unfold KT at r ⊢
 unfold xT
 induction r with
 | nil=>exact .nil
 | @cons p q ps qs h t ih =>
  rw [ZaY,ZaY]
  by_cases e:p.1=k
  ·have a:¬decide (p.1≠k)=true:=by simp [e]
   have b:¬decide (q.1≠k)=true:=by simp [h.1.symm.trans e]
   rw [if_neg a,if_neg b];exact ih
  ·have e':¬q.1=k:=fun z=>e (h.1.trans z)
   have a:decide (p.1≠k)=true:=by simp [e]
   have b:decide (q.1≠k)=true:=by simp [e']
   rw [if_pos a,if_pos b];exact .cons h ih
section
variable {X:Cx}{pins:List (Addr×Obj)}{σ:St}{H:Hp}{s:Shared}{a b:Addr}{kvs:List (List Key×V)}{k:List Key}{A:Around}{E:Value->Shared->Prop}
end
section
variable {X:Cx}{o e:Expr}{apos cpos:Pos}{td ty:TE}
end
namespace MP
section
variable {K:PySem.W.Frag}{C:Cg}
theorem gh.drop {κ:Type} [DecidableEq κ] {F:Hp}{xs:List (κ×V)}{l:List (κ×PV)} (h:gh K F xs l) (k:κ):gh K F (xT xs k) (l.filter fun e=>decide (e.1≠k)):=by
 unfold xT
 induction h with
 | nil=>exact .nil
 | @cons a v p xs l h t ih =>
  rw [ZaY,ZaY]
  by_cases e:a=k
  ·rw [if_neg (by simp [e]),if_neg (by simp [e])];exact ih
  ·rw [if_pos (by simp [e]),if_pos (by simp [e])];exact .cons h ih
end
end MP
open PySem PySem.Spec PySem.W PyProof PyProof.Rows
section
variable {X:Cx}
end
namespace MP
section
variable {K:PySem.W.Frag}{C:Cg}
end
end MP
end L2
namespace L2.MP
open PySem PySem.Spec PyProof.Rows
section
variable {K:PySem.W.Frag}{C:Cg}{te ta tb:TE}{F F1 F2 H H1 H2:Hp}{σ:St}{ρ:Rho}{D:Ends}{S:Addr->Prop}{v:V}{p:PV}
end
end L2.MP
namespace L2
open PySem PySem.Spec PyProof PyProof.Rows
section
variable {X:Cx}{pins:List (Addr×Obj)}{σ:St}{H:Hp}{s:Shared}{a:Addr}{kvs:List (Key×V)}{k:Key}{z:V}{u r:Value}{A:Around}{E:Value->Shared->Prop}
end
section
variable {X:Cx}{o e f:Expr}{apos cpos:Pos}{td ty tz:TE}
end
namespace MP
noncomputable def Hv (K:PySem.W.Frag) (C:Cg) (F:Hp) (D:Ends) (ks:List Nat) (σ0:St):Out->Prop
 | .nx ρ=>∀ F' H' σ,bh F F'->RE K C.toCf F' H' σ ρ->(∀ k∈ks,σ[k]?=σ0[k]?)->D.nx σ H'
 | .bk ρ=>∀ F' H' σ,bh F F'->RE K C.toCf F' H' σ ρ->(∀ k∈ks,σ[k]?=σ0[k]?)->D.bk σ H'
 | .ct ρ=>∀ F' H' σ,bh F F'->RE K C.toCf F' H' σ ρ->(∀ k∈ks,σ[k]?=σ0[k]?)->D.ct σ H'
 | o=>PO' K C F D o
section
variable {K:PySem.W.Frag}{C:Cg}{ks:List Nat}{te tb:TE}{F H:Hp}{σ σ0:St}{ρ:Rho}{D:Ends}{t u:TS}{f g:Sn}{o:Out}
theorem Hv.up {F1:Hp} (h:Hv K C F D ks σ0 o) (s:bh F F1):Hv K C F1 D ks σ0 o:=by
 cases o with
 | nx ρ=>exact fun F' H' σ a=>h F' H' σ (s.trans a)
 | bk ρ=>exact fun F' H' σ a=>h F' H' σ (s.trans a)
 | ct ρ=>exact fun F' H' σ a=>h F' H' σ (s.trans a)
 | rt p=>exact fun v F' H' a=>h v F' H' (s.trans a)
 | ro p=>exact fun v F' H' a=>h v F' H' (s.trans a)
 | rd p=>exact fun v F' H' S a=>h v F' H' S (s.trans a)
 | ex z=>exact PX.up h s
theorem Hv.of {σ1:St} (h:Hv K C F D ks σ0 o) (k:∀ i∈ks,σ1[i]?=σ0[i]?):Hv K C F D ks σ1 o:=by
 cases o with
 | nx ρ=>exact fun F' H' σ a R q=>h F' H' σ a R fun i hi=>(q i hi).trans (k i hi)
 | bk ρ=>exact fun F' H' σ a R q=>h F' H' σ a R fun i hi=>(q i hi).trans (k i hi)
 | ct ρ=>exact fun F' H' σ a R q=>h F' H' σ a R fun i hi=>(q i hi).trans (k i hi)
 | rt p=>exact h
 | ro p=>exact h
 | rd p=>exact h
 | ex z=>exact h
end
end MP
end L2
namespace L2.MP
open PySem PySem.Spec PyProof.Rows
section
variable {K:PySem.W.Frag}{F F1 F2 H H1 H2:Hp}{S:Addr->Prop}{v:V}{p:PV}
end
section
variable {κ:Type} [DecidableEq κ]
end
section
variable {K:PySem.W.Frag}{io:Addr->Prop}{H0 F0 F H Hb F2 H2:Hp}{σ σ2:St}{ρ ρ2:Rho}{P:Nat->Addr->Prop}{i g:Nat}{b:Addr}{c:List (List Key×PV)}{p:PV}
end
section
variable {K:PySem.W.Frag}{io:Addr->Prop}{H0 F0 F H F2 H2:Hp}{σ σ2:St}{ρ ρ2:Rho}{i s:Nat}{a:Addr}{xs:List V}{l:List PV}
end
end L2.MP
namespace L2.TS
open PySem PySem.Spec PyProof.Rows
section
variable {prog:Program}{w:World}{A:Around}{E:Value->Shared->Prop}{s:Shared}{κ:SortKind}{D:Keyed->Prop}{r:Keyed->Nat}{st:SortSt}{left:Bool}{key x y:Keyed}{arr:Array Keyed}{base n hint:Nat}
end
section
variable {r:Keyed->Nat}{la lb out:List Keyed}{ia ib:Nat}
noncomputable def Srt (r:Keyed->Nat) (l:List Keyed):Prop:=l.Pairwise fun x y=>r x < r y
structure Mg (r:Keyed->Nat) (la lb out:List Keyed) (ia ib:Nat):Prop where
 so:Srt r out
 lt:∀ o∈out,∀ z∈la.drop ia++lb.drop ib,r o < r z
 pm:out.Perm (la.take ia++lb.take ib)
theorem Mg.as (h:Mg r la lb out ia ib) (sa:Srt r la) (k:Nat) (hk:∀ x∈(la.drop ia).take k,∀ y∈lb.drop ib,r x < r y):Mg r la lb (out++(la.drop ia).take k) (ia+k) ib:=by
 have sd:Srt r (la.drop ia):=ZaI (Zbu _ _) sa
 have e:la.drop (ia+k)=(la.drop ia).drop k:=by rw [List.drop_drop]
 refine ⟨ZaG.mpr ⟨h.so,ZaI (Zba _ _) sd,fun o ho x hx=>h.lt o ho x (Zae.mpr (.inl (Zaz hx)))⟩,fun o ho z hz=>?_,?_⟩
 ·rw [e] at hz
  rcases Zae.mp ho with q | q
  ·refine h.lt o q z ?_
   rcases Zae.mp hz with w | w
   ·exact Zae.mpr (.inl (ZaJ w))
   ·exact Zae.mpr (.inr w)
  ·rcases Zae.mp hz with w | w
   ·have:=sd
    rw [←ZaL k (la.drop ia)] at this
    exact (ZaG.mp this).2.2 o q z w
   ·exact hk o q z w
 ·rw [List.take_add]
  refine (h.pm.append_right _).trans ?_
  rw [ZaA,ZaA]
  exact Zbn _ Zbo
theorem Mg.bs (h:Mg r la lb out ia ib) (sb:Srt r lb) (k:Nat) (hk:∀ y∈(lb.drop ib).take k,∀ x∈la.drop ia,r y < r x):Mg r la lb (out++(lb.drop ib).take k) ia (ib+k):=by
 have sd:Srt r (lb.drop ib):=ZaI (Zbu _ _) sb
 have e:lb.drop (ib+k)=(lb.drop ib).drop k:=by rw [List.drop_drop]
 refine ⟨ZaG.mpr ⟨h.so,ZaI (Zba _ _) sd,fun o ho x hx=>h.lt o ho x (Zae.mpr (.inr (Zaz hx)))⟩,fun o ho z hz=>?_,?_⟩
 ·rw [e] at hz
  rcases Zae.mp ho with q | q
  ·refine h.lt o q z ?_
   rcases Zae.mp hz with w | w
   ·exact Zae.mpr (.inl w)
   ·exact Zae.mpr (.inr (ZaJ w))
  ·rcases Zae.mp hz with w | w
   ·exact hk o q z w
   ·have:=sd
    rw [←ZaL k (lb.drop ib)] at this
    exact (ZaG.mp this).2.2 o q z w
 ·rw [List.take_add,←ZaA]
  exact h.pm.append_right _
theorem Mg.end (h:Mg r la lb out ia ib) (sa:Srt r la) (sb:Srt r lb) (hk:∀ x∈la.drop ia,∀ y∈lb.drop ib,r x < r y):Srt r (out++la.drop ia++lb.drop ib)∧(out++la.drop ia++lb.drop ib).Perm (la++lb):=by
 refine ⟨?_,?_⟩
 ·rw [ZaA]
  refine ZaG.mpr ⟨h.so,ZaG.mpr ⟨ZaI (Zbu _ _) sa,ZaI (Zbu _ _) sb,hk⟩,h.lt⟩
 ·have e:(la++lb).Perm (la.take ia++lb.take ib++(la.drop ia++lb.drop ib)):=by
   conv=>lhs;rw [←ZaL ia la,←ZaL ib lb]
   simp only [ZaA]
   refine Zbn _ ?_
   rw [←ZaA,←ZaA]
   exact List.Perm.append_right _ Zbo
  rw [ZaA]
  exact (h.pm.append_right _).trans e.symm
end
noncomputable abbrev S7:=Option (Array Keyed)×Array Keyed×Nat×Nat×Nat×Nat×Nat
section
variable {prog:Program}{w:World}{A:Around}{E:Value->Shared->Prop}{s:Shared}{κ:SortKind}{D:Keyed->Prop}{r:Keyed->Nat}{st:SortSt}{a b:Array Keyed}
structure Uk (D:Keyed->Prop) (r:Keyed->Nat) (a b:Array Keyed):Prop where
 da:∀ x∈a.toList,D x
 db:∀ x∈b.toList,D x
 sa:Srt r a.toList
 sb:Srt r b.toList
 ne:∀ x∈a.toList,∀ y∈b.toList,r x≠r y
 la:∀ x,a.toList[a.size - 1]?=some x->∀ y∈b.toList,r y < r x
noncomputable def Good (r:Keyed->Nat) (a b out:Array Keyed):Prop:=Srt r out.toList∧out.toList.Perm (a.toList++b.toList)
structure In (r:Keyed->Nat) (a b out:Array Keyed) (ia ib:Nat):Prop where
 mg:Mg r a.toList b.toList out.toList ia ib
 ha:ia+1 < a.size
 hb:ib < b.size
noncomputable def P7 (r:Keyed->Nat) (a b:Array Keyed) (n:Nat):ForInStep S7->Prop
 | .done (some o,_)=>Good r a b o
 | .done (none,out,ia,ib,_)=>In r a b out ia ib∧n≤ia+ib
 | .yield (none,out,ia,ib,_)=>In r a b out ia ib∧n≤ia+ib
 | .yield (some _,_)=>False
end
section
variable {prog:Program}{w:World}{A:Around}{E:Value->Shared->Prop}{s:Shared}{κ:SortKind}{D:Keyed->Prop}{r:Keyed->Nat}{st:SortSt}{a b:Array Keyed}
theorem P7.mono {n m:Nat} (h:n≤m):∀ {c:ForInStep S7},P7 r a b m c->P7 r a b n c
 | .done (some _,_),p=>p
 | .done (none,_,_,_,_),p=>⟨p.1,Zad h p.2⟩
 | .yield (none,_,_,_,_),p=>⟨p.1,Zad h p.2⟩
 | .yield (some _,_),p=>p
end
section
variable {prog:Program}{w:World}{A:Around}{E:Value->Shared->Prop}{s:Shared}{κ:SortKind}{D:Keyed->Prop}{r:Keyed->Nat}{st:SortSt}{a b:Array Keyed}
end
noncomputable abbrev T7:=Option (Array Keyed)×Nat×Nat×Array Keyed×Nat×Nat×Nat
noncomputable abbrev T6:=Option (Array Keyed)×Nat×Nat×Array Keyed×Nat×Nat
noncomputable abbrev T5:=Option (Array Keyed)×Nat×Nat×Array Keyed×Nat
section
variable {r:Keyed->Nat}{la lb out:List Keyed}{na nb:Nat}
structure Mh (r:Keyed->Nat) (la lb out:List Keyed) (na nb:Nat):Prop where
 so:Srt r out.reverse
 lt:∀ o∈out,∀ z∈la.take na++lb.take nb,r z < r o
 pm:out.Perm (la.drop na++lb.drop nb)
theorem wj (l:List Keyed) {i j:Nat} (h:i≤j):l.drop i=(l.take j).drop i++l.drop j:=by
 conv=>lhs;rw [←ZaL j l]
 by_cases q:j≤l.length
 ·rw [List.drop_append_of_le_length (by simp;omega)]
 ·rw [show l.drop j=[] from ZbC (by omega),ZaE,ZaE]
theorem Mh.as (h:Mh r la lb out na nb) (sa:Srt r la) {i:Nat} (hi:i≤na) (hk:∀ x∈(la.take na).drop i,∀ y∈lb.take nb,r y < r x):Mh r la lb (out++((la.take na).drop i).reverse) i nb:=by
 have st:Srt r (la.take na):=ZaI (Zba _ _) sa
 have e:la.take i=(la.take na).take i:=by rw [List.take_take,Zbk hi]
 have sp:Srt r ((la.take na).take i++(la.take na).drop i):=by rw [ZaL];exact st
 refine ⟨?_,fun o ho z hz=>?_,?_⟩
 ·rw [List.reverse_append,List.reverse_reverse]
  exact ZaG.mpr ⟨ZaI (Zbu _ _) st,h.so,fun x hx o ho=>h.lt o (List.mem_reverse.mp ho) x (Zae.mpr (.inl (ZaJ hx)))⟩
 ·rw [e] at hz
  rcases Zae.mp ho with q | q
  ·refine h.lt o q z ?_
   rcases Zae.mp hz with w | w
   ·exact Zae.mpr (.inl (Zaz w))
   ·exact Zae.mpr (.inr w)
  ·have q:=List.mem_reverse.mp q
   rcases Zae.mp hz with w | w
   ·exact (ZaG.mp sp).2.2 z w o q
   ·exact hk o q z w
 ·rw [wj la hi,ZaA]
  refine (List.Perm.append h.pm (List.reverse_perm _)).trans ?_
  exact Zbo
theorem Mh.bs (h:Mh r la lb out na nb) (sb:Srt r lb) {i:Nat} (hi:i≤nb) (hk:∀ y∈(lb.take nb).drop i,∀ x∈la.take na,r x < r y):Mh r la lb (out++((lb.take nb).drop i).reverse) na i:=by
 have st:Srt r (lb.take nb):=ZaI (Zba _ _) sb
 have e:lb.take i=(lb.take nb).take i:=by rw [List.take_take,Zbk hi]
 have sp:Srt r ((lb.take nb).take i++(lb.take nb).drop i):=by rw [ZaL];exact st
 refine ⟨?_,fun o ho z hz=>?_,?_⟩
 ·rw [List.reverse_append,List.reverse_reverse]
  exact ZaG.mpr ⟨ZaI (Zbu _ _) st,h.so,fun x hx o ho=>h.lt o (List.mem_reverse.mp ho) x (Zae.mpr (.inr (ZaJ hx)))⟩
 ·rw [e] at hz
  rcases Zae.mp ho with q | q
  ·refine h.lt o q z ?_
   rcases Zae.mp hz with w | w
   ·exact Zae.mpr (.inl w)
   ·exact Zae.mpr (.inr (Zaz w))
  ·have q:=List.mem_reverse.mp q
   rcases Zae.mp hz with w | w
   ·exact hk o q z w
   ·exact (ZaG.mp sp).2.2 z w o q
 ·rw [wj lb hi]
  refine (List.Perm.append h.pm (List.reverse_perm _)).trans ?_
  rw [ZaA]
  refine Zbn _ ?_
  exact Zbo
theorem Qv (la lb:List Keyed) (na nb:Nat):(la.take na++lb.take nb++(la.drop na++lb.drop nb)).Perm (la++lb):=by
 conv=>rhs;rw [←ZaL na la,←ZaL nb lb]
 simp only [ZaA]
 refine Zbn _ ?_
 rw [←ZaA,←ZaA]
 exact List.Perm.append_right _ Zbo
theorem Mh.end (h:Mh r la lb out na nb) (sa:Srt r la) (sb:Srt r lb) (hk:∀ x∈la.take na,∀ y∈lb.take nb,r x < r y):Srt r (la.take na++lb.take nb++out.reverse)∧(la.take na++lb.take nb++out.reverse).Perm (la++lb):=by
 refine ⟨ZaG.mpr ⟨ZaG.mpr ⟨ZaI (Zba _ _) sa,ZaI (Zba _ _) sb,hk⟩,h.so,fun z hz o ho=>h.lt o (List.mem_reverse.mp ho) z hz⟩,?_⟩
 exact (Zbn _ ((List.reverse_perm _).trans h.pm)).trans (Qv la lb na nb)
end
section
variable {prog:Program}{w:World}{A:Around}{E:Value->Shared->Prop}{s:Shared}{κ:SortKind}{D:Keyed->Prop}{r:Keyed->Nat}{st:SortSt}{a b:Array Keyed}
structure Ul (D:Keyed->Prop) (r:Keyed->Nat) (a b:Array Keyed):Prop where
 da:∀ x∈a.toList,D x
 db:∀ x∈b.toList,D x
 sa:Srt r a.toList
 sb:Srt r b.toList
 ne:∀ x∈a.toList,∀ y∈b.toList,r x≠r y
 fb:∀ y,b.toList[0]?=some y->∀ x∈a.toList,r y < r x
structure Ih (r:Keyed->Nat) (a b out:Array Keyed) (na nb:Nat):Prop where
 mh:Mh r a.toList b.toList out.toList na nb
 a0:1≤na
 a1:na≤a.size
 b0:2≤nb
 b1:nb≤b.size
noncomputable def H7 (r:Keyed->Nat) (a b:Array Keyed) (n:Nat):ForInStep T7->Prop
 | .done (some o,_)=>Good r a b o
 | .done (none,na,nb,out,_)=>Ih r a b out na nb∧na+nb≤n
 | .yield (none,na,nb,out,_)=>Ih r a b out na nb∧na+nb≤n
 | .yield (some _,_)=>False
theorem H7.mono {n m:Nat} (h:n≤m):∀ {c:ForInStep T7},H7 r a b n c->H7 r a b m c
 | .done (some _,_),p=>p
 | .done (none,_,_,_,_),p=>⟨p.1,Zad p.2 h⟩
 | .yield (none,_,_,_,_),p=>⟨p.1,Zad p.2 h⟩
 | .yield (some _,_),p=>p
theorem Fy {l:List Keyed}{n:Nat}{x:Keyed} (h0:1≤n) (h:l[n - 1]?=some x):(l.take n).drop (n - 1)=[x]:=by
 have hi:=(Zap.mp h).1
 have e:l.take n=l.take (n - 1)++[x]:=by
  conv=>lhs;rw [show n=n - 1+1 by omega]
  rw [ZbB,h];rfl
 rw [e,List.drop_left' (by simp;omega)]
theorem Mh.a1 {out:Array Keyed}{na nb:Nat}{x:Keyed} (m:Mh r a.toList b.toList out.toList na nb) (sa:Srt r a.toList) (h0:1≤na) (ex:a.toList[na - 1]?=some x) (hx:∀ y∈b.toList.take nb,r y < r x):Mh r a.toList b.toList (out.push x).toList (na - 1) nb:=by
 have:=m.as sa (i:=na - 1) (by omega) (by rw [Fy h0 ex];intro z hz;rw [ZaF.mp hz];exact hx)
 rw [Fy h0 ex] at this
 rw [Array.toList_push];exact this
theorem Mh.b1 {out:Array Keyed}{na nb:Nat}{y:Keyed} (m:Mh r a.toList b.toList out.toList na nb) (sb:Srt r b.toList) (h0:1≤nb) (ey:b.toList[nb - 1]?=some y) (hy:∀ x∈a.toList.take na,r x < r y):Mh r a.toList b.toList (out.push y).toList na (nb - 1):=by
 have:=m.bs sb (i:=nb - 1) (by omega) (by rw [Fy h0 ey];intro z hz;rw [ZaF.mp hz];exact hy)
 rw [Fy h0 ey] at this
 rw [Array.toList_push];exact this
noncomputable def H6 (r:Keyed->Nat) (a b:Array Keyed) (n:Nat):ForInStep T6->Prop
 | .done (some o,_)=>Good r a b o
 | .done (none,na,nb,out,_)=>Ih r a b out na nb∧na+nb≤n
 | .yield (none,na,nb,out,_)=>Ih r a b out na nb∧na+nb≤n
 | .yield (some _,_)=>False
noncomputable def H5 (r:Keyed->Nat) (a b:Array Keyed) (n:Nat):ForInStep T5->Prop
 | .done (some o,_)=>Good r a b o
 | .done (none,_)=>False
 | .yield (none,na,nb,out,_)=>Ih r a b out na nb∧na+nb≤n
 | .yield (some _,_)=>False
end
section
variable {prog:Program}{w:World}{A:Around}{E:Value->Shared->Prop}{s:Shared}{κ:SortKind}{D:Keyed->Prop}{r:Keyed->Nat}{st:SortSt}
noncomputable def Unl (r:Keyed->Nat) (l:List Keyed):Prop:=l.Pairwise fun x y=>r x≠r y
end
noncomputable def Rk (r:Keyed->Nat) (a:Array Keyed) (k:Nat):Nat:=match a[k]? with
 | some x=>r x
 | none=>0
noncomputable def Dq (r:Keyed->Nat) (a:Array Keyed) (i j:Nat):Prop:=∀ p q,i≤p->p < q->q < j->Rk r a p < Rk r a q
theorem O1 {r:Keyed->Nat}{a b:Array Keyed}{i j:Nat} (h:a[i]?=b[j]?):Rk r a i=Rk r b j:=by unfold Rk;rw [h]
theorem Td {r:Keyed->Nat}{a:Array Keyed}{k:Nat}{x:Keyed} (h:a[k]?=some x):Rk r a k=r x:=by unfold Rk;rw [h]
section
variable {prog:Program}{w:World}{A:Around}{E:Value->Shared->Prop}{s:Shared}{κ:SortKind}{D:Keyed->Prop}{r:Keyed->Nat}{st:SortSt}
structure Bs (D:Keyed->Prop) (r:Keyed->Nat) (a:Array Keyed):Prop where
 dm:∀ (k:Nat) x,a[k]?=some x->D x
 un:∀ p q,p < q->q < a.size->Rk r a p≠Rk r a q
theorem Bs.of {a:Array Keyed} (d:∀ x∈a.toList,D x) (u:Unl r a.toList):Bs D r a:=by
 refine ⟨fun k x h=>d x (Zau (by rw [Array.getElem?_toList];exact h)),fun p q h1 h2=>?_⟩
 have:=Zbs.mp u p q (by simp;omega) (by simp;omega) h1
 have e:∀ k (hk:k < a.size),Rk r a k=r (a.toList[k]'(by simpa using hk)):=fun k hk=>Td (by rw [Zbr hk,Array.getElem_toList])
 rw [e p (by omega),e q h2]
 exact this
theorem Unl.perm {l m:List Keyed} (u:Unl r l) (p:m.Perm l):Unl r m:=(p.pairwise_iff (fun h=>Za4 h)).mpr u
theorem Bs.perm {a b:Array Keyed} (d:∀ x∈a.toList,D x) (u:Unl r a.toList) (p:b.Perm a):Bs D r b :=
 have p:=Array.perm_iff_toList_perm.mp p
 Bs.of (fun x hx=>d x (p.mem_iff.mp hx)) (u.perm p)
theorem Dq.snoc {a:Array Keyed}{i j:Nat} (h:Dq r a i j) (hij:i < j) (l:Rk r a (j - 1) < Rk r a j):Dq r a i (j+1):=fun p q h1 h2 h3=>by
 by_cases e:q=j
 ·subst e
  by_cases e2:p=q - 1
  ·rw [e2];exact l
  ·exact Nat.lt_trans (h p (q - 1) h1 (by omega) (by omega)) l
 ·exact h p q h1 h2 (by omega)
end
noncomputable abbrev Pd:=Nat×Nat×Nat
noncomputable def Rn (r:Keyed->Nat) (a:Array Keyed):Nat->List Pd->Nat->Prop
 | s,[],e=>s=e
 | s,x::l,e=>x.1=s∧1≤x.2.1∧Dq r a s (s+x.2.1)∧Rn r a (s+x.2.1) l e
section
variable {r:Keyed->Nat}{a b:Array Keyed}
theorem Rn.le:∀ {l:List Pd}{s e:Nat},Rn r a s l e->s+l.length≤e
 | [],s,e,h=>by cases h;simp
 | x::l,s,e,h=>by
  have:=h.2.2.2.le
  have:=h.2.1
  simp only [Zak]
  omega
theorem Dq.congr {i j:Nat} (h:∀ k,i≤k->k < j->b[k]?=a[k]?) (S:Dq r a i j):Dq r b i j:=fun p q h1 h2 h3=>by
 rw [O1 (h p h1 (by omega)),O1 (h q (by omega) h3)]
 exact S p q h1 h2 h3
theorem Rn.congr:∀ {l:List Pd}{s e:Nat},(∀ k,s≤k->k < e->b[k]?=a[k]?)->Rn r a s l e->Rn r b s l e
 | [],_,_,_,h=>h
 | x::l,s,e,hk,⟨h1,h2,h3,h4⟩=>by
  have:=h4.le
  exact ⟨h1,h2,h3.congr fun k g1 g2=>hk k g1 (by omega),Rn.congr (fun k g1 g2=>hk k (by omega) g2) h4⟩
end
section
variable {prog:Program}{w:World}{A:Around}{E:Value->Shared->Prop}{s:Shared}{κ:SortKind}{D:Keyed->Prop}{r:Keyed->Nat}{st:SortSt}{a0:Array Keyed}
structure Rs (κ:SortKind) (r:Keyed->Nat) (a0:Array Keyed) (lo:Nat) (st:SortSt):Prop where
 kd:kindOf st=κ
 fl:failedOf st=none
 pm:(arrOf st).Perm a0
 rn:Rn r (arrOf st) 0 (pendingOf st).toList lo
 le:lo≤a0.size
end
section
variable {prog:Program}{w:World}{A:Around}{E:Value->Shared->Prop}{s:Shared}{κ:SortKind}{D:Keyed->Prop}{r:Keyed->Nat}{st:SortSt}{a0:Array Keyed}
theorem Rn.mod {a:Array Keyed}{f:Pd->Pd} (hf:∀ x,(f x).1=x.1∧(f x).2.1=x.2.1):∀ {l:List Pd}{i s e:Nat},Rn r a s l e->Rn r a s (l.modify i f) e
 | [],_,_,_,h=>by simpa using h
 | x::l,0,s,e,⟨h1,h2,h3,h4⟩=>by
  rw [List.modify_zero_cons]
  exact ⟨(hf x).1.trans h1,by rw [(hf x).2];exact h2,by rw [(hf x).2];exact h3,by rw [(hf x).2];exact h4⟩
 | x::l,i+1,s,e,⟨h1,h2,h3,h4⟩=>by
  rw [List.modify_succ_cons]
  exact ⟨h1,h2,h3,Rn.mod hf h4⟩
end
end L2.TS
namespace L2
open PySem PySem.Spec PyProof PyProof.Rows
section
variable {K:Type} [DecidableEq K] {prog:Program}{w:World}{knd:HeapKind prog w K}{A:Around}{E:Value->Shared->Prop}{s:Shared}{d a:Addr}{k:K}{xs:List (K×Addr×Value)}
end
section
variable {X:Cx}{pins:List (Addr×Obj)}{σ:St}{H:Hp}{s:Shared}{a b:Addr}{kvs:List (List Key×V)}{k:List Key}{z:V}{r:Value}{A:Around}{E:Value->Shared->Prop}
end
section
variable {X:Cx}{o e f:Expr}{apos cpos:Pos}{td ty tz:TE}
end
namespace MP
section
variable {K:PySem.W.Frag}{C:Cg}{te tb:TE}{F F1 F2 H H1 H2:Hp}{σ:St}{ρ:Rho}{D:Ends}{S:Addr->Prop}{v:V}{p:PV}
end
end MP
open PySem PySem.Spec PySem.W PyProof PyProof.Rows
noncomputable abbrev Sk:=Str×List Int
noncomputable def ltI:List Int->List Int->Bool
 | a::l,b::m=>if a=b then ltI l m else decide (a < b)
 | _,_=>false
noncomputable def jm (p q:Sk):Bool:=if p.1=q.1 then ltI p.2 q.2 else decide (p.1.cps.toList < q.1.cps.toList)
theorem wk:∀ l,ltI l l=false
 | []=>rfl
 | a::l=>by unfold ltI;rw [if_pos rfl];exact wk l
theorem yf:∀ {l m n:List Int},ltI l m=true->ltI m n=true->ltI l n=true
 | a::l,b::m,c::n,h1,h2=>by
  unfold ltI at h1 h2 ⊢
  by_cases e1:a=b
  ·rw [if_pos e1] at h1
   by_cases e2:b=c
   ·rw [if_pos e2] at h2;rw [if_pos (e1.trans e2)];exact yf h1 h2
   ·rw [if_neg e2] at h2;rw [if_neg (fun z=>e2 (e1.symm.trans z)),e1];exact h2
  ·rw [if_neg e1] at h1
   have h1:=of_decide_eq_true h1
   by_cases e2:b=c
   ·rw [if_neg (fun z=>e1 (z.trans e2.symm)),←e2];exact decide_eq_true h1
   ·rw [if_neg e2] at h2
    have h2:=of_decide_eq_true h2
    rw [if_neg (by omega)]
    exact decide_eq_true (by omega)
 | [],_,_,h1,_=>by cases h1
 | _::_,[],_,h1,_=>by cases h1
 | _::_,_::_,[],_,h2=>by cases h2
theorem yg:∀ {l m:List Int},l.length=m.length->l≠m->ltI l m=true∨ltI m l=true
 | [],[],_,h=>absurd rfl h
 | a::l,b::m,hl,h=>by
  unfold ltI
  by_cases e:a=b
  ·subst e
   rw [if_pos rfl,if_pos rfl]
   exact yg (by simpa using hl) fun z=>h (by rw [z])
  ·rw [if_neg e,if_neg (Za4 e)]
   rcases Int.lt_or_gt_of_ne e with q | q
   ·exact .inl (decide_eq_true q)
   ·exact .inr (decide_eq_true q)
theorem Qw {a b:Str} (h:a≠b):a.cps.toList≠b.cps.toList:=fun e=>h (by
 cases a;cases b
 simp only [Str.mk.injEq]
 exact ZbA.mp e)
theorem Bq (p:Sk):jm p p=false:=by unfold jm;rw [if_pos rfl];exact wk _
theorem Dr {p q t:Sk} (h1:jm p q=true) (h2:jm q t=true):jm p t=true:=by
 unfold jm at h1 h2 ⊢
 by_cases e1:p.1=q.1
 ·rw [if_pos e1] at h1
  by_cases e2:q.1=t.1
  ·rw [if_pos e2] at h2;rw [if_pos (e1.trans e2)];exact yf h1 h2
  ·rw [if_neg e2] at h2;rw [if_neg (fun z=>e2 (e1.symm.trans z)),e1];exact h2
 ·rw [if_neg e1] at h1
  have h1:=of_decide_eq_true h1
  by_cases e2:q.1=t.1
  ·rw [if_neg (fun z=>e1 (z.trans e2.symm)),←e2];exact decide_eq_true h1
  ·rw [if_neg e2] at h2
   have h2:=of_decide_eq_true h2
   have h3:=List.lt_trans h1 h2
   rw [if_neg (fun z=>by rw [z] at h3;exact List.lt_irrefl _ h3)]
   exact decide_eq_true h3
theorem Ds {p q:Sk} (hl:p.2.length=q.2.length) (h:p≠q):jm p q=true∨jm q p=true:=by
 unfold jm
 by_cases e:p.1=q.1
 ·rw [if_pos e,if_pos e.symm]
  exact yg hl fun z=>h (Prod.ext e z)
 ·rw [if_neg e,if_neg (Za4 e)]
  by_cases q1:p.1.cps.toList < q.1.cps.toList
  ·exact .inl (decide_eq_true q1)
  ·refine .inr (decide_eq_true ?_)
   by_cases q2:q.1.cps.toList < p.1.cps.toList
   ·exact q2
   ·exact absurd (List.le_antisymm (List.not_lt.mp q2) (List.not_lt.mp q1)) (Qw e)
noncomputable def rkS (ps:List Sk) (i:Nat):Nat:=((List.range ps.length).filter fun j=>jm (ps.getD j default) (ps.getD i default)).length
structure MF (ps:List Sk) (m:Nat):Prop where
 nd:ps.Nodup
 ln:∀ p∈ps,p.2.length=m
section
variable {ps:List Sk}{m:Nat}
theorem Kd {i:Nat} (h:i < ps.length):ps.getD i default∈ps:=Zau (i:=i) (by rw [ZaD,Zac h];rfl)
theorem MF.inj (o:MF ps m) {i j:Nat} (hi:i < ps.length) (hj:j < ps.length) (e:ps.getD i default=ps.getD j default):i=j:=by
 have g:∀ i,i < ps.length->ps[i]?=some (ps.getD i default):=fun i h=>by rw [ZaD,Zac h];rfl
 exact (List.getElem?_inj hi o.nd).mp (by rw [g i hi,g j hj,e])
theorem O2 {i j:Nat} (hi:i < ps.length) (h:jm (ps.getD i default) (ps.getD j default)=true):rkS ps i < rkS ps j:=by
 unfold rkS
 have sub:((List.range ps.length).filter fun k=>jm (ps.getD k default) (ps.getD i default)).Sublist ((List.range ps.length).filter fun k=>jm (ps.getD k default) (ps.getD j default)):=by
  have e:((List.range ps.length).filter fun k=>jm (ps.getD k default) (ps.getD i default))=((List.range ps.length).filter fun k=>jm (ps.getD k default) (ps.getD j default)).filter fun k=>jm (ps.getD k default) (ps.getD i default):=by
   rw [List.filter_filter]
   refine List.filter_congr fun k _=>?_
   cases q:jm (ps.getD k default) (ps.getD i default) with
   | false=>rfl
   | true=>rw [Dr q h];rfl
  rw [e];exact List.filter_sublist
 refine Nat.lt_of_le_of_ne sub.length_le fun e=>?_
 have e:=sub.eq_of_length e
 have:i∈(List.range ps.length).filter fun k=>jm (ps.getD k default) (ps.getD j default):=List.mem_filter.mpr ⟨Zbh.mpr hi,h⟩
 rw [←e] at this
 have:=(List.mem_filter.mp this).2
 rw [Bq] at this
 cases this
theorem MF.lt (o:MF ps m) {i j:Nat} (hi:i < ps.length) (hj:j < ps.length):jm (ps.getD i default) (ps.getD j default)=decide (rkS ps i < rkS ps j):=by
 cases q:jm (ps.getD i default) (ps.getD j default) with
 | true=>exact (decide_eq_true (O2 hi q)).symm
 | false =>
  refine (decide_eq_false fun z=>?_).symm
  by_cases e:ps.getD i default=ps.getD j default
  ·rw [o.inj hi hj e] at z;omega
  ·rcases Ds (by rw [o.ln _ (Kd hi),o.ln _ (Kd hj)]) e with w | w
   ·rw [q] at w;cases w
   ·have:=O2 hj w;omega
end
open PySem PySem.Spec PySem.W PyProof PyProof.Rows
noncomputable def Hw (h:Heap) (v:Value) (p:Sk):Prop:=∃ a o t ys n,v=.ref a∧h.get? a=some o∧o.cls=.type "tuple"∧o.data=.seq (List.toArray (.str p.1 t::ys)) n∧IntsAre ys p.2
section
variable {prog:Program}{w:World}{A:Around}{E:Value->Shared->Prop}{s:Shared}{v u:Value}{p q:Sk}
theorem Hw.same {h h':Heap} (x:Hw h v p) (k:∀ a o,v=.ref a->h.get? a=some o->h'.get? a=some o):Hw h' v p:=by
 obtain ⟨a,o,t,ys,n,e,h1,h2⟩:=x
 exact ⟨a,o,t,ys,n,e,k a o e h1,h2⟩
theorem Br {Q:Bool->Shared->Prop}:∀ {ys zs:List Value}{ns ms:List Int} (i:Nat),IntsAre ys ns->IntsAre zs ms->ns.length=ms.length->Q (ltI ns ms) s->KatLex prog w A true false Q (ys.zip zs) (i+1) s
 | _,_,_,_,i,.nil,.nil,_,h=>kat_nil h
 | _,_,_,_,i,.cons n t h1,.cons m t' h2,hl,h=>by
  refine kat_cons (wpAny_eqBool_int ?_)
  by_cases d:n=m
  ·rw [beq_iff_eq.mpr d]
   refine kat_yes (Br (i+1) h1 h2 (by simpa using hl) ?_)
   unfold ltI at h
   rw [if_pos d] at h
   exact h
  ·rw [beq_eq_false_iff_ne.mpr d]
   refine kat_no ?_
   rw [show (true && i+1 == 0)=false by simp]
   unfold ltI at h
   rw [if_neg d] at h
   exact kat_one _ _ (lt_int h)
 | _,_,_,_,_,.nil,.cons ..,hl,_=>by simp at hl
 | _,_,_,_,_,.cons ..,.nil,hl,_=>by simp at hl
theorem wu:∀ {ys:List Value}{ns:List Int},IntsAre ys ns->ys.length=ns.length
 | _,_,.nil=>rfl
 | _,_,.cons _ _ h=>by simp [wu h]
theorem Hw.lt (hp:Hw s.heap v p) (hq:Hw s.heap u q) (hl:p.2.length=q.2.length) {Q:Bool->Shared->Prop} (h:Q (jm p q) s):wpAny (model prog w) A (keyLt' (tuples' true) v u) Q E s:=by
 obtain ⟨a,o,t,ys,n,rfl,e1,e2,e3,e4⟩:=hp
 obtain ⟨b,o',t',zs,n',rfl,f1,f2,f3,f4⟩:=hq
 refine kat_lt e1 e3 f1 f3 (kat_cons (wpAny_eqBool_str ?_))
 rw [show decide ((List.toArray (Value.str p.1 t::ys)).size < (List.toArray (Value.str q.1 t'::zs)).size)=false by
  refine decide_eq_false ?_
  simp [wu e4,wu f4,hl]]
 by_cases c:p.1=q.1
 ·rw [decide_eq_true c]
  refine kat_yes (Br 0 e4 f4 hl ?_)
  rw [show jm p q=ltI p.2 q.2 by unfold jm;rw [if_pos c]] at h
  exact h
 ·rw [decide_eq_false c]
  refine kat_no ?_
  show wpAny _ _ (oneLt' true _ _) _ _ _
  rw [show jm p q=decide (p.1.cps.toList < q.1.cps.toList) by unfold jm;rw [if_neg c]] at h
  exact oneLt_str h
end
open PySem PySem.Spec PySem.W PyProof PyProof.Rows
section
variable {X:Cx}
end
end L2
namespace L2.MP
open PySem PySem.Spec PySem.W PyProof PyProof.Rows
section
variable {K:PySem.W.Frag}{C:Cg}
end
end L2.MP
namespace L2
open PySem PySem.Spec PyProof PyProof.Rows
namespace MP
section
variable {K:PySem.W.Frag}{C:Cg}
end
end MP
section
variable {prog:Program}{w:World}{A:Around}{E:Value->Shared->Prop}{s:Shared}{d it:Addr}{es:Array DictEntry}{ep i:Nat}
end
namespace MP
section
variable {K:PySem.W.Frag}{C:Cg}
end
end MP
section
variable {prog:Program}{w:World}{A:Around}{E:Value->Shared->Prop}
end
section
variable {X:Cx}{pos:Pos}
end
namespace MP
section
variable {K:PySem.W.Frag}{C:Cg}
end
end MP
end L2
namespace L2.MP
section
variable {α:Type}{us:List α}
theorem len0 (h:us.length=0):us=[]:=List.length_eq_zero_iff.mp h
theorem Qx {n:Nat} (h:us.length=n+1):∃ a vs,us=a::vs∧vs.length=n:=by
 cases us with
 | nil=>cases h
 | cons a vs=>exact ⟨a,vs,rfl,Nat.succ.inj h⟩
theorem um (h:us.length=1):∃ a,us=[a]:=by
 obtain ⟨a,vs,rfl,h2⟩:=Qx h
 cases len0 h2
 exact ⟨a,rfl⟩
theorem xm (h:us.length=2):∃ a b,us=[a,b]:=by
 obtain ⟨a,vs,rfl,h2⟩:=Qx h
 obtain ⟨b,rfl⟩:=um h2
 exact ⟨a,b,rfl⟩
theorem Qy (h:us.length=3):∃ a b c,us=[a,b,c]:=by
 obtain ⟨a,vs,rfl,h2⟩:=Qx h
 obtain ⟨b,c,rfl⟩:=xm h2
 exact ⟨a,b,c,rfl⟩
end
end L2.MP
namespace L2
open PySem PySem.Spec PyProof PyProof.Rows
inductive LtK:List Key->List Key->Bool->Prop
 | nn:LtK [] [] false
 | nc (k:Key) (l:List Key):LtK [] (k::l) true
 | cn (k:Key) (l:List Key):LtK (k::l) [] false
 | eq (k:Key) {l m:List Key}{r:Bool} (h:LtK l m r):LtK (k::l) (k::m) r
 | int {i j:Int} (l m:List Key) (h:i≠j):LtK (.inl i::l) (.inl j::m) (decide (i < j))
 | str {i j:Str} (l m:List Key) (h:i≠j):LtK (.inr i::l) (.inr j::m) (decide (i.cps.toList < j.cps.toList))
section
open PySem.SeqAt
open PySem.AutoSeq1 (wpAny_loadPart')
open PySem.MeetsSeq PySem.MeetsSeq2 PySem.MeetsSeq3
end
end L2
namespace L2.MP
open PySem PySem.Spec PyProof PyProof.Rows
end L2.MP
namespace L2.SE
open PySem
noncomputable def Inc (xs:Array Nat):Prop:=xs.toList.Pairwise (· < ·)
theorem Inc.lt {xs:Array Nat} (h:Inc xs) {i j d e:Nat} (hij:i < j) (hj:j < xs.size):xs.getD i d < xs.getD j e:=by
 have q:=Zbs.mp h i j (by rw [Array.length_toList];omega) (by rw [Array.length_toList];exact hj) hij
 rw [Zbj,Zbj,Zbr (by omega),Zbr hj]
 simpa using q
structure Good (b:Bool) (t:SetTable):Prop where
 led:t.led=b
 dum:t.dummies=#[]
 inc:Inc t.place
theorem Dt (b:Bool):Good b (.fresh 0 0 b):=⟨rfl,rfl,List.Pairwise.nil⟩
open PySem PySem.Spec PyProof PyProof.Rows
section
variable {prog:Program}{w:World}{K:Type} [DecidableEq K] (knd:KeyKind prog w K)
noncomputable def Apart (l:List (Int×Value)):Prop:=l.Pairwise fun e f=>∀ k,knd.is k e.2=true->knd.is k f.2=true->False
structure Els (S:K->Bool) (es:Array (Int×Value)):Prop where
 el:ElemsOf knd es.toList
 ap:Apart knd es.toList
 mem:∀ k,S k=true↔∃ e∈es.toList,knd.is k e.2=true
noncomputable def Ke (h:Heap) (a:Addr) (b:Bool) (S:K->Bool) (n:Nat):Prop :=
 ∃ o es ep t,h.get? a=some o∧o.ExactSet∧o.data=.set es ep t∧Els knd S es∧es.size < scanBound∧t.fits es.size=true∧Good b t∧es.size≤n
variable {knd}{S:K->Bool}{A:Around}{E:Value->Shared->Prop}{s:Shared}{a:Addr}{b:Bool}{n:Nat}
theorem Els.perm {es es':Array (Int×Value)} (h:Els knd S es) (p:es'.toList.Perm es.toList):Els knd S es' :=
 ⟨h.el.perm p,(p.symm.pairwise_iff fun {x y} q k u v=>q k v u).mp h.ap,fun k=>(h.mem k).trans ⟨fun ⟨e,u,v⟩=>⟨e,p.mem_iff.mpr u,v⟩,fun ⟨e,u,v⟩=>⟨e,p.mem_iff.mp u,v⟩⟩⟩
theorem Els.push {es es':Array (Int×Value)} (h:Els knd S es) {k:K}{x:Value} (hk:knd.is k x=true) (hx:x.scannable=true) (hn:S k=false) (p:es'.toList.Perm (es.toList++[(knd.hash k,x)])):Els knd (fun k'=>S k' || decide (k'=k)) es':=by
 refine ⟨(h.el.push hk hx).perm p,(p.symm.pairwise_iff fun {x y} q k u v=>q k v u).mp (ZaG.mpr ⟨h.ap,List.pairwise_singleton _ _,fun e he f hf k' u v=>?_⟩),mem_push_iff hk h.mem p⟩
 rw [ZaF] at hf
 subst hf
 have e:k'=k:=knd.inj x k' k v hk
 subst e
 rw [(h.mem k').mpr ⟨_,he,u⟩] at hn
 cases hn
end
open PySem PySem.Spec PyProof PyProof.Rows
noncomputable abbrev Uc (b:Bool):Obj:={ cls:=.type "set",dict:=none,data:=.set #[] 0 (.fresh 0 0 b) }
section
variable {prog:Program}{w:World}{K:Type} [DecidableEq K] {knd:KeyKind prog w K}{S:K->Bool}{A:Around}{E:Value->Shared->Prop}{s:Shared}{a:Addr}{b:Bool}{n:Nat}
theorem Ke.at {h h':Heap} (x:Ke knd h a b S n) (e:∀ o,h.get? a=some o->h'.get? a=some o):Ke knd h' a b S n :=
 let ⟨o,es,ep,t,ho,r⟩:=x;⟨o,es,ep,t,e o ho,r⟩
theorem Ke.fresh {h:Heap}:Ke knd (h.push (Uc b)) h.objs.size b (fun _=>false) 0 :=
 ⟨_,#[],0,.fresh 0 0 b,Zam _ rfl,⟨rfl,rfl,rfl⟩,rfl,⟨fun e he=>by simp at he,List.Pairwise.nil,fun k=>by simp⟩,by decide,by rfl,Dt b,Zaf _⟩
noncomputable def seen (key:Nat->K) (i:Nat):K->Bool:=fun k=>(List.range i).any fun j=>decide (k=key j)
end
section
variable {prog:Program}{w:World}{K:Type} [DecidableEq K] {knd:KeyKind prog w K}{A:Around}{R:Result->Shared->Prop}{I:Addr}{fp wr:List Addr}{G:Array GenState->Array GenState->Prop}{n:Nat}{P:Nat->Value->Prop}{St:Nat->Shared->Prop}{b:Bool}
end
section
variable {prog:Program}{w:World}{K:Type} [DecidableEq K] {knd:KeyKind prog w K}{A:Around}{E:Value->Shared->Prop}{s:Shared}
end
open PySem PySem.Spec PyProof PyProof.Rows
noncomputable def Kf (h:Heap) (a:Addr) (es:Array (Int×Value)) (ep:Nat) (t:SetTable):Prop:=∃ o,h.get? a=some o∧o.cls=.type "set"∧o.data=.set es ep t
noncomputable def It (h:Heap) (I:Addr) (f:Value) (i:Nat) (a:Addr) (n ep:Nat):Prop:=∃ o,h.get? I=some o∧o.cls=.type "set_iterator"∧o.data=.fields #[f,.int i 0,.ref a,.int n 0,.int ep 0]
theorem It.typeIs {s:Shared}{I:Addr}{f:Value}{i:Nat}{a:Addr}{n ep:Nat} (x:It s.heap I f i a n ep):s.TypeIs (.ref I) "set_iterator":=let ⟨o,h,c,_⟩:=x;⟨o,h,c⟩
section
variable {prog:Program}{w:World}{A:Around}{E:Value->Shared->Prop}{s:Shared}{I a:Addr}{f:Value}{i ep:Nat}{es:Array (Int×Value)}{t:SetTable}
end
open PySem PySem.Spec PyProof PyProof.Rows
section
variable {prog:Program}{w:World}{A:Around}{E:Value->Shared->Prop}{s:Shared}{I a:Addr}{i ep:Nat}{es:Array (Int×Value)}{t:SetTable}
end
open PySem PySem.Spec PyProof PyProof.Rows
theorem It.at {h h':Heap}{I:Addr}{f:Value}{i:Nat}{a:Addr}{n ep:Nat} (x:It h I f i a n ep) (e:∀ o,h.get? I=some o->h'.get? I=some o):It h' I f i a n ep:=let ⟨o,q,r⟩:=x;⟨o,e o q,r⟩
theorem Kf.at {h h':Heap}{a:Addr}{es:Array (Int×Value)}{ep:Nat}{t:SetTable} (x:Kf h a es ep t) (e:∀ o,h.get? a=some o->h'.get? a=some o):Kf h' a es ep t:=let ⟨o,q,r⟩:=x;⟨o,e o q,r⟩
noncomputable def TupAt (h:Heap) (p:Addr) (xs:Array Value):Prop:=∃ o n,h.get? p=some o∧o.data=.seq xs n
theorem TupAt.at {h h':Heap}{p:Addr}{xs:Array Value} (x:TupAt h p xs) (e:∀ o,h.get? p=some o->h'.get? p=some o):TupAt h' p xs:=let ⟨o,n,q,r⟩:=x;⟨o,n,e o q,r⟩
section
variable {prog:Program}{w:World}{A:Around}{E:Value->Shared->Prop}{s:Shared}{I a:Addr}{i ep:Nat}{es:Array (Int×Value)}{t:SetTable}
noncomputable def itO (f:Value) (a:Addr) (n ep:Nat):Obj:={ cls:=.type "set_iterator",data:=.fields #[f,.int 0 0,.ref a,.int n 0,.int ep 0] }
end
open PySem PySem.Spec PyProof PyProof.Rows
noncomputable def slots (t:SetTable):Nat->Nat
 | 0=>0
 | i+1=>t.place.getD i 0+1
section
variable {prog:Program}{w:World}{K:Type} [DecidableEq K] {knd:KeyKind prog w K}{S:K->Bool}{A:Around}{E:Value->Shared->Prop}{s:Shared}{a:Addr}{n:Nat}{es:Array (Int×Value)}{t:SetTable}{ep:Nat}
end
end L2.SE
namespace L2
open PySem PySem.Spec PyProof PyProof.Rows
noncomputable def dd:List Int->List Int
 | []=>[]
 | x::l=>if x∈l then dd l else x::dd l
theorem Inv.drawn {X:Cx}{pins:List (Addr×Obj)}{σ:List (Option V)}{H:Hp}{s:Shared}{d} (I:Inv X pins σ H s):Inv X pins σ H { s with drawn:=d }:=⟨I.ok,I.os,I.bare,I.base,I.loc,I.cell,I.free,I.freeC,I.pin,I.hok,I.len⟩
section
variable {X:Cx}
end
namespace MP
section
variable {K:PySem.W.Frag}{C:Cg}{P:Program}{w:World}{ta:TE}{f:Fn (List PV)}
end
end MP
noncomputable def Fz:V->List V->Hp->VK->Prop:=fun x vs H Q=>∃ l xs n y,x=.ref l∧vs=[.int n,y]∧H l=some (.lst xs)∧xs.length < sizeLine∧0≤n∧n < 2 ^ 62∧Q .non (upd H l (.lst (xs.take n.toNat++y::xs.drop n.toNat)))
theorem Du (its:List Value) (n:Int) (u:Value) (h0:0≤n):(fun xs:Array Value=>have k:=if n < 0 then (n+((xs.size:Nat):Int)).toNat else min n.toNat xs.size;(xs.extract 0 k).push u++xs.extract k) its.toArray=(its.take n.toNat++u::its.drop n.toNat).toArray:=by
 show (its.toArray.extract 0 (if n < 0 then _ else min n.toNat its.toArray.size)).push u++its.toArray.extract (if n < 0 then _ else min n.toNat its.toArray.size)=_
 rw [if_neg (by omega)]
 refine ZbA.mp ?_
 rw [Zbx,Array.toList_push,Array.toList_extract,Array.toList_extract,List.extract_eq_take_drop,List.extract_eq_take_drop,List.size_toArray,Za3,Nat.sub_zero]
 show its.take (min n.toNat its.length)++[u]++(its.drop (min n.toNat its.length)).take _=its.take n.toNat++u::its.drop n.toNat
 rw [ZaA,show (its.drop (min n.toNat its.length)).take (its.length - min n.toNat its.length)=its.drop (min n.toNat its.length) from ZaO (by rw [ZaB];exact Zaf _)]
 rcases Nat.le_total n.toNat its.length with q | q
 ·rw [Zbk q];rfl
 ·rw [Nat.min_eq_right q,ZaO (Zaf _),ZbC (Zaf _),ZaO q,ZbC q];rfl
section
variable {X:Cx}
theorem Hy:MtM X "list.insert" Fz:=by
 intro pins s σ H x vs v us Q I rx rv h
 obtain ⟨l,xs,n,y,rfl,rfl,hH,hz,n0,n1,q⟩:=h
 cases rx
 obtain ⟨u1,u2,rfl,r1,r2⟩:=rv.two
 obtain ⟨t,rfl⟩:=r1
 obtain ⟨z,its,m,r,hl,e⟩:=I.R4 hH
 refine call_meets F.slot_list_insert ⟨_,e,rfl⟩ F.entry_list_insert (F.args_list_insert_3 _ _ _) (PySem.AutoListH.list_insert_list_int_val_1 l its.toArray m n t u2 ?_ (by rw [List.size_toArray];omega)) ⟨e,?_⟩
 ·unfold Builtin.List.listFitsIndex
  simp
  omega
 ·refine ⟨.non,_,I.RZ (its':=its.take n.toNat++u2::its.drop n.toNat) hH e (Du its n u2 n0) ?_ ?_,rfl,q⟩
  ·exact (r.take _).append (.cons r2 (r.drop _))
  ·rw [List.length_append,Zak,Zat,ZaB]
   omega
end
namespace MP
noncomputable def Kg (i:Nat) (fi fe:Fn PV):Sn:=fun ρ=>match ownAt i ρ with
 | some (.lst l)=>lz (fi ρ) fun k=>match k with
  | .int n=>lz (fe ρ) fun p=>if 0≤n∧n < 2 ^ 62∧l.length < sizeLine then some (.nx (ρ.set i (some (.ow (.lst (l.take n.toNat++p::l.drop n.toNat)))))) else none
  | _=>none
 | _=>none
section
variable {K:PySem.W.Frag}{C:Cg}{ti te:TE}
theorem Qz {i:Nat}{fi fe:Fn PV} (hi:MJ K C (aF K) ti fi) (h:MJ K C (aF K) te fe):MS K C (Er (tBM K "list" Fz (qU i) (jh ti (jh te uQ)))) (Kg i fi fe):=by
 intro F H σ ρ D o R e P
 unfold Kg at e
 split at e
 ·rename_i l hl
  obtain ⟨a,g1,⟨xs,g2,g3⟩,g4,g5⟩:=R.ow i _ (cM hl)
  refine ⟨_,g1,tyL g2,hi.sS R e P fun k w F1 H1 hk u rw'=>?_⟩
  split at hk
  ·rename_i n
   cases Rep.bK rw'
   refine h.sS (R.up u) hk (P.up u.ff) fun p v F2 H2 hk2 u2 rv=>?_
   split at hk2
   ·rename_i hc
    cases hk2
    obtain ⟨a',k1,⟨ys,k2,k3⟩,k4,k5⟩:=(R.up (u.trans u2)).ow i _ (cM hl)
    rw [g1] at k1
    cases k1
    refine ⟨a,ys,n,v,rfl,rfl,k2,by rw [k3.1];exact hc.2.2,hc.1,hc.2.1,?_⟩
    refine P F2 _ σ (u.trans u2).ff ((R.up (u.trans u2)).write (cM hl) g1 ⟨_,aX,?_⟩)
    exact (k3.take _).append ((k3.drop _).cons rv)
   ·cases hk2
  ·cases hk
 ·cases e
end
end MP
end L2
namespace L2.MP
open PySem PySem.Spec PyProof.Rows
structure xn (X:Cx) (pins:List (Addr×Obj)) (b:Addr):Prop where
 sz:X.s₀.heap.objs.size≤b
 loc:b≠X.env.locals
 cl:∀ x c,X.env.cells.lookup x=some c->c≠b
 pn:∀ p∈X.pn++pins,p.1≠b
structure Fly (X:Cx) (pins:List (Addr×Obj)) (H:Hp) (h:Heap) (e:Addr) (C:Value) (d:Option Addr):Prop where
 own:xn X pins e
 nh:H e=none
 ob:∃ oe vs,h.get? e=some oe∧oe.cls=C∧oe.dict=d∧oe.slots=#[]∧oe.data=.fields vs∧1 < vs.size ∧
  (vs[1]?=some .none∨∃ T oT ts,vs[1]?=some (.ref T)∧T≠e∧xn X pins T∧H T=none∧h.get? T=some oT∧oT.data=.fields ts∧3 < ts.size)
noncomputable def O3 (h:Heap) (e:Addr):Prop:=∃ oe vs T,h.get? e=some oe∧oe.data=.fields vs∧vs[1]?=some (.ref T)
section
variable {X:Cx}{pins:List (Addr×Obj)}{σ:St}{H:Hp}{s:Shared}{e:Addr}{C:Value}{d:Option Addr}
theorem tL (I:Inv X pins σ H s) {b:Addr} (h:s.heap.objs.size≤b):xn X pins b where
 sz:=Zad I.sz h
 loc:=fun z=>by have:=I.lt;rw [←z] at this;exact absurd (Zaq this h) (Zbb _)
 cl:=fun x c q z=>by
  obtain ⟨v,o,ho,_⟩:=I.cell x c q
  have:=Zaj ho
  rw [z] at this;exact absurd (Zaq this h) (Zbb _)
 pn:=fun p hp z=>by
  have:=Zaj (I.pin p hp).1
  rw [z] at this;exact absurd (Zaq this h) (Zbb _)
theorem xn.ch (m:xn X pins e):(e∈X.ex∨X.s₀.heap.objs.size≤e)∧e≠X.env.locals∧(∀ x c,X.env.cells.lookup x=some c->c≠e)∧∀ p∈X.pn++pins,p.1≠e:=⟨.inr m.sz,m.loc,m.cl,m.pn⟩
theorem xn.Pk (I:Inv X pins σ H s) (m:xn X pins e):e ∉ frs X.stack:=fun hb=>by
 rcases Zao.mp (I.yG e hb) with z | z
 ·exact m.loc z
 ·obtain ⟨_,o,ho,_⟩:=I.ok.qx.mem z
  exact absurd (Zaq (Zaj ho) m.sz) (Zbb _)
theorem Inv.Te (I:Inv X pins σ H s) {h':Heap} (m:xn X pins e) (nh:H e=none) (k:∀ b o,b≠e->s.heap.get? b=some o->h'.get? b=some o):Inv X pins σ H { s with heap:=h' }:=by
 refine I.call (g':=s.gens) (d':=s.drawn) (t':=s.toks) (ch:=[e]) ⟨fun b o q _ _ hc=>k b o (fun z=>hc (by simp [z])) q,fun b o q _ _ hc=>⟨o.slots,k b o (fun z=>hc (by simp [z])) q⟩,fun _ _ _ n _=>n,fun b o q hc=>⟨o,k b o (fun z=>hc (by simp [z])) q⟩,fun _ _ q=>q,fun _ _ _ q=>q,fun b ps q=>⟨#[],by rw [q];simp⟩⟩ ?_ I.bare fun b hb=>?_
 ·intro b u q
  refine (I.hok b u q).stay (fun c v hc z=>k c v ?_ z) (fun _ z=>z) fun _ _ z=>z
  rcases hc with z | z
  ·rw [z];intro y;rw [y,nh] at q;cases q
  ·intro y;rw [y,nh] at z;cases z
 ·obtain rfl:b=e:=by simpa using hb
  exact m.ch
variable {M:Model}{E':Value->Shared->Prop}
theorem yh {Q:Unit->Shared->Prop}{head:Value}{hadNext:Bool} (I:Inv X pins σ H s) (hs:X.stack=X.env::X.outer) (hf:X.env.frame=some X.env.locals) (m:xn X pins e) (nh:H e=none)
  {oe:Obj}{vs:Array Value} (he:s.heap.get? e=some oe) (hc:oe.cls=C) (hdd:oe.dict=d) (hsl:oe.slots=#[]) (hd:oe.data=.fields vs) (hsz:1 < vs.size)
  (k:∀ s',Inv X pins σ H s'->Fly X pins H s'.heap e C d->O3 s'.heap e->Q () s') :
  wpAny M X.A (do let a ←frameOf X.env;let pl ←entryPlaceOf X.env.locals hadNext;let b ←EntryCells.newEntry head a .none (rawInt X.env.locals) .none pl;setField (.ref e) 1 b) Q E' s:=by
 have hfr:X.A.frames=some (X.env::X.outer):=by rw [←hs];exact I.ok.frames
 have hl:s.heap.FunFrames X.base (X.env::X.outer):=by rw [←hs];exact I.stack
 have hfe:(X.env::X.outer).filterMap (·.frame)=frs X.stack:=by rw [hs];rfl
 refine wpAny_bind (wpAny_frameOf_fun hfr hl hf fun h₁ hs₁=>?_)
 rw [hfe] at hs₁
 refine wpAny_bind (wpAny_entryPlaceOf fun pl hpl=>?_)
 unfold EntryCells.newEntry newFields
 refine wpAny_bind (wpAny_newObj_type ?_ (hpl.sizeOk5 _ _ _ _ _))
 have nf:=m.Pk I
 have he₁:h₁.get? e=some oe:=(hs₁.2.1 e nf).trans he
 have he₂:=Zaa (h:=h₁) { cls:=.type "traceback",dict:=none,data:=.fields ([head,.ref X.env.locals,.none,rawInt X.env.locals,.none]++(if pl.isEmpty then List.replicate 6 Value.none else pl)).toArray } he₁
 refine wpAny_setField he₂ hd hsz ?_
 have hTe:h₁.objs.size≠e:=Nat.ne_of_gt (Zaj he₁)
 have hd₃:=Obj.data_mapFields hd (·.setIfInBounds 1 (Value.ref h₁.objs.size))
 have he₃:=Heap.get?_update_self (Obj.mapFields (·.setIfInBounds 1 (Value.ref h₁.objs.size))) he₂ (Obj.isFreed_of_fields hd₃)
 have hT₃:=(Za8 (h₁.push { cls:=.type "traceback",dict:=none,data:=.fields ([head,.ref X.env.locals,.none,rawInt X.env.locals,.none]++(if pl.isEmpty then List.replicate 6 Value.none else pl)).toArray })
  (Obj.mapFields (·.setIfInBounds 1 (Value.ref h₁.objs.size))) (Za4 hTe)).trans (Zam h₁ rfl)
 have keep:∀ b o,b≠e->h₁.get? b=some o->((h₁.push { cls:=.type "traceback",dict:=none,data:=.fields ([head,.ref X.env.locals,.none,rawInt X.env.locals,.none]++(if pl.isEmpty then List.replicate 6 Value.none else pl)).toArray }).update e (Obj.mapFields (·.setIfInBounds 1 (Value.ref h₁.objs.size)))).get? b=some o:=fun b o hbe hb=>by
  rw [Za8 _ _ (Za4 hbe)]
  exact Zaa _ hb
 have J:∀ h':Heap,(∀ b o,b≠e->h₁.get? b=some o->h'.get? b=some o)->Inv X pins σ H { s with heap:=h' }:=fun h' keep=>by
  refine I.call (g':=s.gens) (d':=s.drawn) (t':=s.toks) (ch:=[e]) ⟨fun b o q _ hb hc=>keep b o (fun z=>hc (by simp [z])) ((hs₁.2.1 b hb).trans q),fun b o q _ _ hc=>?_,fun _ _ _ n _=>n,fun b o q hc=>?_,fun _ _ q=>q,fun _ _ _ q=>q,fun b ps q=>⟨#[],by rw [q];simp⟩⟩ ?_ I.bare fun b hb=>?_
  ·obtain ⟨sl,z⟩:=hs₁.2.2 b o q
   exact ⟨sl,keep b _ (fun z=>hc (by simp [z])) z⟩
  ·obtain ⟨sl,z⟩:=hs₁.2.2 b o q
   exact ⟨_,keep b _ (fun z=>hc (by simp [z])) z⟩
  ·intro b u q
   refine (I.hok b u q).stay (fun c v hc z=>keep c v ?_ ((hs₁.2.1 c ?_).trans z)) (fun _ z=>z) fun _ _ z=>z
   ·rcases hc with y | y
    ·rw [y];intro y;rw [y,nh] at q;cases q
    ·intro z;rw [z,nh] at y;cases y
   ·intro hm
    have n:=I.yH c hm
    rcases hc with y | y
    ·rw [←y,n] at q;cases q
    ·rw [n] at y;cases y
  ·obtain rfl:b=e:=by simpa using hb
   exact m.ch
 have mT:xn X pins h₁.objs.size:=tL I (by rw [hs₁.1];exact Zaf _)
 have nT:H h₁.objs.size=none:=I.hok.fresh (by rw [hs₁.1];exact Zaf _)
 refine k _ ?_ ⟨m,nh,_,_,he₃,?_,?_,?_,hd₃,by simpa using hsz,.inr ⟨h₁.objs.size,_,_,by simp [hsz],hTe,mT,nT,hT₃,rfl,?_⟩⟩ ⟨_,_,h₁.objs.size,he₃,hd₃,by simp [hsz]⟩
 ·exact J _ keep
 ·rw [Obj.cls_mapFields];exact hc
 ·obtain ⟨c,dd,dt,sl⟩:=oe;cases dt <;> first | exact hdd | cases hd
 ·obtain ⟨c,dd,dt,sl⟩:=oe;cases dt <;> first | exact hsl | cases hd
 ·simp only [List.size_toArray,List.length_append,Zak,ZaR];omega
theorem wy {Q:Unit->Shared->Prop} (I:Inv X pins σ H s) (hs:X.stack=X.env::X.outer) (hf:X.env.frame=some X.env.locals) (fl:Fly X pins H s.heap e C d)
  (k:∀ s',Inv X pins σ H s'->Fly X pins H s'.heap e C d->O3 s'.heap e->Q () s'):wpAny M X.A (noteFrame (.ref e) X.env) Q E' s:=by
 obtain ⟨m,nh,oe,vs,he,hc,hdd,hsl,hd,hsz,h1⟩:=id fl
 unfold noteFrame
 simp only [hf]
 rcases h1 with h1 | ⟨T,oT,ts,h1,hTe,mT,nT,hT,hdT,h3⟩
 ·refine wpAny_bind (wpAny_field he hd h1 ?_)
  rw [if_neg (by decide)]
  exact yh I hs hf m nh he hc hdd hsl hd hsz k
 ·refine wpAny_bind (wpAny_field he hd h1 ?_)
  rw [if_pos (show (Value.ref T != Value.none)=true from by simp)]
  have h3':ts[3]?=some ts[3]:=by simp [h3]
  refine wpAny_bind (wpAny_field hT hdT h3' ?_)
  by_cases hz:(ts[3] == rawInt X.env.locals)=true
  ·rw [if_pos hz]
   exact wpAny_pure (k s I fl ⟨oe,vs,T,he,hd,h1⟩)
  ·rw [if_neg hz]
   refine wpAny_bind (wpAny_setField hT hdT h3 ?_)
   have other:∀ b,b≠T->(s.heap.update T (Obj.mapFields (·.setIfInBounds 3 Value.none))).get? b=s.heap.get? b:=fun b hb=>Za8 _ _ (Za4 hb)
   have I1:=Inv.Te I mT nT (h':=s.heap.update T (Obj.mapFields (·.setIfInBounds 3 Value.none))) fun b o hb q=>(other b hb).trans q
   exact yh I1 hs hf m nh ((other e (Za4 hTe)).trans he) hc hdd hsl hd hsz k
theorem nA {Q:Unit->Shared->Prop}{fr:Option Addr} (I:Inv X pins σ H s) (fl:Fly X pins H s.heap e C d)
  (k:∀ s',Inv X pins σ H s'->Fly X pins H s'.heap e C d->Q () s') {A:Around}:wpAny M A (setFlight (.ref e) fr) Q E' s:=by
 obtain ⟨m,nh,oe,vs,he,hc,hdd,hsl,hd,hsz,h1⟩:=id fl
 unfold setFlight
 rcases h1 with h1 | ⟨T,oT,ts,h1,hTe,mT,nT,hT,hdT,h3⟩
 ·refine wpAny_bind (wpAny_field he hd h1 ?_)
  rw [if_neg (by decide)]
  exact wpAny_pure (k s I fl)
 ·refine wpAny_bind (wpAny_field he hd h1 ?_)
  rw [if_pos (show (Value.ref T != Value.none)=true from by simp)]
  refine wpAny_setField hT hdT h3 ?_
  have hd₃:=Obj.data_mapFields hdT (·.setIfInBounds 3 (fr.elim Value.none fun f=>rawInt f))
  have other:∀ b,b≠T->(s.heap.update T (Obj.mapFields (·.setIfInBounds 3 (fr.elim Value.none fun f=>rawInt f)))).get? b=s.heap.get? b:=fun b hb=>Za8 _ _ (Za4 hb)
  refine k _ (Inv.Te I mT nT fun b o hb q=>(other b hb).trans q) ⟨m,nh,oe,vs,(other e (Za4 hTe)).trans he,hc,hdd,hsl,hd,hsz,.inr ⟨T,_,_,h1,hTe,mT,nT,Heap.get?_update_self _ hT (Obj.isFreed_of_fields hd₃),hd₃,by simpa using h3⟩⟩
end
noncomputable def FlS (X:Cx) (pins:List (Addr×Obj)) (σ:St) (E:XK) (ev:Value) (s':Shared):Prop:=∃ e C d H',ev=.ref e∧Inv X pins σ H' s'∧Fly X pins H' s'.heap e C d∧E C d H'
noncomputable def FlX (X:Cx) (E:XK) (ev:Value) (s':Shared):Prop:=∃ pins σ,FlS X pins σ E ev s'
structure Ud (n:Nat) (H:Hp) (h:Heap) (e:Addr) (C:Value) (d:Option Addr):Prop where
 sz:n≤e
 nh:H e=none
 ob:∃ oe vs,h.get? e=some oe∧oe.cls=C∧oe.dict=d∧oe.slots=#[]∧oe.data=.fields vs∧1 < vs.size ∧
  (vs[1]?=some .none∨∃ T oT ts,vs[1]?=some (.ref T)∧T≠e∧n≤T∧H T=none∧h.get? T=some oT∧oT.data=.fields ts∧3 < ts.size)
noncomputable def CXS (P:Program) (w:World):CXT:=fun outer H s E ev s'=>∃ e C d H',ev=.ref e∧s'.os=s.os∧AllBare s'.gens∧Un (frs outer) [] H H' s.heap s'.heap∧HOk P w H' s'.heap∧Ud s.heap.objs.size H' s'.heap e C d∧E C d H'
theorem CXS.no {P:Program}{w:World}{o:List Env}{H:Hp}{s s':Shared}{e:Value} (h:CXS P w o H s (fun _ _ _=>False) e s'):False:=by
 obtain ⟨_,_,_,_,_,_,_,_,_,_,z⟩:=h
 exact z
section
variable {X:Cx}{pins:List (Addr×Obj)}{σ:St}{H:Hp}{s s':Shared}{E:XK}{ev:Value}
theorem FlS.FJ (I:Inv X pins σ H s) (h:CXS X.prog X.w X.stack H s E ev s'):FlS X pins σ E ev s':=by
 obtain ⟨e,C,d,H',rfl,os,bare,un,hok,⟨sz,nh,oe,vs,he,hc,hdd,hsl,hd,hsz,h1⟩,hE⟩:=h
 refine ⟨e,C,d,H',rfl,I.call' (ch:=[]) os un hok bare (fun b z=>absurd z (by simp)),⟨tL I sz,nh,oe,vs,he,hc,hdd,hsl,hd,hsz,?_⟩,hE⟩
 rcases h1 with h1 | ⟨T,oT,ts,h1,a,b,c⟩
 ·exact .inl h1
 ·exact .inr ⟨T,oT,ts,h1,a,tL I b,c⟩
theorem MK:uc (CXS X.prog X.w) (X.wish (FlX X E)) E:=fun pins σ H s e s' I h=>⟨pins,σ,FlS.FJ I.gO h⟩
theorem Kh {M:Model} (hs:X.stack=X.env::X.outer) (hf:X.env.frame=some X.env.locals):PassesOwn M X.A X.env (FlX X E):=by
 rintro ev s' ⟨pins,σ,e,C,d,H',rfl,I,fl,hE⟩
 refine wy I hs hf fl fun s1 I1 f1 n1=>?_
 obtain ⟨oe,vs,T,he,hd,h1⟩:=n1
 refine wpAny_bind (wpAny_field he hd h1 ?_)
 rw [if_neg (by simp)]
 refine nA I1 f1 fun s2 I2 f2=>?_
 exact ⟨pins,σ,e,C,d,H',rfl,I2,f2,hE⟩
end
section
variable {P:Program}{w:World}{K:PySem.W.Frag}{mg:Str->Option Value}{base:Heap}
theorem leaves {N:List Str}{q:Str}{sc:Scope}{f:Addr}{cd:Value}{A:Around}{o:List Env}{s:Shared}{H:Hp}{E:XK}{ev:Value}{s':Shared}
  (h:FlX (ud (CXS P w) P w K mg base N q sc f cd A o s H E) E ev s'):(ud (CXS P w) P w K mg base N q sc f cd A o s H E).xe ev s':=by
 obtain ⟨pins,σ,e,C,d,H',rfl,I,fl,hE⟩:=h
 show wpAny _ _ (leaving _ _) _ _ _
 unfold leaving
 refine wpAny_bind (wy I rfl rfl fl fun s1 I1 f1 n1=>?_)
 refine nA I1 f1 fun s2 I2 f2=>?_
 obtain ⟨m,nh,oe,vs,he,hc,hdd,hsl,hd,hsz,h1⟩:=f2
 refine ⟨e,C,d,H',rfl,I2.os,I2.bare,I2.base,I2.hok,⟨m.sz,nh,oe,vs,he,hc,hdd,hsl,hd,hsz,?_⟩,hE⟩
 rcases h1 with h1 | ⟨T,oT,ts,h1,a,b,c⟩
 ·exact .inl h1
 ·exact .inr ⟨T,oT,ts,h1,a,b.sz,c⟩
theorem PSs.ofX {X:Cx}{E:Value->Shared->Prop}{st:List Stmt}{t:TS} (k:∀ e s',E e s'->X.xe e s') (h:PSs (X.wish E) st t):PSs X st t:=fun pins s σ H D I hw =>
 wpAny_mono (h pins s σ H D (I.wish _) hw) (fun _ _ q=>q.gO) fun e s' z=>k e s' z
noncomputable def wz (P:Program) (w:World) (K:PySem.W.Frag) (mg:Str->Option Value) (base:Heap) (x:Str) (k:Nat) (ps:List Str) (sp:Sp):Prop :=
 ∃ (f:Addr) (fd:FuncData),mg x=some (.ref f)∧PySem.W.keepIn K (.ref f)=true∧Binds K fd ps []∧lr P w K mg base (CXS P w) k f fd ps sp
noncomputable abbrev cxX (P:Program) (w:World) (K:PySem.W.Frag) (mg:Str->Option Value) (base:Heap) (N:List Str) (x:Str) (sc:Scope) (f:Addr) (cdv:Value) (A:Around) (outer:List Env) (s:Shared) (H:Hp) (E:XK):Cx :=
 (ud (CXS P w) P w K mg base N x sc f cdv A outer s H E).wish (FlX (ud (CXS P w) P w K mg base N x sc f cdv A outer s H E) E)
theorem Kl {N:List Str}{x:Str}{sc:Scope}{f:Addr}{cdv:Value}{A:Around}{outer:List Env}{s:Shared}{H:Hp}{E:XK}:uc (CXS P w) (cxX P w K mg base N x sc f cdv A outer s H E) E :=
 MK (X:=ud (CXS P w) P w K mg base N x sc f cdv A outer s H E)
theorem MN {M:Model}{N:List Str}{x:Str}{sc:Scope}{f:Addr}{cdv:Value}{A:Around}{outer:List Env}{s:Shared}{H:Hp}{E:XK} :
  PassesOwn M (cxX P w K mg base N x sc f cdv A outer s H E).A (cxX P w K mg base N x sc f cdv A outer s H E).env (cxX P w K mg base N x sc f cdv A outer s H E).xe :=
 Kh (X:=ud (CXS P w) P w K mg base N x sc f cdv A outer s H E) rfl rfl
end
open PySem PySem.Spec PyProof.Rows PySem.Calls Builtin Builtin.ObjectAttr
noncomputable abbrev xq (C t:Addr) (dx:Option Addr):Obj:={ cls:=.ref C,dict:=dx,data:=.fields #[.ref t,.none,.none,.none,.bool false,.none] }
section
variable {h:Heap}{g:Array GenState}{d:Drawn}{t:Nat}{os:OsState}
variable {nm q:Str}{C N f:Addr}{bs bm:List Value}{hdct:Bool}{sn:List Str}{sub:List Value}{ab:Bool}{col:Option Bool}{dd:Option Addr}{k0 k1 k2 k3 k5:Option Value}
theorem Dv {M:Model}{A:Around}{E:Value->Shared->Prop} (hV:bm.contains (.type "ValueError")=true) {rest:List Value}{Q:Unit->Shared->Prop}
  (hC:h.get? C=some (excClassObj nm q C N bs bm hdct sn sub ab col dd k0 k1 k2 k3 k5 "ValueError.__new__")) (hq:Q () ⟨h,g,d,t,os⟩) :
  wpAny M A (checkBuiltinCall "ValueError.__new__" ⟨.ref C::rest,[]⟩) Q E ⟨h,g,d,t,os⟩:=by
 have Fn:=PySem.F.excBase_ValueError
 have hcont:(Value.ref C::bm).contains (.type "ValueError")=true:=by rw [Zbe,hV,Bool.or_true]
 have hstar:=Fn.noStar
 simp only [checkBuiltinCall,Fn.newKind,Fn.newSplit,Fn.newRow]
 repeat (first | refine wpAny_loadPart_at hC ?_ | (refine wpAny_isSubtype_exc hC ?_;rw [hcont]) | refine wpAny_staticBase_exc hC ?_ | refine wpAny_madeBy_exc hC ?_ | simp only [bne_self_eq_false,ZbE,if_false] | wp_step)
 exact hq
variable {prog:Program}{w:World}{A:Around}{R:Result->Shared->Prop}{K:PySem.W.Frag}
theorem newX (hV:bm.contains (.type "ValueError")=true) (hA:bm.contains (.type "AttributeError")=false) (hN:bm.contains (.type "NameError")=false) {rest:List Value}
  (hC:h.get? C=some (excClassObj nm q C N bs bm hdct sn sub ab col dd k0 k1 k2 k3 k5 "ValueError.__new__"))
  (hq:R (.ok (.ret (.ref (h.objs.size+1)))) ⟨(h.push { cls:=.type "tuple",data:=.seq rest.toArray }).push (xq C h.objs.size none),g,d,t,os⟩) (hrest:rest.length≤sizeLine) :
  codeAny (model prog w) A (.builtin "ValueError.__new__" ⟨.ref C::rest,[]⟩) R ⟨h,g,d,t,os⟩:=by
 have Fn:=PySem.F.excBase_ValueError
 have hends:=Fn.ends
 have hcB:(Value.ref C::bm).contains (.type "ValueError")=true:=by rw [Zbe,hV,Bool.or_true]
 have hcA:(Value.ref C::bm).contains (.type "AttributeError")=false:=by rw [Zbe,hA];rfl
 have hcN:(Value.ref C::bm).contains (.type "NameError")=false:=by rw [Zbe,hN];rfl
 refine codeAny_builtinAt Fn.entry ?_
 unfold Builtin.«BaseException.__new__»
 refine PySem.wpAt_bind ?_
 show PySem.wpAt _ _ _ (stack >>= _) _ _ _
 refine PySem.wpAt_bind (PySem.wpAt_stack fun p below=>PySem.wpAt_of_wpAny ?_)
 wp_walk
 refine PySem.wpAt_of_wpAny ?_
 rw [Fn.owner]
 repeat (first | with_reducible refine wpAny_madeHere_exc Fn.canon hC ?_ | with_reducible refine wpAny_loadPart_at hC ?_ | (with_reducible refine wpAny_isSubtype_exc hC ?_;first | rw [hcB] | rw [hcA] | rw [hcN]) | wp_step)
 show R _ _
 rw [Zbq]
 exact hq
theorem Km {rest:List Value} (X:K.In h) (hV:bm.contains (.type "ValueError")=true) (hA:bm.contains (.type "AttributeError")=false) (hN:bm.contains (.type "NameError")=false)
  (hC:h.get? C=some (excClassObj nm q C N bs bm hdct sn sub ab col dd k0 k1 k2 k3 k5 "ValueError.__new__"))
  (hi:PySem.W.findIn K (.ref C) "__init__"=some (some (.ref f))) (hf:PySem.W.typeIn K (.ref f)=some (.type "function")) (hrest:rest.length≤sizeLine)
  (hq:codeAny (model prog w) (A.under (.builtin "type.__call__" ⟨.ref C::rest,[]⟩)) (.call (.ref f) ⟨.ref (h.objs.size+1)::rest,[]⟩) (PySem.W.InitBack (h.objs.size+1) R)
   ⟨(h.push { cls:=.type "tuple",data:=.seq rest.toArray }).push (xq C h.objs.size none),g,d,t,os⟩) :
  codeAny (model prog w) A (.call (.ref C) ⟨rest,[]⟩) R ⟨h,g,d,t,os⟩:=by
 have f1:=tc_lookup
 have f2:=tc_bind (.ref C)
 have Fn:=PySem.F.excBase_ValueError
 have hT:(⟨h,g,d,t,os⟩:Shared).TypeIs (.ref C) "type":=⟨_,hC,rfl⟩
 refine codeAny_of_tree ?_
 show wpAny _ _ (callAny (.ref C) _) _ _ _
 repeat (any_goals (first | assumption | with_reducible refine wpAny_loadPart_at hC ?_ | wp_step))
 refine ⟨rfl,?_⟩
 refine codeAny_call_builtin_at (Code.quiet_builtin _ (by decide +kernel)) entry_typeCall (wpAny_check_type_call_sub hC ?_)
 repeat (first | with_reducible refine wpAny_loadPart_at hC ?_ | with_reducible refine wpAny_madeBy_exc hC ?_ | wp_step)
 refine codeAny_call_builtin_code (Code.quiet_builtin _ Fn.quiet) (Dv hV hC ?_)
 refine newX hV hA hN hC ?_ hrest
 show wpAny _ _ _ _ _ _
 have k:∀ b o,h.get? b=some o->((h.push { cls:=.type "tuple",data:=.seq rest.toArray }).push (xq C h.objs.size none)).get? b=some o:=fun b o e=>Zaa _ (Zaa _ e)
 have hC₁:=k _ _ hC
 have hget:((h.push { cls:=.type "tuple",data:=.seq rest.toArray }).push (xq C h.objs.size none)).get? (h.objs.size+1)=some (xq C h.objs.size none):=by heap_get
 have hcC:(Value.ref C::bm).contains (.ref C)=true:=by simp
 unfold isInstance
 repeat (first | with_reducible refine wpAny_loadPart_at hget ?_ | wp_step)
 show wpAny _ _ (isSubtype (.ref C) (.ref C)) _ _ _
 refine wpAny_isSubtype_exc hC₁ ?_
 rw [hcC]
 repeat wp_step
 show wpAny _ _ (typeLookup (.ref C) _) _ _ _
 refine ((PySem.W.looks_findIn X hi).keeps k).at ?_
 refine wpAny_holding (wpAny_bind (((PySem.W.bind_fn X (.ref (h.objs.size+1)) hf).keeps k).at ?_))
 refine wpAny_bind (wpAny_call (codeAny_mono hq fun r s' z=>?_))
 rcases r with e | (v | _ | _ | _) <;> first | exact z | exact z.elim | skip
 obtain ⟨rfl,z⟩:=z
 exact wpAny_pure (wpAny_pure z)
end
open PySem PySem.Spec PyProof.Rows PySem.Calls Builtin Builtin.ObjectAttr
noncomputable abbrev Dw:List Value:=[.type "ValueError",.type "Exception",.type "BaseException",.type "object"]
noncomputable def iK:List Value->Bool
 | .ref _::r=>iK r
 | l=>l == Dw
theorem yj (self:Value):∀ (l:List Value),iK l=true->refuseLoop self "__setattr__" l=pure ()
 | l,e=>by
  unfold iK at e
  split at e
  ·rw [refuseLoop_ref];exact yj self _ e
  ·rw [beq_iff_eq.mp e];exact PySem.F.store_ValueError.passes self
termination_by l=>l.length
theorem zA {x:Value} (hx:Dw.contains x=true):∀ (l:List Value),iK l=true->l.contains x=true
 | l,e=>by
  unfold iK at e
  split at e
  ·rw [Zbe,zA hx _ e,Bool.or_true]
  ·rw [beq_iff_eq.mp e];exact hx
termination_by l=>l.length
theorem Dy {n:String} (hx:Dw.contains (.type n)=false):∀ (l:List Value),iK l=true->l.contains (.type n)=false
 | l,e=>by
  unfold iK at e
  split at e
  ·rw [Zbe,Dy hx _ e];rfl
  ·rw [beq_iff_eq.mp e];exact hx
termination_by l=>l.length
theorem Tf {l:List Value} (e:iK l=true):l.isEmpty=false:=by
 cases l with
 | nil=>exact absurd e (by decide)
 | cons _ _=>rfl
structure XCls (K:PySem.W.Frag) (C:Addr) (cd:ClassData):Prop where
 at_:PySem.W.clsIn K C=some cd
 ve:iK cd.mro=true
 hd:cd.hasDict=true
 sa:PySem.W.findIn K (.ref C) "__setattr__"=some (some (.builtin "object.__setattr__"))
section
variable {prog:Program}{w:World}{A:Around}{K:PySem.W.Frag}{C x:Addr}{s:Shared}{cd:ClassData}{E:Value->Shared->Prop}
theorem M3 {R:Result->Shared->Prop}{ox:Obj}{od:Option Obj}{name:Str}{tk:Tok}{v:Value} (X:K.In s.heap) (I:PySem.W.InstAt s.heap x ox C od) (Y:XCls K C cd) (ht:PySem.W.findIn K (.ref C) name=some none)
  (h:∀ b,wpAny (model prog w) A.in1 (storeInOwnDict (.ref x) (.ref C) (.str name tk) name v b)
   (fun fin s'=>match fin with | .done f=>R (.ok f) s' | .again c'=>c'.quiet=true∧codeAny (model prog w) A c' R s') (fun e s'=>R (.error e) s') s) :
  codeAny (model prog w) A (.call (.builtin "object.__setattr__") ⟨[.ref x,.str name tk,v],[]⟩) R s:=by
 have SF:=PySem.F.store_object
 have hc:=Y.at_
 have ne:=Tf Y.ve
 have sub:PySem.W.Looks (model prog w) s.heap (isInstance (.ref x) (.type "object")) true:=I.type.andThen (PySem.W.looks_mroIn X (by unfold PySem.W.mroIn;rw [hc,Option.bind_some,if_neg (by rw [ne];decide),zA (by decide) _ Y.ve]))
 refine codeAny_call_builtin SF.slot.plain SF.entry (@PySem.W.check_slot (model prog w) _ _ s "object.__setattr__" "object" "__setattr__" (.ref x) [.str name tk,v] [] _ SF.kind SF.split sub (SF.args (.ref x) (.str name tk) v) ?_)
 have hm:PySem.W.Looks (model prog w) s.heap (mroOf (.ref C)) cd.mro:=(PySem.W.looks_clsIn X hc).andThen .now
 have L3:PySem.W.Looks (model prog w) s.heap (storeTaker? none) none:=.now
 rw [PySem.W.osa_eq,refuse_eq]
 refine wpAny_bind (wpAny_bind (I.type.here (wpAny_bind (hm.here ?_))))
 rw [yj _ _ Y.ve]
 refine wpAny_pure (wpAny_bind (I.type.here (wpAny_bind ((PySem.W.looks_findIn X ht).here (wpAny_bind (L3.here ?_))))))
 exact h _
theorem Ko {name:Str}{v:Value}{Q:Unit->Shared->Prop}{vs:Array Value} (X:K.In s.heap) (Y:XCls K C cd) (ht:PySem.W.findIn K (.ref C) name=some none)
  (hx:s.heap.get? x=some { cls:=.ref C,data:=.fields vs })
  (h:∀ h' dx,dx=s.heap.objs.size->h'.get? x=some { cls:=.ref C,dict:=some dx,data:=.fields vs }->h'.Ns1 dx (fun y=>if y=name then some v else none) ->
   (∀ b o,b≠x->s.heap.get? b=some o->h'.get? b=some o)->Q () { s with heap:=h',toks:=s.toks+2 }) :
  wpAny (model prog w) A (setAttr (.ref x) name v) Q E s:=by
 have I:PySem.W.InstAt s.heap x { cls:=.ref C,data:=.fields vs } C none:=⟨hx,rfl,rfl,trivial⟩
 refine PySem.W.set_plain X I Y.sa (M3 (s:={ s with toks:=s.toks+1 }) X I Y ht fun b=>?_)
 refine wpAny_bind (wpAny_pure (wpAny_bind (wpAny_bind (wpAny_loadPart hx (wpAny_bind (PySem.W.Looks.here (s:={ s with toks:=s.toks+1 }) (PySem.W.looks_clsIn X Y.at_) ?_))))))
 rw [Y.hd]
 show wpAny (model prog w) A.in1 (alloc { cls:=.type "dict",data:=.dict #[] } >>= fun dx=>update x (fun o=>{ cls:=o.cls,dict:=some dx,data:=o.data,slots:=o.slots }) >>= fun _=>dictMade (.ref C) x dx) _ _ _
 have hx₁:(s.heap.push { cls:=.type "dict",data:=.dict #[] }).get? x=some { cls:=.ref C,data:=.fields vs }:=Zaa _ hx
 have hxs:x≠s.heap.objs.size:=Zay (Zaj hx)
 refine wpAny_bind (wpAny_alloc ?_)
 refine wpAny_bind (wpAny_update hx₁ ?_)
 refine wpAny_pure (a:=some s.heap.objs.size) ?_
 have hgd:((s.heap.push { cls:=.type "dict",data:=.dict #[] }).update x fun o=>{ cls:=o.cls,dict:=some s.heap.objs.size,data:=o.data,slots:=o.slots }).get? s.heap.objs.size
   = some { cls:=.type "dict",data:=.dict #[] } :=
  (Heap.get?_update_ne _ _ _ _ hxs.symm).trans (Heap.get?_push_at rfl rfl)
 have hnd:((s.heap.push { cls:=.type "dict",data:=.dict #[] }).update x fun o=>{ cls:=o.cls,dict:=some s.heap.objs.size,data:=o.data,slots:=o.slots }).Ns s.heap.objs.size (fun _=>none) :=
  ⟨_,#[],_,hgd,rfl,fun e he=>absurd he (by simp),fun _=>rfl⟩
 show wpAny _ _ (storeInDict s.heap.objs.size (.str name s.toks) name v) _ _ _
 unfold storeInDict newKeyGuard
 refine wpAny_bind (wpAny_pure (wpAny_bind (wpAny_nsSet1 (s:=⟨_,_,_,_,_⟩) (Heap.Ns1.of_empty hnd) fun h' hn' hs=>?_)))
 obtain ⟨oD,esD,epD,hoD,hdD,hcD⟩:=hn'.count (PySem.Within.cons name v PySem.Within.nil)
 refine wpAny_bind (wpAny_lookBehind hoD (by rw [hdD];exact pastItsLine_dict (Zad hcD (by rw [Zak,ZaR,sizeLine_eq];omega))) ?_)
 refine wpAny_pure (h h' _ rfl ((hs.2 x hxs).trans (Heap.get?_update_self _ hx₁ rfl)) hn' fun b ob hbx hb=>?_)
 exact (hs.2 b (Zay (Zaj hb))).trans ((Heap.get?_update_ne _ _ _ _ hbx).trans (Zaa _ hb))
end
noncomputable def XN (e C:Addr) (d:Option Addr):HO:=.ext fun h=>∃ vs:Array Value,h.get? e=some { cls:=.ref C,dict:=d,data:=.fields vs }∧1 < vs.size∧vs[1]?=some .none
noncomputable def XD (dx:Addr) (fs:List (Str×V)):HO:=.ext fun h=>fs.length≤1000∧∃ mA,h.Ns1 dx mA∧(∀ f,rR (fs.lookup f) (mA f))∧PySem.Within mA (fs.map (·.1))
section
variable {P:Program}{w:World}{H:Hp}{h:Heap}{e C dx:Addr}{d:Option Addr}{fs:List (Str×V)}
theorem XN.mk {vs:Array Value} (a:h.get? e=some { cls:=.ref C,dict:=d,data:=.fields vs }) (b:1 < vs.size) (c:vs[1]?=some .none):dM P w H h e (XN e C d) :=
 ⟨⟨vs,a,b,c⟩,⟨_,a⟩,fun _ _ ⟨vs,a,b,c⟩ k=>⟨vs,k _ a,b,c⟩⟩
theorem XO.mk {vs:Array Value} (a:h.get? e=some { cls:=.ref C,dict:=d,data:=.fields vs }):dM P w H h e (XO e C d) :=
 ⟨⟨vs,a⟩,⟨_,a⟩,fun _ _ ⟨vs,a⟩ k=>⟨vs,k _ a⟩⟩
theorem XD.mk {mA:Str->Option Value} (l:fs.length≤1000) (n:h.Ns1 dx mA) (r:∀ f,rR (fs.lookup f) (mA f)) (wi:PySem.Within mA (fs.map (·.1))):dM P w H h dx (XD dx fs) :=
 ⟨⟨l,mA,n,r,wi⟩,let ⟨o,_,_,e',_⟩:=n;⟨o,e'⟩,fun _ _ ⟨l,mA,n,r,wi⟩ k=>⟨l,mA,n.at k,r,wi⟩⟩
theorem XN.get (x:dM P w H h e (XN e C d)):∃ vs:Array Value,h.get? e=some { cls:=.ref C,dict:=d,data:=.fields vs }∧1 < vs.size∧vs[1]?=some .none:=x.1
theorem XO.get (x:dM P w H h e (XO e C d)):∃ vs:Array Value,h.get? e=some { cls:=.ref C,dict:=d,data:=.fields vs }:=x.1
theorem XD.get (x:dM P w H h dx (XD dx fs)):fs.length≤1000∧∃ mA,h.Ns1 dx mA∧(∀ f,rR (fs.lookup f) (mA f))∧PySem.Within mA (fs.map (·.1)):=x.1
end
structure XMk (K:PySem.W.Frag) (C f:Addr) (cd:ClassData):Prop extends XCls K C cd where
 ob:∃ nm q N bs bm sn sub ab col dd k0 k1 k2 k3 k5,K.lookup C=some (excClassObj nm q C N bs bm true sn sub ab col dd k0 k1 k2 k3 k5 "ValueError.__new__")∧cd.mro=.ref C::bm
 init:PySem.W.findIn K (.ref C) "__init__"=some (some (.ref f))
 fn:PySem.W.typeIn K (.ref f)=some (.type "function")
 kp:PySem.W.keepIn K (.ref C)=true
section
variable {X:Cx}{pins:List (Addr×Obj)}{σ:St}{H:Hp}{s:Shared}{C f:Addr}{cd:ClassData}{fd:FuncData}{ps:List Str}{sp:Sp}{k:Nat}{x:Str}{p pos:Pos}{e:Expr}{es:List Expr}{t:TA}{Q:VK}{us:List Value}{vs:List V}
theorem Dz {QA:Addr->Hp->Prop} (Y:XMk X.K C f cd) (F:lr X.prog X.w X.K X.mg X.base CX0 k f fd ps sp) (hr:eX (k+1) X.A) (hb:Binds X.K fd ps []) (I:Inv X pins σ H s) (r:Vals vs us) (hz:vs.length≤sizeLine)
  (h:∀ a,H a=none->sp (.ref a::vs) (upd H a (XN a C none)) (fun v H2=>v=.non∧QA a H2) E0) :
  wpAny (model X.prog X.w) X.A (call (.ref C) us) (fun u s'=>∃ H',u=.ref (s.heap.objs.size+1)∧Inv X pins σ H' s'∧QA (s.heap.objs.size+1) H') X.xe s:=by
 obtain ⟨nm,q,N,bs,bm,sn,sub,ab,col,dd,k0,k1,k2,k3,k5,hC,hm⟩:=Y.ob
 have ve:iK bm=true:=by have:=Y.ve;rw [hm] at this;exact this
 have hq:=h (s.heap.objs.size+1) (I.hok.fresh (Nat.le_succ _))
 have k1':∀ b o,s.heap.get? b=some o->(s.heap.push { cls:=.type "tuple",data:=.seq us.toArray }).get? b=some o:=fun b o e=>Zaa _ e
 have I1:Inv X pins σ H { s with heap:=s.heap.push { cls:=.type "tuple",data:=.seq us.toArray } }:=I.kept (t':=s.toks) k1'
 have hget:((s.heap.push { cls:=.type "tuple",data:=.seq us.toArray }).push (xq C s.heap.objs.size none)).get? (s.heap.objs.size+1)=some (xq C s.heap.objs.size none):=by
  have:=Zam (s.heap.push { cls:=.type "tuple",data:=.seq us.toArray }) (o:=xq C s.heap.objs.size none) rfl
  rwa [Zbq] at this
 have I2:Inv X pins σ (upd H (s.heap.objs.size+1) (XN (s.heap.objs.size+1) C none)) { s with heap:=(s.heap.push { cls:=.type "tuple",data:=.seq us.toArray }).push (xq C s.heap.objs.size none) } :=
  I1.laid (t':=s.toks) (fun b o e=>Zaa _ e) (Nat.le_of_eq (Zbq _ _)) (XN.mk hget (by simp) rfl)
 have r2:Vals (V.ref (s.heap.objs.size+1)::vs) (Value.ref (s.heap.objs.size+1)::us):=.cons rfl r
 have hl:(Value.ref (s.heap.objs.size+1)::us++[]).length=ps.length:=by
  have e:=r2.length
  rw [F.len _ _ _ _ hq] at e
  rw [ZaE];exact e.symm
 have hbs:=hb { s with heap:=(s.heap.push { cls:=.type "tuple",data:=.seq us.toArray }).push (xq C s.heap.objs.size none) } (Value.ref (s.heap.objs.size+1)::us) I2.kIn hl
 rw [ZaE] at hbs
 obtain ⟨hh,g,d,tk,os⟩:=s
 refine wpAny_call (Km (f:=f) I.kIn (zA (by decide) _ ve) (Dy (by decide) _ ve) (Dy (by decide) _ ve) (I.kIn _ _ hC) Y.init Y.fn (by rw [←r.length];exact hz)
  (codeAny_mono (F.run _ X.stack _ _ ⟨Value.ref (hh.objs.size+1)::us,[]⟩ (Value.ref (hh.objs.size+1)::us) _ _ E0 (hr.make C us []) (I2.env0.make C us []) hbs r2 hq) fun r s' hq'=>?_))
 cases r with
 | error e=>exact False.elim hq'
 | ok fl =>
  cases fl with
  | ret u =>
   obtain ⟨v,H',I3,rv,ev,q3⟩:=I2.after hq'
   subst ev
   exact ⟨rv,⟨H',rfl,I3,q3⟩⟩
  | next=>exact False.elim hq'
  | brk=>exact False.elim hq'
  | cont=>exact False.elim hq'
noncomputable def del (H:Hp) (a:Addr):Hp:=fun b=>if b=a then none else H b
theorem Bt {H:Hp}{a:Addr}:del H a a=none:=by unfold del;rw [if_pos rfl]
theorem rC {H:Hp}{a b:Addr} (h:b≠a):del H a b=H b:=by unfold del;rw [if_neg h]
theorem Inv.M4 {a:Addr}{φ:Heap->Prop} (I:Inv X pins σ H s) (h:H a=some (.ext φ)):Inv X pins σ (del H a) s:=by
 have ne:∀ b o,H b=some o->(∀ ψ,o≠.ext ψ)->b≠a:=fun b o q n z=>by subst z;rw [q] at h;exact n φ (Zab h)
 have nn:∀ b,H b=none->del H a b=none:=fun b q=>by unfold del;split <;> first | rfl | exact q
 refine ⟨I.ok,I.os,I.bare,⟨I.base.keep,I.base.slot,fun b o q n x=>nn b (I.base.free b o q n x),I.base.there,fun b xs q=>?_,fun b o u q=>?_,fun b ps q=>?_⟩,I.loc,I.cell,nn _ I.free,fun x c q=>nn _ (I.freeC x c q),fun p hp=>?_,fun b o q=>?_,I.len⟩
 ·have:=I.base.tups b xs q
  rw [rC (ne b _ this fun _ z=>by cases z)];exact this
 ·have:=I.base.frzs b o u q
  rw [rC (ne b _ this fun _ z=>by cases z)];exact this
 ·obtain ⟨m,this⟩:=I.base.tbls b ps q
  exact ⟨m,by rw [rC (ne b _ this fun _ z=>by cases z)];exact this⟩
 ·obtain ⟨a1,a2,a3⟩:=I.pin p hp
  exact ⟨a1,nn _ a2,a3⟩
 ·unfold del at q
  split at q
  ·cases q
  ·rename_i hb
   refine (I.hok b o q).stay (fun c u _ z=>z) (fun c z=>?_) fun c xs z=>?_
   ·rw [rC (ne c _ z fun _ y=>by cases y)];exact z
   ·rw [rC (ne c _ z fun _ y=>by cases y)];exact z
theorem Inv.Tg {a:Addr}{fs:List (Str×V)} (I:Inv X pins σ H s) (h:H a=some (XD a fs)):Inv X pins σ (upd H a (.xd fs)) s:=by
 have ne:∀ b o,H b=some o->(∀ ψ,o≠.ext ψ)->b≠a:=fun b o q n z=>by subst z;rw [q] at h;exact n _ (Zab h)
 have nn:∀ b,H b=none->upd H a (.xd fs) b=none:=fun b q=>by
  have:b≠a:=fun z=>by rw [z,h] at q;cases q
  rw [aO this];exact q
 refine ⟨I.ok,I.os,I.bare,⟨I.base.keep,I.base.slot,fun b o q n x=>nn b (I.base.free b o q n x),I.base.there,fun b xs q=>?_,fun b o u q=>?_,fun b ps q=>?_⟩,I.loc,I.cell,nn _ I.free,fun x c q=>nn _ (I.freeC x c q),fun p hp=>?_,fun b o q=>?_,I.len⟩
 ·have:=I.base.tups b xs q
  rw [aO (ne b _ this fun _ z=>by cases z)];exact this
 ·have:=I.base.frzs b o u q
  rw [aO (ne b _ this fun _ z=>by cases z)];exact this
 ·obtain ⟨m,this⟩:=I.base.tbls b ps q
  exact ⟨m,by rw [aO (ne b _ this fun _ z=>by cases z)];exact this⟩
 ·obtain ⟨a1,a2,a3⟩:=I.pin p hp
  exact ⟨a1,nn _ a2,a3⟩
 ·by_cases hb:b=a
  ·subst hb
   rw [aX] at q;cases q
   obtain ⟨_,mA,n,r,_⟩:=XD.get (I.hok _ _ h)
   exact ⟨mA,n,r⟩
  ·rw [aO hb] at q
   refine (I.hok b o q).stay (fun c u _ z=>z) (fun c z=>?_) fun c xs z=>?_
   ·rw [aO (ne c _ z fun _ y=>by cases y)];exact z
   ·rw [aO (ne c _ z fun _ y=>by cases y)];exact z
theorem DG {M:Model}{A:Around}{E:Value->Shared->Prop}{env:Env}{y:Sem Value}{QF:Flow->Shared->Prop}{nm q:Str}{N:Addr}{bs bm:List Value}{hdct:Bool}{sn:List Str}{sub:List Value}{ab:Bool}{col:Option Bool}{dd:Option Addr}{k0 k1 k2 k3 k5:Option Value}{newId:String}
  (hbase:bm.contains (.type "BaseException")=true) (hh:A.handled=none)
  (h:wpAny M A y (fun v s₁=>∃ e d,∃ vs:Array Value,v=.ref e∧s₁.heap.get? C=some (excClassObj nm q C N bs bm hdct sn sub ab col dd k0 k1 k2 k3 k5 newId) ∧
   s₁.heap.get? e=some { cls:=.ref C,dict:=d,data:=.fields vs }∧vs[1]?=some .none∧E (.ref e) s₁) E s) :
  wpAny M A (raiseStmt env (some y) none) QF E s:=by
 have hcB:(Value.ref C::bm).contains (.type "BaseException")=true:=by rw [Zbe,hbase,Bool.or_true]
 unfold raiseStmt
 refine wpAny_bind (wpAny_mono h (fun v s₁ h₁=>?_) fun _ _ x=>x)
 obtain ⟨e,d,vs,rfl,hC,he,hv1,hE⟩:=h₁
 obtain ⟨hp,g,dr,tk,os⟩:=s₁
 repeat (first | with_reducible refine wpAny_loadPart_at he ?_ | with_reducible refine wpAny_loadPart_at hC ?_ | (with_reducible refine wpAny_isSubtype_exc hC ?_;rw [hcB]) | wp_step)
 rw [hv1]
 refine wpAny_pure ?_
 rw [if_neg (by decide)]
 exact wpAny_pure (wpAny_raiseNew_none hh hE)
noncomputable def u5 (C:Addr) (sp:Sp) (E:XK) (t:TA):TS:=fun _ σ H=>t σ H fun vs H1=>vs.length≤sizeLine∧∀ a,H1 a=none ->
 sp (.ref a::vs) (upd H1 a (XN a C none)) (fun v H2=>v=.non∧∃ dx fs,H2 a=some (XN a C (some dx))∧H2 dx=some (XD dx fs)∧dx≠a∧E (.ref C) (some dx) (upd (del H2 a) dx (.xd fs))) E0
theorem Hz {E:XK}{rpos:Pos} (Y:XMk X.K C f cd) (F:lr X.prog X.w X.K X.mg X.base CX0 k f fd ps sp) (hr:eX (k+1) X.A) (hg:Gl X x) (hm:X.mg x=some (.ref C)) (hb:Binds X.K fd ps []) (hh:X.A.handled=none)
  (hx:∀ (pins:List (Addr×Obj)) (σ:St) (H:Hp) (s:Shared) (e:Addr) (C:Value) (d:Option Addr),Inv X pins σ H s->Fly X pins H s.heap e C d->E C d H->X.xe (.ref e) s)
  (ha:PA X (e::es) t) (hdb:(x == ("__debug__":Str))=false:=by decide) (he:starEach (e::es) X.env=(false,eval e X.env)::starEach es X.env:=by rfl) (hpl:(backTo pos (starEach es X.env)).any (·.1)=false:=by rfl) :
  PS X (.Raise (some (.Call (.Name x p) (e::es) [] pos)) none rpos) (u5 C sp E t):=by
 obtain ⟨nm,q,N,bs,bm,sn,sub,ab,col,dd,k0,k1,k2,k3,k5,hC,hmr⟩:=Y.ob
 have ve:iK bm=true:=by have:=Y.ve;rw [hmr] at this;exact this
 intro pins s σ H D I h
 rw [arm_exec_Raise]
 have key:wpAny (model X.prog X.w) X.A (eval (.Call (.Name x p) (e::es) [] pos) X.env) (fun v s₁=>∃ e d,∃ vs:Array Value,v=.ref e∧s₁.heap.get? C=some (excClassObj nm q C N bs bm true sn sub ab col dd k0 k1 k2 k3 k5 "ValueError.__new__") ∧
   s₁.heap.get? e=some { cls:=.ref C,dict:=d,data:=.fields vs }∧vs[1]?=some .none∧X.xe (.ref e) s₁) X.xe s:=by
  refine wpAny_Call_Name_kw (rU I hg hm ?_ hdb)
  refine PySem.W.callWith_K (h₀:=X.base) I.ok.mod.kin Y.kp (thn (ha pos pins s σ H _ I h) fun us s1 ⟨vs,H1,I1,r,hz,q⟩=>⟨I1.kIn,?_⟩) he hpl
  refine thn (Dz (QA:=fun a H2=>∃ dx fs,H2 a=some (XN a C (some dx))∧H2 dx=some (XD dx fs)∧dx≠a∧E (.ref C) (some dx) (upd (del H2 a) dx (.xd fs))) Y F hr hb I1 r hz q) fun u s2 ⟨H2,eu,I2,q2⟩=>?_
  obtain ⟨dx,fs,h2,h3,ne,hE⟩:=q2
  obtain ⟨vs2,hget,hsz,h1⟩:=XN.get (I2.hok _ _ h2)
  have I3:=Inv.Tg (Inv.M4 I2 h2) (a:=dx) (fs:=fs) (by rw [rC ne];exact h3)
  refine ⟨_,some dx,vs2,eu,I2.kIn _ _ hC,hget,h1,hx pins σ _ s2 _ _ (some dx) I3 ⟨tL I1 (Nat.le_succ _),by rw [aO (Za4 ne)];exact Bt,_,vs2,hget,rfl,rfl,rfl,rfl,hsz,.inl h1⟩ hE⟩
 exact wpAny_bind (wpAny_standAt (DG (C:=C) (nm:=nm) (q:=q) (N:=N) (bs:=bs) (bm:=bm) (hdct:=true) (sn:=sn) (sub:=sub) (ab:=ab) (col:=col) (dd:=dd) (k0:=k0) (k1:=k1) (k2:=k2) (k3:=k3) (k5:=k5) (newId:="ValueError.__new__") (zA (by decide) _ ve) hh
  (wpAny_bind (thn key fun v s1 z=>wpAny_bind (wpAny_standAt (wpAny_pure z))))))
end
section
variable {X:Cx}{pins:List (Addr×Obj)}{σ:St}{H:Hp}{s:Shared}{o value:Expr}{f:Str}{pos pos':Pos}{ta tv:TE}
noncomputable def sX0 (K:PySem.W.Frag) (ta tv:TE) (f:Str):TS:=fun D σ H=>tv σ H fun y H1=>ta σ H1 fun x H2=>∃ e C cd,x=.ref e∧H2 e=some (XN e C none)∧XCls K C cd∧PySem.W.findIn K (.ref C) f=some none ∧
 ∀ dx,H2 dx=none->D.nx σ (upd (upd H2 dx (XD dx [(f,y)])) e (XN e C (some dx)))
theorem Th (ha:PE X o ta) (hv:PE X value tv) (hs:swapsWith value (some (.Attribute o f pos')) pos.line X.env=pure false):PS X (.Assign [.Attribute o f pos'] value pos) (sX0 X.K ta tv f):=by
 intro pins s σ H D I h
 refine plainObj_wpAny_Assign_Attribute (thn (hv pins s σ H _ I h) fun u s1 ⟨y,H1,I1,ry,q⟩=>thn (ha pins s1 σ H1 _ I1 q) fun ov s2 ⟨x,H2,I2,rx,e,C,cd,ex,ee,c,n,q2⟩=>?_) hs
 subst ex
 obtain rfl:ov=Value.ref e:=rx
 obtain ⟨vs,hget,hsz,h1⟩:=XN.get (I2.hok _ _ ee)
 refine Ko I2.kIn c n hget fun h' dx hdx hx' hn' keep=>?_
 have nd:H2 dx=none:=I2.hok.fresh (by rw [hdx];exact Zaf _)
 have ne:dx≠e:=fun z=>by rw [z,ee] at nd;cases nd
 obtain ⟨oD,eD⟩:∃ oD,h'.get? dx=some oD:=let ⟨o,_,_,e',_⟩:=hn';⟨o,e'⟩
 have hfr:=(Heap.get?_some_iff.mp eD).2
 have g1:(s2.heap.push oD).get? dx=some oD:=by rw [hdx];exact Zam _ hfr
 have I3:Inv X pins σ (upd H2 dx (XD dx [(f,y)])) { s2 with heap:=s2.heap.push oD,toks:=s2.toks+2 }:=by
  refine I2.laid (t':=s2.toks+2) (fun b u z=>Zaa _ z) (by rw [hdx];exact Zaf _) (XD.mk (by simp) (hn'.at fun o z=>?_) (fun g=>?_) fun g hg=>?_)
  ·rw [eD] at z;rw [g1];exact z
  ·by_cases hgf:g=f
   ·subst hgf;rw [if_pos rfl];have:([(g,y)]:List (Str×V)).lookup g=some y:=by simp [List.lookup]
    rw [this];exact ry
   ·rw [if_neg hgf]
    have:([(f,y)]:List (Str×V)).lookup g=none:=by
     have hb:(g == f)=false:=beq_eq_false_iff_ne.mpr hgf
     simp only [List.lookup,hb]
    rw [this];exact True.intro
  ·by_cases hgf:g=f
   ·simp [hgf]
   ·exact absurd (if_neg hgf) hg
 have I4:=Inv.write (h':=h') (t':=s2.toks+2) I3 (x:=e) (e:=e) (o:=XN e C (some dx)) (by rw [aO (Za4 ne),ee];exact True.intro) (.inl rfl) (fun b u hb z=>?_) ⟨_,hx'⟩ (XN.mk hx' hsz h1)
 ·exact ⟨σ,_,I4,q2 dx nd⟩
 ·rcases Heap.get?_push_cases z with ⟨z1,z2⟩ | z
  ·rw [z1,z2,←hdx];exact eD
  ·exact keep b u hb z
end
noncomputable abbrev Cx.hand (X:Cx) (ev:Value) (E:Value->Shared->Prop):Cx:={ X with A:=X.A.mark (some ev),calm:=false,xe:=E }
section
variable {X:Cx}{pins:List (Addr×Obj)}{σ:St}{H:Hp}{s:Shared}{ev:Value}{E:Value->Shared->Prop}{e C:Addr}{d:Option Addr}
theorem Inv.hand (I:Inv X pins σ H s) (ev:Value) (E:Value->Shared->Prop):Inv (Cx.hand X ev E) pins σ H s :=
 let ok:=I.ok
 ⟨⟨ok.mod,ok.kind,ok.glob,ok.blt,ok.above,ok.inj,ok.has,ok.cab,(fun z=>by cases z),ok.frames,ok.stk,ok.exf,ok.bs,ok.bsz,ok.noex,ok.exfs,ok.qx,ok.frf⟩,I.os,I.bare,I.base,I.loc,I.cell,I.free,I.freeC,I.pin,I.hok,I.len⟩
theorem Inv.zB (ok:X.Ok) (I:Inv (Cx.hand X ev E) pins σ H s):Inv X pins σ H s :=
 ⟨ok,I.os,I.bare,I.base,I.loc,I.cell,I.free,I.freeC,I.pin,I.hok,I.len⟩
theorem Inv.track (I:Inv X pins σ H s) (fl:Fly X pins H s.heap e (.ref C) d):Inv X pins σ (upd H e (XO e C d)) s:=by
 obtain ⟨m,nh,oe,vs,he,hc,hdd,hsl,hd,hsz,h1⟩:=fl
 have ne:∀ b o,H b=some o->b≠e:=fun b o q z=>by rw [z,nh] at q;cases q
 have obj:s.heap.get? e=some { cls:=.ref C,dict:=d,data:=.fields vs }:=by
  rw [he]
  obtain ⟨c,dd,dt,sl⟩:=oe
  cases hc;cases hdd;cases hsl;cases hd;rfl
 refine ⟨I.ok,I.os,I.bare,⟨I.base.keep,I.base.slot,fun b o q n x=>?_,I.base.there,fun b xs q=>?_,fun b o u q=>?_,fun b ps q=>?_⟩,I.loc,I.cell,?_,fun x c q=>?_,fun p hp=>?_,fun b o q=>?_,I.len⟩
 ·rw [aO (Zay (Zaq (Zaj q) m.sz))];exact I.base.free b o q n x
 ·have:=I.base.tups b xs q
  rw [aO (ne b _ this)];exact this
 ·have:=I.base.frzs b o u q
  rw [aO (ne b _ this)];exact this
 ·obtain ⟨z,this⟩:=I.base.tbls b ps q
  exact ⟨z,by rw [aO (ne b _ this)];exact this⟩
 ·rw [aO (Za4 m.loc)];exact I.free
 ·rw [aO (m.cl x c q)];exact I.freeC x c q
 ·obtain ⟨a1,a2,a3⟩:=I.pin p hp
  exact ⟨a1,by rw [aO (m.pn p hp)];exact a2,a3⟩
 ·by_cases hb:b=e
  ·subst hb
   rw [aX] at q;cases q
   exact XO.mk obj
  ·rw [aO hb] at q
   exact (I.hok b o q).stay (fun c u _ z=>z) (fun c z=>by rw [aO (ne c _ z)];exact z) fun c xs z=>by rw [aO (ne c _ z)];exact z
theorem goes {M:Model}{A:Around}{E:Value->Shared->Prop}{i:Nat}{n:Str}{pos:Pos}{Q:Unit->Shared->Prop} (I:Inv X pins σ H s) (hN:X.N.Nodup) (hi:X.N[i]?=some n) (hk:X.env.kindOf n=some .local)
  (h:∀ s',Inv X pins (σ.set i none) H s'->Q () s'):wpAny M A (do bindName X.env n .none;unbindBehindTheSuite X.env n pos) Q E s:=by
 obtain ⟨m,hn,hl⟩:=id I.loc
 have hcls:(X.env.scope.kind == .class || (X.env.scope.kind == .module && X.env.locals != X.env.globals))=false:=by rw [I.ok.kind];rfl
 have hiσ:i < σ.length:=by rw [I.len];exact (Zap.mp hi).1
 have cne:=I.cne
 refine wpAny_nameGoes_keeps hk hn hcls fun h' v hn' hs=>?_
 obtain ⟨oL,_,_,hoL,_⟩:=id hn
 have lo:∀ b o,X.s₀.heap.get? b=some o->b≠X.env.locals:=fun b o e=>Zay (Zaq (Zaj e) I.ok.above)
 refine h _ ⟨I.ok,I.os,I.bare,⟨fun b o e n hb hx=>(hs.2 b (lo b o e)).trans (I.base.keep b o e n hb hx),fun b o e n hb hx=>?_,I.base.free,fun b o e hx=>?_,I.base.tups,I.base.frzs,I.base.tbls⟩,⟨_,hn',fun j y v' e1 e2 e3=>?_⟩,fun y c e=>?_,I.free,I.freeC,fun p hp=>?_,fun b ob e=>?_,by simpa using I.len⟩
 ·obtain ⟨sl,e1⟩:=I.base.slot b o e n hb hx
  exact ⟨sl,(hs.2 b (lo b o e)).trans e1⟩
 ·obtain ⟨o',e1⟩:=I.base.there b o e hx
  exact ⟨o',(hs.2 b (lo b o e)).trans e1⟩
 ·by_cases hj:j=i
  ·subst hj
   rw [ZaS hiσ] at e2
   cases e2
  ·rw [Zal (Za4 hj)] at e2
   obtain ⟨u',r',q⟩:=hl j y v' e1 e2 e3
   refine ⟨u',r',?_⟩
   rcases q with ⟨k,e⟩ | ⟨k,c,e,z⟩
   ·refine .inl ⟨k,?_⟩
    have:y≠n:=fun e=>hj (vg hN e1 (e ▸ hi))
    simp [this,e]
   ·exact .inr ⟨k,c,e,z.sameBut hs (cne y c e)⟩
 ·obtain ⟨w',z⟩:=I.cell y c e
  exact ⟨w',z.sameBut hs (cne y c e)⟩
 ·obtain ⟨e,n,ne,nf,dd⟩:=I.pin p hp
  exact ⟨(hs.2 p.1 ne).trans e,n,ne,nf,dd⟩
 ·refine (I.hok b ob e).stay (fun c w' hc q=>(hs.2 c ?_).trans q) (fun _ q=>q) fun _ _ q=>q
  rintro rfl
  rcases hc with rfl | hc
  ·rw [I.free] at e;cases e
  ·rw [I.free] at hc;cases hc
end
structure Catch (K:PySem.W.Frag) (T:Addr):Prop where
 cls:∃ oc od cd sl,K.lookup T=some ⟨oc,od,.cls cd,sl⟩
 nt:PySem.W.instIn K (.ref T) (.type "tuple")=some false
 be:PySem.W.subIn K (.ref T) (.type "BaseException")=some true
theorem caught {K:PySem.W.Frag}{M:Model}{A:Around}{E:Value->Shared->Prop}{s:Shared}{e C T:Addr}{oe:Obj}{b:Bool}{Q:Bool->Shared->Prop} (X:K.In s.heap) (Y:Catch K T) (he:s.heap.get? e=some oe) (hc:oe.cls=.ref C)
  (hb:PySem.W.subIn K (.ref C) (.ref T)=some b) (h:Q b s):wpAny M A (excMatches (.ref e) (.ref T)) Q E s:=by
 obtain ⟨oc,od,cd,sl,hT⟩:=Y.cls
 have L1:=PySem.W.looks_instIn (M:=M) X Y.nt
 have L2:=PySem.W.looks_subIn (M:=M) X Y.be
 have L3:=PySem.W.looks_subIn (M:=M) X hb
 have hT':=X _ _ hT
 unfold excMatches
 refine wpAny_bind (L1.here ?_)
 obtain ⟨hp,g,dr,tk,os⟩:=s
 repeat (first | with_reducible refine wpAny_loadPart_at he ?_ | with_reducible refine wpAny_loadPart_at hT' ?_ | with_reducible refine L2.at ?_ | with_reducible refine L3.at ?_ | wp_step)
 rw [hc]
 refine L3.at ?_
 cases b <;> (wp_walk;exact h)
noncomputable abbrev THs:=Value->Option Addr->TS
noncomputable def PHs (X:Cx) (hs:List ExceptHandler) (th:THs):Prop:=∀ (pins:List (Addr×Obj)) (s:Shared) (σ:St) (H:Hp) (D:Ends) (e:Addr) (C:Value) (d:Option Addr),Inv X pins σ H s->Fly X pins H s.heap e C d->th C d D σ H ->
 wpAny (model X.prog X.w) X.A (handleBy (.ref e) X.env hs) (SP X pins D) X.xe s
noncomputable def Ends.gone (D:Ends) (i:Nat):Ends:={ nx:=fun σ H=>D.nx (σ.set i none) H,rt:=D.rt,bk:=fun σ H=>D.bk (σ.set i none) H,ct:=fun σ H=>D.ct (σ.set i none) H }
noncomputable def Ti:THs:=fun _ _ _ _ _=>False
noncomputable def hAs (K:PySem.W.Frag) (T:Addr) (i:Nat) (ts:TS) (rest:THs):THs:=fun C d D σ H=>∃ Ca b,C=.ref Ca∧PySem.W.subIn K (.ref Ca) (.ref T)=some b ∧
 if b=true then ∀ a,H a=none->ts (Ends.gone D i) (σ.set i (some (.ref a))) (upd H a (XO a Ca d)) else rest C d D σ H
section
variable {X:Cx}{T:Addr}{x n:Str}{np pos:Pos}{b₀:Stmt}{suite body:List Stmt}{ts:TS}{rest:List ExceptHandler}{tr:THs}{i:Nat}
theorem QC:PHs X [] Ti:=fun _ _ _ _ _ _ _ _ _ _ h=>h.elim
theorem Tj (hg:Gl X x) (hm:X.mg x=some (.ref T)) (Y:Catch X.K T) (hN:X.N.Nodup) (hi:X.N[i]?=some n) (hk:X.env.kindOf n=some .local) (hs:∀ ev,PSs (Cx.hand X ev fun _ _=>False) (b₀::suite) ts) (hr:PHs X rest tr)
  (hd:(x == ("__debug__":Str))=false:=by decide):PHs X (.ExceptHandler (some (.Name x np)) (some n) (b₀::suite) pos::rest) (hAs X.K T i ts tr):=by
 intro pins s σ H D e C d I fl h
 obtain ⟨Ca,b,rfl,hb,h⟩:=h
 obtain ⟨m,nh,oe,vs,he,hc,hrest⟩:=id fl
 refine wpAny_handleBy_cons (codeAny_handlers_test (rU (X:=Cx.hand X (.ref e) X.xe) (Inv.hand I (.ref e) X.xe) hg hm ?_ hd)) (by intro q;cases q)
 refine caught I.kIn Y he hc hb ?_
 cases b with
 | false=>exact hr pins s σ H D e _ d I fl h
 | true =>
  refine codeAny_handlers_suite_as (nA I fl fun s1 I1 f1=>?_)
  refine rT (Inv.track I1 f1) hN hi (.inl hk) (v:=.ref e) rfl (fun s2 I2=>?_) (.inr hk)
  refine wpAny_mono (hs (.ref e) pins s2 _ _ (Ends.gone D i) (Inv.hand I2 (.ref e) fun _ _=>False) (h e nh)) (fun f s3 q=>?_) fun _ _ z=>z.elim
  ·cases f with
   | next=>obtain ⟨σ',H',J,q⟩:=q;exact goes (Inv.zB I.ok J) hN hi hk fun s4 J4=>⟨_,H',J4,q⟩
   | brk=>obtain ⟨σ',H',J,q⟩:=q;exact goes (Inv.zB I.ok J) hN hi hk fun s4 J4=>⟨_,H',J4,q⟩
   | cont=>obtain ⟨σ',H',J,q⟩:=q;exact goes (Inv.zB I.ok J) hN hi hk fun s4 J4=>⟨_,H',J4,q⟩
   | ret u=>obtain ⟨v,σ',H',J,r,q⟩:=q;exact goes (Inv.zB I.ok J) hN hi hk fun s4 J4=>⟨v,_,H',J4,r,q⟩
noncomputable def O4 (X:Cx) (body:List Stmt) (tb:XK->TS):Prop:=∀ (pins:List (Addr×Obj)) (σ:St) (E:XK) (xe:Value->Shared->Prop),(∀ (H:Hp) (s:Shared) (ev:Value) (s':Shared),Inv X pins σ H s->CXS X.prog X.w X.stack H s E ev s'->xe ev s') ->
 ∀ (s:Shared) (H:Hp) (D:Ends),Inv X pins σ H s->tb E D σ H->wpAny (model X.prog X.w) X.A (execs body X.env) (SP X pins D) xe s
noncomputable def Tn (tb:XK->TS) (th:THs):TS:=fun D σ H=>tb (fun C d H'=>th C d D σ H') D σ H
theorem QD {h₀:ExceptHandler}{hs:List ExceptHandler}{tb:XK->TS}{th:THs} (hst:X.stack=X.env::X.outer) (hf:X.env.frame=some X.env.locals) (hb:O4 X body tb) (hh:PHs X (h₀::hs) th):PS X (.Try body (h₀::hs) [] [] pos) (Tn tb th):=by
 intro pins s σ H D I h
 refine wpAny_Try_except (wpAny_mono (hb pins σ _ (FlS X pins σ fun C d H'=>th C d D σ H') (fun H s ev s' I c=>FlS.FJ I c) s H D I h) (fun f s1 q=>?_) fun ev s1 q=>?_)
 ·cases f with
  | next=>exact wpAny_pure q
  | brk=>exact q
  | cont=>exact q
  | ret u=>exact q
 ·obtain ⟨e,C,d,H',rfl,I1,f1,q⟩:=q
  exact wy I1 hst hf f1 fun s2 I2 f2 _=>nA I2 f2 fun s3 I3 f3=>hh pins s3 σ H' D e C d I3 f3 q
end
noncomputable def Tp (X:Cx) (e:Expr) (te:XK->TE):Prop:=∀ (pins:List (Addr×Obj)) (σ:St) (E:XK) (xe:Value->Shared->Prop),(∀ (H:Hp) (s:Shared) (ev:Value) (s':Shared),Inv X pins σ H s->CXS X.prog X.w X.stack H s E ev s'->xe ev s') ->
 ∀ (s:Shared) (H:Hp) (Q:VK),Inv X pins σ H s->te E σ H Q->wpAny (model X.prog X.w) X.A (eval e X.env) (EP X pins σ Q) xe s
section
variable {X:Cx}{k:Nat}{ps:List Str}{sp:Sp}{x:Str}{p pos:Pos}{e:Expr}{es:List Expr}{t:TA}{te:XK->TE}
theorem HB (G:wz X.prog X.w X.K X.mg X.base x k ps sp) (hr:eX k X.A) (hg:Gl X x) (ha:PA X.nox (e::es) t) (hdb:(x == ("__debug__":Str))=false:=by decide)
  (he:starEach (e::es) X.env=(false,eval e X.env)::starEach es X.env:=by rfl) (hpl:(backTo pos (starEach es X.env)).any (·.1)=false:=by rfl):Tp X (.Call (.Name x p) (e::es) [] pos) (fun E=>qF sp [] E t):=by
 obtain ⟨f,fd,hm,hk,hb,F⟩:=G
 intro pins σ E xe hx s H Q I h
 refine wpAny_Call_Name_kw (rU I hg hm ?_ hdb)
 refine PySem.W.callWith_K (h₀:=X.base) I.ok.mod.kin hk (wpAny_mono (ha pos pins s σ H _ (I.wish _) h) (fun us s1 ⟨vs,H1,I1,r,q⟩=>⟨I1.kIn,?_⟩) fun _ _ z=>z.elim) he hpl
 have I1:=I1.gO
 have q':sp (vs++[]) H1 Q E:=q
 rw [ZaE] at q'
 have hl:(us++[]).length=ps.length:=by rw [ZaE,←r.length];exact F.len _ _ _ _ q'
 have hb':=hb s1 us I1.kIn hl
 rw [ZaE] at hb'
 refine wpAny_call (codeAny_mono (F.run X.A X.stack s1 H1 ⟨us,[]⟩ us vs Q E hr I1.env0 hb' r q') fun r s' hq=>?_)
 cases r with
 | error ev=>exact hx H1 s1 ev s' I1 hq
 | ok fl =>
  cases fl with
  | ret u=>exact I1.after hq
  | next=>exact False.elim hq
  | brk=>exact False.elim hq
  | cont=>exact False.elim hq
theorem QG {xe:Value->Shared->Prop}{pins:List (Addr×Obj)}{D:Ends}{st:Stmt}{s:Shared} (h:wpAny (model X.prog X.w) X.A (exec st X.env) (SP X pins D) xe s):wpAny (model X.prog X.w) X.A (execs [st] X.env) (SP X pins D) xe s:=by
 refine wpAny_execs_cons (thn h fun f s1 q=>?_)
 cases f with
 | next=>exact wpAny_execs_nil q
 | ret v=>exact q
 | brk=>exact q
 | cont=>exact q
theorem Kp {i:Nat}{y:Str}{pos':Pos} (hN:X.N.Nodup) (hi:X.N[i]?=some y) (hx:Loc X.env.scope y) (he:Tp X e te) (hs:swapsWith e (some (.Name y pos')) pos.line X.env=pure false:=by rfl) (hf:X.fn y=true∨X.env.scope.names.lookup y=some .local:=by first | exact .inl rfl | exact .inr rfl | assumption) :
  O4 X [.Assign [.Name y pos'] e pos] (fun E=>Aa (te E) (uD i)):=by
 intro pins σ E xe hp s H D I h
 refine QG (wpAny_Assign_Name (thn (he pins σ E xe hp s H _ I h) fun v s1 ⟨y,H1,I1,r1,q1⟩=>?_) hs)
 exact rT I1 hN hi hx r1 (fun s2 I2=>⟨_,H1,I2,q1⟩) hf
end
noncomputable def XRS (K:PySem.W.Frag):Hp->Value->Option Addr->PV->Prop:=fun F ev d z=>∃ c l Ca dx xs,z=.exc c l∧ev=.ref Ca∧d=some dx∧XNm K Ca c∧F dx=some (.xd xs)∧xs.map (·.1)=l.map (·.1)∧∀ (j:Nat) x p,xs[j]?=some x->l[j]?=some p->Rep K F x.2 p.2
noncomputable def PrU (K:PySem.W.Frag) {α:Type} (F H:Hp) (E:XK) (ok:α->Prop):Res α->Prop
 | .ok a=>ok a
 | .ex z=>∀ e d F' H',Up F H F' H'->XRS K F' e d z->E e d H'
noncomputable def MJx {α:Type} (K:PySem.W.Frag) (C:Cg) (A:Rel α) (te:XK->TE) (f:Fn α):Prop :=
 ∀ E F H σ ρ Q r,RE K C.toCf F H σ ρ->f ρ=some r->PrU K F H E (fun a=>∀ v F' H',Up F H F' H'->A F' H' v a->Q v H') r->te E σ H Q
noncomputable def POx (K:PySem.W.Frag) (C:Cg) (F H:Hp) (E:XK) (D:Ends):Out->Prop
 | .ex z=>∀ e d F' H',Up F H F' H'->XRS K F' e d z->E e d H'
 | o=>PO' K C F D o
noncomputable def MSx (K:PySem.W.Frag) (C:Cg) (tb:XK->TS) (b:Sn):Prop:=∀ E F H σ ρ D o,RE K C.toCf F H σ ρ->b ρ=some o->POx K C F H E D o->tb E D σ H
noncomputable abbrev Cq (C:Cg):Cg:=⟨C.toCf,XR0⟩
section
variable {K:PySem.W.Frag}{C:Cg}{t:TA}{f:Fn (List PV)}{m:List PV->Option (Res PV)}{te:XK->TE}{fe:Fn PV}
theorem Kq (h:MA K (Cq C) t f):MJx K C (aF K) (fun E=>qF (spM K (XRS K) m) [] E t) (dh m f):=by
 intro E F H σ ρ Q r R e P
 rcases fL e with ⟨z,e1,rfl⟩ | ⟨l,e1,hk⟩
 ·exact h F H σ ρ _ _ R e1 fun _ _ _ _ _ _ x=>x.elim
 ·refine h F H σ ρ _ _ R e1 fun xs F1 H1 u a=>?_
  refine ⟨l,F1,r,u.fh,by rw [ZaE];exact a,hk,?_⟩
  cases r with
  | ok p=>exact fun v F' H' u' rv=>P v F' H' (u.trans u') rv
  | ex z=>exact fun e d F' H' u' x=>P e d F' H' (u.trans u') x
theorem M5 (i:Nat) (h:MJx K C (aF K) te fe):MSx K C (fun E=>Aa (te E) (uD i)) (cY fe (gN i)):=by
 intro E F H σ ρ D o R e P
 rcases gk e with ⟨z,e1,rfl⟩ | ⟨p,e1,hk⟩
 ·exact h E F H σ ρ _ _ R e1 P
 ·cases hk
  exact h E F H σ ρ _ _ R e1 fun v F1 H1 u a=>P F1 H1 _ u.ff ((R.up u).set i a)
noncomputable def MHs (K:PySem.W.Frag) (C:Cg) (th:THs) (h:PV->Sn):Prop:=∀ F H σ ρ D o z ev d,RE K C.toCf F H σ ρ->XRS K F ev d z->h z ρ=some o->PO' K C F D o->th ev d D σ H
noncomputable def DK (b:Sn) (h:PV->Sn):Sn:=fun ρ=>match b ρ with
 | some (.ex z)=>h z ρ
 | o=>o
theorem QH {tb:XK->TS}{th:THs}{b:Sn}{h:PV->Sn} (hb:MSx K C tb b) (hh:MHs K C th h):MS K C (Tn tb th) (DK b h):=by
 intro F H σ ρ D o R e P
 unfold DK at e
 split at e
 ·rename_i z hz
  refine hb _ F H σ ρ D (.ex z) R hz fun ev d F' H' u x=>?_
  exact hh F' H' σ ρ D o z ev d (R.up u) x e (P.up u.ff)
 ·rename_i hn
  refine hb _ F H σ ρ D o R e ?_
  cases o with
  | ex z=>exact absurd e (hn z)
  | nx ρ=>exact P
  | bk ρ=>exact P
  | ct ρ=>exact P
  | rt p=>exact P
  | ro p=>exact P
  | rd p=>exact P
noncomputable def O5:PV->Sn:=fun _ _=>none
theorem QJ:MHs K C Ti O5:=fun _ _ _ _ _ _ _ _ _ _ _ e=>by cases e
noncomputable def O6 (K:PySem.W.Frag) (c t:Str) (b:Bool):Prop:=∃ Ca T,PySem.W.nsIn K mainGlobals c=some (some (.ref Ca))∧PySem.W.nsIn K mainGlobals t=some (some (.ref T))∧PySem.W.subIn K (.ref Ca) (.ref T)=some b
noncomputable def O7 (i:Nat):Option Out->Option Out
 | some (.nx ρ)=>some (.nx (ρ.set i none))
 | some (.bk ρ)=>some (.bk (ρ.set i none))
 | some (.ct ρ)=>some (.ct (ρ.set i none))
 | o=>o
noncomputable def M6 (sub:Str->Option Bool) (i:Nat) (suite:Sn) (rest:PV->Sn):PV->Sn:=fun z ρ=>match z with
 | .exc c _=>(match sub c with
  | some true=>O7 i (suite (ρ.set i (some (.sh z))))
  | some false=>rest z ρ
  | none=>none)
 | _=>none
theorem RE.gone {Cc:Cf}{F H:Hp}{σ:St}{ρ:Rho} (h:RE K Cc F H σ ρ) (i:Nat):RE K Cc F H (σ.set i none) (ρ.set i none) where
 rb:=h.rb
 len:=by simp [h.len]
 sh:=fun j q e=>by
  rcases get_set e with ⟨e1,e2⟩ | ⟨e1,e2⟩
  ·cases e2
  ·obtain ⟨w,e3,e4⟩:=h.sh j q e2
   exact ⟨w,by rw [Zal e1];exact e3,e4⟩
 ow:=fun j q e=>by
  rcases get_set e with ⟨e1,e2⟩ | ⟨e1,e2⟩
  ·cases e2
  ·obtain ⟨w,e3,e4⟩:=h.ow j q e2
   exact ⟨w,by rw [Zal e1];exact e3,e4⟩
 dis:=fun j k q q' a e e' f f'=>by
  rcases get_set e with ⟨e1,e2⟩ | ⟨e1,e2⟩
  ·cases e2
  ·rcases get_set e' with ⟨e1',e2'⟩ | ⟨e1',e2'⟩
   ·cases e2'
   ·rw [Zal e1] at f
    rw [Zal e1'] at f'
    exact h.dis j k q q' a e2 e2' f f'
 dd:=let ⟨P,d⟩:=h.dd;⟨P,d.own,d.dis,fun j k q b z e f=>by
   rcases get_set e with ⟨e1,e2⟩ | ⟨e1,e2⟩
   ·cases e2
   ·rw [Zal e1] at f;exact d.ow j k q b z e2 f,fun j q e=>by
   rcases get_set e with ⟨e1,e2⟩ | ⟨e1,e2⟩
   ·cases e2
   ·obtain ⟨w,e3,e4⟩:=d.dp j q e2
    exact ⟨w,by rw [Zal e1];exact e3,e4⟩⟩
theorem Tq {T:Addr}{tn:Str}{i:Nat}{ts:TS}{tr:THs}{sub:Str->Option Bool}{suite:Sn}{rest:PV->Sn} (hT:PySem.W.nsIn K mainGlobals tn=some (some (.ref T))) (hsub:∀ c b,sub c=some b->O6 K c tn b)
  (hs:MS K C ts suite) (hr:MHs K C tr rest):MHs K C (hAs K T i ts tr) (M6 sub i suite rest):=by
 intro F H σ ρ D o z ev d R x e P
 obtain ⟨c,l,Ca,dx,xs,rfl,rfl,rfl,nm,hd,hl,hr'⟩:=id x
 unfold M6 at e
 dsimp only at e
 split at e
 ·rename_i hb
  obtain ⟨Ca',T',h1,h2,h3⟩:=hsub c _ hb
  rw [nm.ns] at h1;cases h1
  rw [hT] at h2;cases h2
  refine ⟨Ca,true,rfl,h3,?_⟩
  rw [if_pos rfl]
  intro a na
  have u:Up F H (upd F a (XO a Ca (some dx))) (upd H a (XO a Ca (some dx))):=Up.new R.rb.sub na
  have rep:Rep K (upd F a (XO a Ca (some dx))) (.ref a) (.exc c l):=.exc nm aX (u.ff _ _ hd) hl fun j x p a b=>(hr' j x p a b).up u.ff
  cases ho:suite (ρ.set i (some (.sh (.exc c l)))) with
  | none=>rw [ho] at e;cases e
  | some oo =>
   rw [ho] at e
   refine hs _ _ _ _ (Ends.gone D i) oo ((R.up u).set i rep) ho ?_
   cases oo with
   | nx ρ'=>cases e;exact fun F' H' σ' s' R'=>P F' H' _ (u.ff.trans s') (R'.gone i)
   | bk ρ'=>cases e;exact fun F' H' σ' s' R'=>P F' H' _ (u.ff.trans s') (R'.gone i)
   | ct ρ'=>cases e;exact fun F' H' σ' s' R'=>P F' H' _ (u.ff.trans s') (R'.gone i)
   | rt p=>cases e;exact fun v F' H' s' rb rv=>P v F' H' (u.ff.trans s') rb rv
   | ro p=>cases e;exact fun v F' H' s' rb rv=>P v F' H' (u.ff.trans s') rb rv
   | rd p=>cases e;exact fun v F' H' S s'=>P v F' H' S (u.ff.trans s')
   | ex z=>cases e;exact PX.up P u.ff
 ·rename_i hb
  obtain ⟨Ca',T',h1,h2,h3⟩:=hsub c _ hb
  rw [nm.ns] at h1;cases h1
  rw [hT] at h2;cases h2
  refine ⟨Ca,false,rfl,h3,?_⟩
  rw [if_neg (by decide)]
  exact hr F H σ ρ D o _ _ _ R x e P
 ·cases e
end
noncomputable def spI (Ca:Addr) (fs:List Str):Sp:=fun vs H Q _=>∃ e args,vs=.ref e::args∧args.length=fs.length∧H e=some (XN e Ca none) ∧
 ∀ dx H',H dx=none->H' e=some (XN e Ca (some dx))->H' dx=some (XD dx (fs.zip args))->(∀ b,b≠e->b≠dx->H' b=H b)->Q .non H'
theorem M7 {Ca:Addr}{fs:List Str}{vs:List V}{H:Hp}{Q:VK}{E:XK} (h:spI Ca fs vs H Q E):vs.length=fs.length+1:=by
 obtain ⟨e,args,rfl,hl,_⟩:=h
 simp [hl]
section
variable {K:PySem.W.Frag}{Ca:Addr}{cd:ClassData}{vs:List V}{H:Hp}{Q:VK}{E:XK}{N:List Str}{f1 f2 f3:Str}
theorem ym {vs:List V}{i:Nat}{v:V} (h:vs[i]?=some v):(start N vs)[i]?=some (some v):=by
 unfold start
 have hi:i < vs.length:=(Zap.mp h).1
 rw [Zax (by simpa using hi),Zag,h];rfl
theorem HD (Y:XCls K Ca cd) (n1:PySem.W.findIn K (.ref Ca) f1=some none) (h:spI Ca [f1] vs H Q E) :
  sX0 K (qU 0) (qU 1) f1 { nx:=fun _ H'=>Q .non H',rt:=Q } (start N vs) H:=by
 obtain ⟨e,args,rfl,hl,he,h⟩:=h
 match args,hl with
 | [v1],_ =>
  refine ⟨v1,ym rfl,.ref e,ym rfl,e,Ca,cd,rfl,he,Y,n1,fun dx nd=>h dx _ nd aX ?_ fun b b1 b2=>?_⟩
  ·rw [aO (fun z=>by rw [z,he] at nd;cases nd),aX];rfl
  ·rw [aO b1,aO b2]
end
section
variable {K:PySem.W.Frag}{C:Cg}{t:TA}{f:Fn (List PV)}{Ca:Addr}{c:Str}{fs:List Str}
noncomputable def rD (c:Str) (fs:List Str) (f:Fn (List PV)):Sn:=fun ρ=>lz (f ρ) fun l=>if l.length=fs.length then some (.ex (.exc c (fs.zip l))) else none
theorem MA.sS {ta:TA}{F H:Hp}{σ:St}{ρ:Rho}{D:Ends}{o:Out}{Q:List V->Hp->Prop}{k:List PV->Option Out} (h:MA K C ta f) (R:RE K C.toCf F H σ ρ) (hb:lz (f ρ) k=some o) (P:PO' K C F D o)
  (go:∀ l xs F1 H1,k l=some o->Up F H F1 H1->bR K F1 xs l->Q xs H1):ta σ H Q:=by
 rcases gk hb with ⟨z,e,rfl⟩ | ⟨p,e,hk⟩
 ·exact h F H σ ρ Q _ R e P
 ·exact h F H σ ρ Q _ R e fun xs F1 H1 u a=>go p xs F1 H1 hk u a
theorem zE {α β:Type}:∀ {fs:List α}{l:List β},l.length=fs.length->(fs.zip l).map (·.1)=fs
 | [],[],_=>rfl
 | f::fs,x::l,h=>by simp only [List.zip_cons_cons,Zah];rw [zE (by simpa using h)]
theorem Kr (hX:C.XR=XRS K) (nm:XNm K Ca c) (hz:fs.length≤sizeLine) (h:MA K C t f):MS K C (u5 Ca (spI Ca fs) C.E t) (rD c fs f):=by
 intro F H σ ρ D o R e P
 refine h.sS R e P fun l xs F1 H1 hk u a=>?_
 split at hk
 ·rename_i hl
  cases hk
  refine ⟨by rw [a.1,hl];exact hz,fun b nb=>⟨b,xs,rfl,by rw [a.1,hl],aX,fun dx H' nd h1 h2 h3=>⟨rfl,dx,fs.zip xs,h1,h2,?_,?_⟩⟩⟩
  ·intro z;subst z;rw [aX] at nd;cases nd
  ·have ne:dx≠b:=fun z=>by subst z;rw [aX] at nd;cases nd
   have nd1:H1 dx=none:=by rw [aO ne] at nd;exact nd
   have eq:upd (del H' b) dx (.xd (fs.zip xs))=upd H1 dx (.xd (fs.zip xs)):=by
    funext g
    by_cases g1:g=dx
    ·subst g1;rw [aX,aX]
    ·rw [aO g1,aO g1]
     by_cases g2:g=b
     ·subst g2;rw [Bt,nb]
     ·rw [rC g2,h3 g g2 g1,aO g2]
   rw [eq]
   have u2:Up F1 H1 (upd F1 dx (.xd (fs.zip xs))) (upd H1 dx (.xd (fs.zip xs))):=Up.new u.fh nd1
   have ut:=u.trans u2
   refine P (.ref Ca) (some dx) _ _ ut.ff (R.rb.up ut) ?_
   rw [hX]
   refine ⟨c,fs.zip l,Ca,dx,fs.zip xs,rfl,rfl,rfl,nm,aX,?_,fun j x p e1 e2=>?_⟩
   ·rw [zE (by rw [a.1,hl]),zE hl]
   ·have z1:=List.getElem?_zip_eq_some.mp e1
    have z2:=List.getElem?_zip_eq_some.mp e2
    exact (a.2 j _ _ z1.2 z2.2).up u2.ff
 ·cases hk
end
noncomputable abbrev CE (K:PySem.W.Frag) (E:XK) (io:Addr->Prop) (H0 F0:Hp):Cg:=⟨⟨io,True,H0,F0,E⟩,XRS K⟩
section
variable {K:PySem.W.Frag}{N:List Str}{vs:List V}{H:Hp}{Q:VK}{E:XK}{t:TS}{b:Sn}{m:List PV->Option (Res PV)}
theorem M8 {k n:Nat} (hk:N.length=k+n) (hm:∀ ps r,m ps=some r->ps.length=k∧fin (b (startR ps n))=some r) (h:spM K (XRS K) m vs H Q E) (hS:∀ (io:Addr->Prop) (H0 F0:Hp),(∀ a,¬io a)->MS K (CE K E io H0 F0) t b) :
  t { nx:=fun _ H'=>Q .non H',rt:=Q } (start N vs) H:=by
 obtain ⟨ps,F,r,s,rp,e,P⟩:=h
 obtain ⟨hl,e⟩:=hm ps r e
 have R:=tE (E:=E) (N:=N) (n:=n) s rp (by rw [rp.1,hl];exact hk)
 have up:∀ {F' H':Hp},bh F F'->RB ⟨fun _=>False,True,H,F,E⟩ F' H'->Up F H F' H':=fun s' rb=>⟨s',fun c o q=>rb.keep c o q id,rb.new,rb.sub⟩
 have M:=hS (fun _=>False) H F (fun _ h=>h)
 cases ho:b (startR ps n) with
 | none=>rw [ho] at e;cases e
 | some o =>
  rw [ho] at e
  refine M F H _ _ _ o R ho ?_
  cases o with
  | nx ρ=>cases e;exact fun F' H' σ s' R'=>P .non F' H' (up s' R'.rb) .non
  | rt p=>cases e;exact fun v F' H' s' rb rv=>P v F' H' (up s' rb) rv
  | ex z=>cases e;exact fun ev d F' H' s' rb x=>P ev d F' H' (up s' rb) x
  | ro p=>cases e
  | rd p=>cases e
  | bk ρ=>cases e
  | ct ρ=>cases e
theorem Ks {k n:Nat} (hk:N.length=k+n) (hm:∀ ps r,m ps=some r->ps.length=k∧qz (b (startR ps n))=some r) (h:spO K (XRS K) m vs H Q E) (hS:∀ (io:Addr->Prop) (H0 F0:Hp),(∀ a,¬io a)->MS K (CE K E io H0 F0) t b) :
  t { nx:=fun _ H'=>Q .non H',rt:=Q } (start N vs) H:=by
 obtain ⟨ps,F,r,s,rp,e,P⟩:=h
 obtain ⟨hl,e⟩:=hm ps r e
 have R:=tE (E:=E) (N:=N) (n:=n) s rp (by rw [rp.1,hl];exact hk)
 have up:∀ {F' H':Hp},bh F F'->RB ⟨fun _=>False,True,H,F,E⟩ F' H'->Up F H F' H':=fun s' rb=>⟨s',fun c o q=>rb.keep c o q id,rb.new,rb.sub⟩
 have M:=hS (fun _=>False) H F (fun _ h=>h)
 cases ho:b (startR ps n) with
 | none=>rw [ho] at e;cases e
 | some o =>
  rw [ho] at e
  refine M F H _ _ _ o R ho ?_
  cases o with
  | ro p=>cases e;exact fun a F' H' s' rb w n1 n2=>P a F' H' (up s' rb) n2 n1 w
  | rd p=>cases e
  | ex z=>cases e;exact fun ev d F' H' s' rb x=>P ev d F' H' (up s' rb) x
  | nx ρ=>cases e
  | rt p=>cases e
  | bk ρ=>cases e
  | ct ρ=>cases e
variable {C:Cg}{ta:TA}{f:Fn (List PV)}
theorem Bu (h:MA K C ta f):MJ K C (aF K) (qF (spM K XR0 m) [] E0 ta) (dh m f):=by
 intro F H σ ρ Q r R e P
 refine h.run R e P fun l xs F1 H1 hk u a=>?_
 refine ⟨l,F1,r,u.fh,by rw [ZaE];exact a,hk,?_⟩
 cases r with
 | ok p=>exact fun v F' H' u' rv=>P v F' H' (u.trans u') rv
 | ex z=>exact fun e d F' H' u' x=>x.elim
theorem HF (h:MAL K C ta f):MJ K C (aF K) (qF (spM K XR0 m) [] E0 ta) (yV m f):=by
 intro F H σ ρ Q r R e P
 refine h.run R e P fun l xs F1 H1 hk u a=>?_
 split at hk
 ·rename_i p hp
  split at hk
  ·rename_i hf
   cases hk
   refine ⟨l,H1,.ok p,bh.refl _,by rw [ZaE];exact a,hp,fun v F' H' u' rv=>?_⟩
   exact P v F1 H' (u.trans ⟨bh.refl _,u'.hh,fun _ _ q=>.inl q,u.fh.trans u'.hh⟩) (Rep.free rv hf)
  ·cases hk
 ·cases hk
end
section
variable {P:Program}{w:World}{K:PySem.W.Frag}{mg:Str->Option Value}{base:Heap}
theorem bY.okX {x:Str}{st:Stmt}{ps N:List Str}{k:Nat}{sp:Sp} (D:bY K mg x st ps) (S:bZ N ps (aL st)) (len:∀ vs H Q E,sp vs H Q E->vs.length=ps.length)
  (hbody:∀ (f:Addr) (cdv:Value) (A:Around) (outer:List Env) (s:Shared) (H:Hp) (vs:List V) (Q:VK) (E:XK),eX k (A.deeper (envOfC x (aL st) s.heap.objs.size f cdv))->sp vs H Q E ->
   ∃ t,PSs (cxX P w K mg base N x (aL st) f cdv A outer s H E) (bQ st) t∧t { nx:=fun _ H'=>Q .non H',rt:=Q } (start N vs) H):wz P w K mg base x (k+1) ps sp:=by
 obtain ⟨f,fd,e,F,b⟩:=D.ex
 obtain ⟨oc,od,kV,doc,pm,an,cdv,ct,osl,rfl,lk,hcd⟩:=F.ex
 refine ⟨f,_,e,F.kp,b,Oh lk hcd S len fun A outer s H vs Q E hr hsp=>?_⟩
 obtain ⟨t,h,q⟩:=hbody f cdv A outer s H vs Q E hr hsp
 exact ⟨t,PSs.ofX (fun e s' z=>leaves z) h,q⟩
end
section
variable {X:Cx}{k:Nat}{ps:List Str}{sp:Sp}{x:Str}{p pos:Pos}{e:Expr}{es:List Expr}{t:TA}{E:XK}
theorem Ku (hx:uc (CXS X.prog X.w) X E) (G:wz X.prog X.w X.K X.mg X.base x k ps sp) (hr:eX k X.A) (hg:Gl X x) (ha:PA X (e::es) t) (hdb:(x == ("__debug__":Str))=false:=by decide)
  (he:starEach (e::es) X.env=(false,eval e X.env)::starEach es X.env:=by rfl) (hpl:(backTo pos (starEach es X.env)).any (·.1)=false:=by rfl):PE X (.Call (.Name x p) (e::es) [] pos) (qF sp [] E t):=by
 obtain ⟨f,fd,e1,e2,e3,e4⟩:=G
 exact Et e4 hr hg e1 e2 e3 .nil hx ha hdb he hpl
end
open PySem PySem.Spec PyProof.Rows PySem.Calls PySem.W Builtin Builtin.ObjectAttr
theorem Kv {prog:Program}{w:World}{A:Around}{E:Value->Shared->Prop}{s:Shared}{K:Frag}{x C:Addr}{ox:Obj}{od:Option Obj}{name:Str}{expr:Bool}{Q:Value->Shared->Prop}{v:Value} (X:K.In s.heap) (I:InstAt s.heap x ox C od) (hga:findIn K (.ref C) "__getattribute__"=some (some (.builtin "BaseException.__getattribute__")))
  (hgn:findIn K (.ref C) "__getattr__"=some none) (hb:subIn K (.ref C) (.type "BaseException")=some true)
  (hf:findObj K C od name=some (.value v)) (hh:handedIn v=true) (h:Q v { s with toks:=s.toks+1 }):wpAny (model prog w) A (getAttr (.ref x) name expr) Q E s:=by
 obtain ⟨hp,g,d,t,os⟩:=s
 have L0:=I.type (M:=model prog w)
 have L1:=looks_findIn (M:=model prog w) X hga
 have L2:=looks_findIn (M:=model prog w) X hgn
 have L3:=looks_find (M:=model prog w) X I hf
 have LB:Looks (model prog w) hp (isInstance (.ref x) (.type "BaseException")) true:=L0.andThen (looks_subIn X hb)
 have f3:=Zby.ga.bind (.ref x)
 have hx0:(expr && onTheHeap (Value.builtin "BaseException.__getattribute__"))=false:=by cases expr <;> rfl
 have hx2:(Value.builtin "BaseException.__getattribute__" == Value.builtin "object.__getattribute__")=false:=by decide +kernel
 have hx1:(onTheHeap (Value.ref C) && Value.builtin "BaseException.__getattribute__" == Value.builtin "object.__getattribute__")=false:=by rw [hx2];rfl
 unfold getAttr getAttrBy
 refine wpAny_bind (wpAny_mkText (wpAny_holding (wpAny_bind (L0.at (wpAny_bind (L1.at ?_))))))
 dsimp only
 repeat (any_goals (first | assumption | with_reducible refine L2.at ?_ | wp_step))
 have ha:argsOk "BaseException.__getattribute__" ⟨[.ref x,.str name t],[]⟩:=by unfold argsOk;kernel_rfl
 refine codeAny_call_builtin Zby.ga.plain PySem.F.entry_bexc_ga (check_slot (i:="BaseException.__getattribute__") (owner:="BaseException") (n:="__getattribute__") (by decide +kernel) (by decide +kernel) LB ha ?_)
 unfold Builtin.«object.__getattribute__»
 repeat (any_goals (first | assumption | with_reducible refine L0.at ?_ | with_reducible refine L3.at ?_ | wp_step))
 show wpAny _ _ (handedOut v) _ _ _
 rw [handedOut_of hh]
 exact wpAny_pure h
theorem DN {prog:Program}{w:World}{A:Around}{E:Value->Shared->Prop}{s:Shared}{K:Frag}{x C:Addr}{ox:Obj}{od:Option Obj}{Q:Option Value->Shared->Prop} (X:K.In s.heap) (I:InstAt s.heap x ox C od) (hga:findIn K (.ref C) "__getattribute__"=some (some (.builtin "BaseException.__getattribute__")))
  (hgn:findIn K (.ref C) "__getattr__"=some none) (hb:subIn K (.ref C) (.type "BaseException")=some true)
  (hf:findObj K C od "__class__"=some (.bind (.builtin "getset_descriptor.__get__") (.builtin "object.__class__"))) (hm:mroIn K C (.type "object")=some true)
  (h:Q (some (.ref C)) { s with toks:=s.toks+1 }):wpAny (model prog w) A (getAttr? (.ref x) "__class__") Q E s:=by
 obtain ⟨hp,g,d,t,os⟩:=s
 have L0:=I.type (M:=model prog w)
 have L1:=looks_findIn (M:=model prog w) X hga
 have L2:=looks_findIn (M:=model prog w) X hgn
 have L3:=looks_find (M:=model prog w) X I hf
 have LB:Looks (model prog w) hp (isInstance (.ref x) (.type "BaseException")) true:=L0.andThen (looks_subIn X hb)
 have f3:=Zby.ga.bind (.ref x)
 have hx2:(Value.builtin "BaseException.__getattribute__" == Value.builtin "object.__getattribute__")=false:=by decide +kernel
 have hx1:(onTheHeap (Value.ref C) && Value.builtin "BaseException.__getattribute__" == Value.builtin "object.__getattribute__")=false:=by rw [hx2];rfl
 unfold getAttr? getAttrBy?
 repeat (any_goals (first | assumption | with_reducible refine L0.at ?_ | with_reducible refine L1.at ?_ | with_reducible refine L2.at ?_ | wp_step))
 have ha:argsOk "BaseException.__getattribute__" ⟨[.ref x,.str "__class__" t],[]⟩:=by unfold argsOk;kernel_rfl
 refine codeAny_call_builtin Zby.ga.plain PySem.F.entry_bexc_ga (check_slot (i:="BaseException.__getattribute__") (owner:="BaseException") (n:="__getattribute__") (by decide +kernel) (by decide +kernel) LB ha ?_)
 unfold Builtin.«object.__getattribute__»
 repeat (any_goals (first | assumption | with_reducible refine L0.at ?_ | with_reducible refine L3.at ?_ | wp_step))
 refine class_get (ox:=ox) (od:=od) X I hm ?_
 repeat (any_goals (first | assumption | wp_step))
structure XI (K:Frag) (C:Addr):Prop where
 ga:findIn K (.ref C) "__getattribute__"=some (some (.builtin "BaseException.__getattribute__"))
 gn:findIn K (.ref C) "__getattr__"=some none
 be:subIn K (.ref C) (.type "BaseException")=some true
 hd:hasDictIn K C=true
 cl:findIn K (.ref C) "__class__"=some (some (.builtin "object.__class__"))
 sp:specialIn K (.builtin "object.__class__") "__get__"=some (some (.builtin "getset_descriptor.__get__"))
 tk:takesIn K (.builtin "object.__class__")=some true
 ob:mroIn K C (.type "object")=some true
theorem Bv {K:Frag}{x D:Addr}{ox od:Obj} (Y:XI K D):KitX K (.ref x) (.ref D) (fun h=>InstAt h x ox D (some od)) where
 ty:=fun _ _ _ I=>I.type
 it:=fun _ _ X _=>by
  obtain ⟨cdD,hcD,_⟩:=any_some Y.hd
  unfold clsIn at hcD
  split at hcD
  ·rename_i c' d' cd' sl' ho
   intro A' Q' E' s' k q
   unfold isType loadHead
   exact wpAny_bind (wpAny_loadPart (k _ _ (X _ _ ho)) (wpAny_pure q))
  ·cases hcD
 ne:=fun h tp dd its n sl X htp=>by
  obtain ⟨cdD,hcD,_⟩:=any_some Y.hd
  refine Bool.eq_false_iff.mpr fun q=>?_
  have e:D=tp:=ZaT (beq_iff_eq.mp q)
  subst e
  unfold clsIn at hcD
  split at hcD
  ·rename_i c' d' cd' sl' ho
   have z:=(X _ _ ho).symm.trans htp
   cases z
  ·cases hcD
 ca:=fun X I k=>DN X I Y.ga Y.gn Y.be (findObj_data (by obtain ⟨cd,hc,_⟩:=any_some Y.hd;rw [hc];rfl) Y.cl Y.sp Y.tk) Y.ob k
structure KCl (K:Frag) (T:Addr):Prop where
 cls:∃ oc od cd sl,K.lookup T=some ⟨oc,od,.cls cd,sl⟩
 ty:typeIn K (.ref T)=some (.type "type")
theorem bu {K:Frag}{t:Value}{T:Addr}{b:Bool} (Y:KCl K T) (hs:subIn K t (.ref T)=some b) (hb:t=.ref T->b=true):kitOne K t (.ref T)=some b:=by
 unfold kitOne
 split
 ·rename_i e
  rw [hb (beq_iff_eq.mp e)]
 ·obtain ⟨oc,od,cd,sl,hl⟩:=Y.cls
  unfold kitCls
  dsimp only
  rw [if_pos (by unfold clsIn;rw [hl,Y.ty];rfl)]
  exact hs
theorem HJ {K:Frag}{C:Addr}{T:String}{b:Bool} (hm:kitMeta T=true) (hs:subIn K (.ref C) (.type T)=some b):kitOne K (.ref C) (.type T)=some b:=by
 unfold kitOne
 rw [if_neg (by simp)]
 unfold kitCls
 dsimp only
 rw [if_pos hm]
 exact hs
theorem nC {K:Frag}{t:Value}:kitAny K t []=some false:=rfl
theorem bL {K:Frag}{t c:Value}{r:List Value}{b:Bool} (h:kitOne K t c=some false) (hr:kitAny K t r=some b):kitAny K t (c::r)=some b:=by
 unfold kitAny;rw [h];exact hr
noncomputable def QK (K:PySem.W.Frag) (T:V) (Tv:Value):List V->Hp->VK->Prop:=fun xs H Q=>∃ x b,xs=[x,T]∧((∃ a C dx fs,x=.ref a∧H a=some (XO a C (some dx))∧H dx=some (.xd fs)∧XI K C∧PySem.W.kitOne K (.ref C) Tv=some b) ∨
 (x=.non∧PySem.W.kitOne K (.type "NoneType") Tv=some b))∧Q (.bl b) H
noncomputable def Kw (K:PySem.W.Frag) (Ts:List Addr):List V->Hp->VK->Prop:=fun xs H Q=>∃ x tp b,xs=[x,.ref tp]∧SqT K H tp (Ts.map V.ref)∧((∃ a C dx fs,x=.ref a∧H a=some (XO a C (some dx))∧H dx=some (.xd fs)∧XI K C∧PySem.W.kitAny K (.ref C) (Ts.map Value.ref)=some b) ∨
 (x=.non∧PySem.W.kitAny K (.type "NoneType") (Ts.map Value.ref)=some b))∧Q (.bl b) H
section
variable {X:Cx}{pins:List (Addr×Obj)}{σ:St}{H:Hp}{s:Shared}
theorem XO.inst (I:Inv X pins σ H s) {a C dx:Addr}{fs:List (Str×V)} (h:H a=some (XO a C (some dx))) (hd:H dx=some (.xd fs)):∃ ox od mA,PySem.W.InstAt s.heap a ox C (some od)∧s.heap.Ns1 dx mA∧(∀ f,rR (fs.lookup f) (mA f)) ∧
  ∃ vs:Array Value,s.heap.get? a=some { cls:=.ref C,dict:=some dx,data:=.fields vs }:=by
 obtain ⟨vs,e⟩:=XO.at I h
 obtain ⟨mA,n,r⟩:=I.hok _ _ hd
 obtain ⟨od,ho,hl⟩:=t8 n
 exact ⟨_,od,mA,⟨e,rfl,rfl,ho⟩,n,r,vs,e⟩
theorem Bw {T:V}{Tv:Value} (hT:RelV T Tv) (hu:∀ u,RelV T u->u=Tv):jt X (.builtin "isinstance") (QK X.K T Tv):=by
 intro pins s σ H xs us Q I rv h
 obtain ⟨x,b,rfl,h,q⟩:=h
 obtain ⟨u,v,rfl,ru,rv'⟩:=rv.two
 obtain rfl:=hu v rv'
 have fin:∀ tk,EP X pins σ Q (.bool b) { s with toks:=tk }:=fun tk=>⟨.bl b,H,I.tok _,rfl,q⟩
 rcases h with ⟨a,C,dx,fs,rfl,ha,hd,Y,e⟩ | ⟨rfl,e⟩
 ·cases ru
  obtain ⟨ox,od,mA,J,_⟩:=XO.inst I ha hd
  exact Za7 (Bv Y) I.kIn J e (fun z=>nomatch z) fin
 ·cases ru
  exact Za7 PySem.W.kitx_none I.kIn True.intro e (fun z=>nomatch z) fin
theorem yo:∀ {Ts:List Addr}{us:List Value},Vals (Ts.map V.ref) us->us=Ts.map Value.ref
 | [],us,h=>by cases h;rfl
 | t::Ts,us,h=>by
  cases h with
  | cons r t=>cases r;rw [yo t];rfl
theorem yp {Ts:List Addr}:jt X (.builtin "isinstance") (Kw X.K Ts):=by
 intro pins s σ H xs us Q I rv h
 obtain ⟨x,tp,b,rfl,hs,h,q⟩:=h
 obtain ⟨u,v,rfl,ru,rv'⟩:=rv.two
 cases rv'
 have fin:∀ tk,EP X pins σ Q (.bool b) { s with toks:=tk }:=fun tk=>⟨.bl b,H,I.tok _,rfl,q⟩
 obtain ⟨its,r,⟨⟨oc,dd,dt,sl⟩,e1,e2,n,e3⟩,_⟩:=I.tuple hs
 cases e2
 cases e3
 obtain rfl:=yo r
 rcases h with ⟨a,C,dx,fs,rfl,ha,hd,Y,e⟩ | ⟨rfl,e⟩
 ·cases ru
  obtain ⟨ox,od,mA,J,_⟩:=XO.inst I ha hd
  exact PySem.W.kia_tup (Bv Y) I.kIn J e1 e (fun z=>nomatch z) fin
 ·cases ru
  exact PySem.W.kia_tup PySem.W.kitx_none I.kIn True.intro e1 e (fun z=>nomatch z) fin
noncomputable def Ky (K:PySem.W.Frag) (te:TE) (f:Str):TE:=fun σ H Q=>te σ H fun x H1=>∃ a C dx fs v,x=.ref a∧H1 a=some (XO a C (some dx))∧H1 dx=some (.xd fs)∧XI K C∧PySem.W.findIn K (.ref C) f=some none∧fs.lookup f=some v∧Q v H1
theorem M9 {e:Expr}{te:TE}{f:Str}{pos:Pos} (he:PE X e te) (hb:attributeBase e f X.env (eval e X.env)=eval e X.env):PE X (.Attribute e f pos) (Ky X.K te f):=by
 intro pins s σ H Q I h
 refine Lp hb (thn (he pins s σ H _ I h) fun u s1 ⟨x,H1,I1,rx,a,C,dx,fs,v,ex,ea,ed,Y,n,l,q⟩=>?_)
 subst ex
 obtain rfl:u=Value.ref a:=rx
 obtain ⟨ox,od,mA,J,n1,r,vs,hx⟩:=XO.inst I1 ea ed
 have rf:=r f
 rw [l] at rf
 cases hv:mA f with
 | none=>rw [hv] at rf;exact rf.elim
 | some u' =>
  rw [hv] at rf
  have rf:RelV v u':=rf
  obtain ⟨od2,ho2,hl2⟩:=t8 n1
  have J2:PySem.W.InstAt s1.heap a _ C (some od2):=⟨hx,rfl,rfl,ho2⟩
  exact Kv I1.kIn J2 Y.ga Y.gn Y.be (PySem.W.findObj_own Y.hd n rfl (by rw [hl2,hv])) (GK rf) ⟨v,H1,I1.tok _,rf,q⟩
end
section
variable {K:PySem.W.Frag}{C:Cg}{te:TE}{f:Fn PV}
noncomputable def Bx (sub:Str->Option Bool) (no:Bool) (f:Fn PV):Fn PV:=fun ρ=>bnd (f ρ) fun p=>match p with
 | .exc c (_::_)=>(sub c).map fun b=>.ok (.bl b)
 | .non=>some (.ok (.bl no))
 | _=>none
theorem Rep.zF {F:Hp}{v:V}{c:Str}{x:Str×PV}{l:List (Str×PV)} (h:Rep K F v (.exc c (x::l))):∃ a Ca dx xs,v=.ref a∧XNm K Ca c∧F a=some (XO a Ca (some dx))∧F dx=some (.xd xs)∧xs.map (·.1)=(x::l).map (·.1)∧∀ (j:Nat) y p,xs[j]?=some y->(x::l)[j]?=some p->Rep K F y.2 p.2:=by
 generalize hq:PV.exc c (x::l)=q at h
 cases h with
 | exc nm h1 h2 h3 h4=>cases hq;exact ⟨_,_,_,_,rfl,nm,h1,h2,h3,h4⟩
 | exc0 nm h1=>cases hq
 | _=>cases hq
noncomputable def QL (K:PySem.W.Frag) (c:Str) (Tv:Value) (b:Bool):Prop:=∃ Ca,PySem.W.nsIn K mainGlobals c=some (some (.ref Ca))∧XI K Ca∧PySem.W.kitOne K (.ref Ca) Tv=some b
noncomputable def Kz (K:PySem.W.Frag) (c:Str) (Ts:List Addr) (b:Bool):Prop:=∃ Ca,PySem.W.nsIn K mainGlobals c=some (some (.ref Ca))∧XI K Ca∧PySem.W.kitAny K (.ref Ca) (Ts.map Value.ref)=some b
theorem KC {T:V}{Tv:Value}{sub:Str->Option Bool}{no:Bool} (hs:∀ c b,sub c=some b->QL K c Tv b) (hno:PySem.W.kitOne K (.type "NoneType") Tv=some no) (h:MJ K C (aH K) te f) :
  MJ K C (aF K) (tCB (QK K T Tv) (jh te (jh (tC T) uQ))) (Bx sub no f):=by
 intro F H σ ρ Q r R e P
 refine h.run R e P fun p v F1 H1 hk u a=>?_
 show QK K T Tv [v,T] H1 Q
 split at hk
 ·rename_i c x l
  obtain ⟨b,hb,rfl⟩:=Option.map_eq_some_iff.mp hk
  obtain ⟨Ca,n1,Y,k⟩:=hs c b hb
  obtain ⟨a',Ca',dx,xs,rfl,nm,h1,h2,_,_⟩:=Rep.zF a
  rw [nm.ns] at n1;cases n1
  exact ⟨_,b,rfl,.inl ⟨a',Ca,dx,xs,rfl,h1,h2,Y,k⟩,P _ F1 H1 u .bl⟩
 ·cases hk
  cases a
  exact ⟨_,no,rfl,.inr ⟨rfl,hno⟩,P _ F1 H1 u .bl⟩
 ·cases hk
theorem FN {Ts:List Addr}{tt:TA}{sub:Str->Option Bool}{no:Bool} (hs:∀ c b,sub c=some b->Kz K c Ts b) (hno:PySem.W.kitAny K (.type "NoneType") (Ts.map Value.ref)=some no) (hz:Ts.length≤sizeLine)
  (ht:∀ σ H QA,QA (Ts.map V.ref) H->tt σ H QA) (h:MJ K C (aH K) te f) :
  MJ K C (aF K) (tCB (Kw K Ts) (jh te (jh (PJ tt) uQ))) (Bx sub no f):=by
 intro F H σ ρ Q r R e P
 refine h.run R e P fun p v F1 H1 hk u a=>?_
 refine ht _ _ _ ⟨by simpa using hz,fun tp htp=>?_⟩
 have u2:Up F1 H1 F1 (upd H1 tp (.tup (Ts.map V.ref))):=Up.CV u.fh htp
 have ut:=u.trans u2
 show Kw K Ts [v,.ref tp] _ Q
 have hs':SqT K (upd H1 tp (.tup (Ts.map V.ref))) tp (Ts.map V.ref):=SqT.of aX
 split at hk
 ·rename_i c x l
  obtain ⟨b,hb,rfl⟩:=Option.map_eq_some_iff.mp hk
  obtain ⟨Ca,n1,Y,k⟩:=hs c b hb
  obtain ⟨a',Ca',dx,xs,rfl,nm,h1,h2,_,_⟩:=Rep.zF a
  rw [nm.ns] at n1;cases n1
  exact ⟨_,tp,b,rfl,hs',.inl ⟨a',Ca,dx,xs,rfl,u2.hh _ _ h1,u2.hh _ _ h2,Y,k⟩,P _ F1 _ ut .bl⟩
 ·cases hk
  cases a
  exact ⟨_,tp,no,rfl,hs',.inr ⟨rfl,hno⟩,P _ F1 _ ut .bl⟩
 ·cases hk
noncomputable def yq (names:Str->Bool) (g:Str) (f:Fn PV):Fn PV:=fun ρ=>bnd (f ρ) fun p=>match p with
 | .exc c (x::l)=>if names c=true then ((x::l).lookup g).map .ok else none
 | _=>none
theorem tM {K:PySem.W.Frag}{F:Hp}{g:Str}:∀ {xs:List (Str×V)}{l:List (Str×PV)}{p:PV},xs.map (·.1)=l.map (·.1)->(∀ (j:Nat) y q,xs[j]?=some y->l[j]?=some q->Rep K F y.2 q.2)->l.lookup g=some p->∃ v,xs.lookup g=some v∧Rep K F v p
 | [],[],_,_,_,h=>by simp at h
 | [],_::_,_,h,_,_=>by simp at h
 | _::_,[],_,h,_,_=>by simp at h
 | (k,v)::xs,(k',q)::l,p,h,r,e=>by
  simp only [Zah,ZbI] at h
  obtain ⟨rfl,h⟩:=h
  have r0:=r 0 (k,v) (k,q) rfl rfl
  by_cases hg:(g == k)=true
  ·simp only [List.lookup,hg] at e ⊢
   cases e
   exact ⟨v,rfl,r0⟩
  ·rw [Bool.not_eq_true] at hg
   simp only [List.lookup,hg] at e ⊢
   exact tM h (fun j y q a b=>r (j+1) y q (by simpa using a) (by simpa using b)) e
theorem zG {names:Str->Bool}{g:Str} (hs:∀ c,names c=true->∃ Ca,PySem.W.nsIn K mainGlobals c=some (some (.ref Ca))∧XI K Ca∧PySem.W.findIn K (.ref Ca) g=some none) (h:MJ K C (aF K) te f):MJ K C (aF K) (Ky K te g) (yq names g f):=by
 intro F H σ ρ Q r R e P
 refine h.run R e P fun p v F1 H1 hk u a=>?_
 split at hk
 ·rename_i c x l
  split at hk
  ·rename_i hc
   obtain ⟨p,hp,rfl⟩:=Option.map_eq_some_iff.mp hk
   obtain ⟨Ca,n1,Y,k⟩:=hs c hc
   obtain ⟨a',Ca',dx,xs,rfl,nm,h1,h2,h3,h4⟩:=Rep.zF a
   rw [nm.ns] at n1;cases n1
   obtain ⟨v,hv,rv⟩:=tM h3 h4 hp
   exact ⟨a',Ca,dx,xs,v,rfl,u.fh _ _ h1,u.fh _ _ h2,Y,k,hv,P v F1 H1 u rv⟩
  ·cases hk
 ·cases hk
end
section
variable {X:Cx}{x:Str}{T:Addr}{pos:Pos}
theorem j6 (hg:Gl X x) (h:X.mg x=some (.ref T)) (hd:(x == ("__debug__":Str))=false:=by decide):PE X (.Name x pos) (tC (.ref T)):=yI hg h rfl hd
end
theorem QM {K:PySem.W.Frag}{C f:Addr}{dd:Option Addr}{cd:ClassData}{k0 k1 k2 k3 k5:Option Value}{bm:List Value}
  (l:K.lookup C=some ⟨.type "type",dd,.cls cd,#[k0,k1,k2,k3,some (.builtin "ValueError.__new__"),k5]⟩) (h1:cd.hasDel=false) (h2:cd.hasDict=true) (h3:cd.mro=.ref C::bm) (h4:iK bm=true)
  (sa:PySem.W.findIn K (.ref C) "__setattr__"=some (some (.builtin "object.__setattr__"))) (init:PySem.W.findIn K (.ref C) "__init__"=some (some (.ref f))) (fn:PySem.W.typeIn K (.ref f)=some (.type "function")) (kp:PySem.W.keepIn K (.ref C)=true):XMk K C f cd:=by
 refine ⟨⟨?_,by rw [h3];exact h4,h2,sa⟩,?_,init,fn,kp⟩
 ·unfold PySem.W.clsIn;rw [l]
 ·obtain ⟨nm,bs,mro,ns,q,hd,sn,sub,ab,col,hdel⟩:=cd
  dsimp only at h1 h2 h3
  subst h1 h2 h3
  exact ⟨nm,q,ns,bs,bm,sn,sub,ab,col,dd,k0,k1,k2,k3,k5,l,rfl⟩
theorem QQ {K:PySem.W.Frag}{C:Addr}{c:Str}{oc:Value}{dd:Option Addr}{cd:ClassData}{sl:Array (Option Value)} (n:PySem.W.nsIn K mainGlobals c=some (some (.ref C))) (l:K.lookup C=some ⟨oc,dd,.cls cd,sl⟩) (h:cd.name=c):XNm K C c :=
 ⟨n,cd,by unfold PySem.W.clsIn;rw [l],h⟩
section
variable {P:Program}{w:World}{K:PySem.W.Frag}{mg:Str->Option Value}{base:Heap}
theorem uo {N:List Str}{x:Str}{sc:Scope}{f:Addr}{cdv:Value}{A:Around}{outer:List Env}{s0:Shared}{H0:Hp}{E:XK} :
  ∀ (pins:List (Addr×Obj)) (σ:St) (H:Hp) (s:Shared) (e:Addr) (C:Value) (d:Option Addr),Inv (cxX P w K mg base N x sc f cdv A outer s0 H0 E) pins σ H s->Fly (cxX P w K mg base N x sc f cdv A outer s0 H0 E) pins H s.heap e C d->E C d H ->
   (cxX P w K mg base N x sc f cdv A outer s0 H0 E).xe (.ref e) s :=
 fun pins σ H s e C d I fl h=>⟨pins,σ,e,C,d,H,rfl,I.gO,⟨⟨fl.own.sz,fl.own.loc,fl.own.cl,fl.own.pn⟩,fl.nh,let ⟨oe,vs,a1,a2,a3,a4,a5,a6,a7⟩:=fl.ob;⟨oe,vs,a1,a2,a3,a4,a5,a6,a7.imp id fun ⟨T,oT,ts,b1,b2,b3,b4⟩=>⟨T,oT,ts,b1,b2,⟨b3.sz,b3.loc,b3.cl,b3.pn⟩,b4⟩⟩⟩,h⟩
end
structure Nb (K:PySem.W.Frag) (mg:Str->Option Value) (c:Str) (fs:List Str) (C:Addr):Prop where
 ex:∃ f cd fd ps,XMk K C f cd∧Binds K fd ps []∧∀ (P:Program) (w:World) (base:Heap),lr P w K mg base CX0 1 f fd ps (spI C fs)
 nm:XNm K C c
 xi:XI K C
 mg:mg c=some (.ref C)
 fl:∀ f∈fs,PySem.W.findIn K (.ref C) f=some none
section
variable {X:Cx}{c:Str}{fs:List Str}{C:Addr}{p pos rpos:Pos}{e:Expr}{es:List Expr}{t:TA}{E:XK}{k:Nat}
theorem uq (U:Nb X.K X.mg c fs C) (hr:eX (k+2) X.A) (hg:Gl X c)
  (hx:∀ (pins:List (Addr×Obj)) (σ:St) (H:Hp) (s:Shared) (e:Addr) (C:Value) (d:Option Addr),Inv X pins σ H s->Fly X pins H s.heap e C d->E C d H->X.xe (.ref e) s)
  (ha:PA X (e::es) t) (hdb:(c == ("__debug__":Str))=false:=by decide) (he:starEach (e::es) X.env=(false,eval e X.env)::starEach es X.env:=by rfl) (hpl:(backTo pos (starEach es X.env)).any (·.1)=false:=by rfl) :
  PS X (.Raise (some (.Call (.Name c p) (e::es) [] pos)) none rpos) (u5 C (spI C fs) E t):=by
 obtain ⟨f,cd,fd,ps,Y,hb,F⟩:=U.ex
 exact Hz Y (F _ _ _) (hr.mono (by omega)) hg U.mg hb hr.hd hx ha hdb he hpl
theorem ur {K:PySem.W.Frag}{mg:Str->Option Value}{C:Addr}{Cg':Cg}{f:Fn (List PV)} (hX:Cg'.XR=XRS K) (U:Nb K mg c fs C) (hz:fs.length≤1000) (h:MA K Cg' t f):MS K Cg' (u5 C (spI C fs) Cg'.E t) (rD c fs f) :=
 Kr hX U.nm (by rw [sizeLine_eq];omega) h
theorem wA (K:PySem.W.Frag) {f:Str}{te:TE} (hK:X.K=K) (he:PE X e te) (hb:attributeBase e f X.env (eval e X.env)=eval e X.env):PE X (.Attribute e f pos) (Ky K te f):=hK ▸ M9 he hb
end
open PySem PySem.Spec PyProof PyProof.Rows
end L2.MP
namespace MM
open PySem PySem.Spec PyProof.Rows L2 L2.MP
noncomputable def Tv {α:Type} (x:Option (Res α)) (Q:α->Prop):Prop:=∃ a,x=some (.ok a)∧Q a
noncomputable def Out.calm:Out->Prop
 | .ex _=>False
 | _=>True
noncomputable def To (x:Option Out) (Q:Out->Prop):Prop:=∃ o,x=some o∧Out.calm o∧Q o
noncomputable def qD (k:Rho->Prop) (Q:Out->Prop):Out->Prop
 | .nx ρ=>k ρ
 | o=>Q o
section
variable {α β γ:Type}{Q:α->Prop}{QS:Out->Prop}{k:β->Prop}{f:Fn PV}{g h:Fn PV}{ρ:Rho}{a:β}{z p:PV}{i:Nat}{s t:Sn}
theorem onNx_nx {k:Rho->Prop}:qD k QS (.nx ρ)=k ρ:=rfl
theorem onNx_rt {k:Rho->Prop}:qD k QS (.rt p)=QS (.rt p):=rfl
theorem onNx_ro {k:Rho->Prop}:qD k QS (.ro p)=QS (.ro p):=rfl
theorem onNx_rd {k:Rho->Prop}:qD k QS (.rd p)=QS (.rd p):=rfl
theorem onNx_bk {k:Rho->Prop}:qD k QS (.bk ρ)=QS (.bk ρ):=rfl
theorem onNx_ct {k:Rho->Prop}:qD k QS (.ct ρ)=QS (.ct ρ):=rfl
theorem tv_some {a:α}:Tv (some (.ok a)) Q=Q a:=by
 refine propext ⟨fun ⟨r',e,q⟩=>?_,fun q=>⟨a,rfl,q⟩⟩
 cases e;exact q
theorem to_nx:To (some (.nx ρ)) QS=QS (.nx ρ):=propext ⟨fun ⟨_,e,_,q⟩=>by cases e;exact q,fun q=>⟨_,rfl,trivial,q⟩⟩
theorem to_rt:To (some (.rt p)) QS=QS (.rt p):=propext ⟨fun ⟨_,e,_,q⟩=>by cases e;exact q,fun q=>⟨_,rfl,trivial,q⟩⟩
theorem to_ro:To (some (.ro p)) QS=QS (.ro p):=propext ⟨fun ⟨_,e,_,q⟩=>by cases e;exact q,fun q=>⟨_,rfl,trivial,q⟩⟩
theorem to_rd:To (some (.rd p)) QS=QS (.rd p):=propext ⟨fun ⟨_,e,_,q⟩=>by cases e;exact q,fun q=>⟨_,rfl,trivial,q⟩⟩
theorem to_bk:To (some (.bk ρ)) QS=QS (.bk ρ):=propext ⟨fun ⟨_,e,_,q⟩=>by cases e;exact q,fun q=>⟨_,rfl,trivial,q⟩⟩
theorem to_ct:To (some (.ct ρ)) QS=QS (.ct ρ):=propext ⟨fun ⟨_,e,_,q⟩=>by cases e;exact q,fun q=>⟨_,rfl,trivial,q⟩⟩
theorem tv_bnd {x:Option (Res β)}{kk:β->Option (Res α)}:Tv (bnd x kk) Q=Tv x (fun b=>Tv (kk b) Q):=by
 refine propext ⟨fun ⟨r,e,q⟩=>?_,fun ⟨b,e,q⟩=>?_⟩
 ·rcases fL e with ⟨z,e1,e2⟩ | ⟨b,e1,e2⟩
  ·cases e2
  ·exact ⟨_,e1,r,e2,q⟩
 ·subst e;exact q
theorem to_bnd {x:Option (Res β)}{kk:β->Option Out}:To (lz x kk) QS=Tv x (fun b=>To (kk b) QS):=by
 refine propext ⟨fun ⟨r,e,c,q⟩=>?_,fun ⟨b,e,q⟩=>?_⟩
 ·rcases gk e with ⟨z,e1,rfl⟩ | ⟨b,e1,e2⟩
  ·exact c.elim
  ·exact ⟨_,e1,r,e2,c,q⟩
 ·subst e;exact q
theorem to_seq:To (bj s t ρ) QS=To (s ρ) (qD (fun ρ'=>To (t ρ') QS) QS):=by
 refine propext ⟨fun ⟨r,e,c,q⟩=>?_,fun ⟨o,e,c,q⟩=>?_⟩
 ·unfold bj at e
  split at e
  ·rename_i ρ' h
   exact ⟨_,h,trivial,r,e,c,q⟩
  ·rename_i x hx
   refine ⟨r,e,c,?_⟩
   cases r with
   | nx ρ'=>exact absurd e (hx ρ')
   | _=>exact q
 ·unfold bj To
  rw [e]
  cases o with
  | nx ρ'=>exact q
  | _=>exact ⟨_,rfl,c,q⟩
theorem jb:Tv (none:Option (Res α)) Q=False:=propext ⟨fun ⟨_,e,_⟩=>(nomatch e),fun h=>h.elim⟩
theorem FP:To none QS=False:=propext ⟨fun ⟨_,e,_⟩=>(nomatch e),fun h=>h.elim⟩
theorem tv_m2 {op:β->γ->Option (Res α)}{f:Fn β}{g:Fn γ}:Tv (m2 op f g ρ) Q=Tv (f ρ) (fun a=>Tv (g ρ) (fun b=>Tv (op a b) Q)):=by
 unfold m2
 simp only [tv_bnd]
theorem tv_m1 {op:β->Option (Res α)}{f:Fn β}:Tv (m1 op f ρ) Q=Tv (f ρ) (fun a=>Tv (op a) Q):=by unfold m1;rw [tv_bnd]
theorem tv_var {Q:PV->Prop}:Tv (mV i ρ) Q=∃ p,ρ[i]?=some (some (.sh p))∧Q p:=by
 refine propext ⟨fun ⟨r,e,q⟩=>?_,fun ⟨p,e,q⟩=>⟨_,by unfold mV;rw [e],q⟩⟩
 unfold mV at e
 split at e
 ·rename_i p hp;cases e;exact ⟨_,hp,q⟩
 ·cases e
theorem tv_lend {Q:PV->Prop}:Tv (mVL i ρ) Q=∃ s,ρ[i]?=some (some s)∧(match s with | .sh p=>Q p | .ow p=>Q p | .dp _=>False):=by
 refine propext ⟨fun ⟨r,e,q⟩=>?_,fun ⟨s,e,q⟩=>?_⟩
 ·unfold mVL at e
  split at e
  ·rename_i p hp;cases e;exact ⟨_,hp,q⟩
  ·rename_i p hp;cases e;exact ⟨_,hp,q⟩
  ·cases e
 ·cases s with
  | sh p=>exact ⟨_,by unfold mVL;rw [e],q⟩
  | ow p=>exact ⟨_,by unfold mVL;rw [e],q⟩
  | dp p=>exact q.elim
theorem tv_c {Q:PV->Prop}:Tv (mC p ρ) Q=Q p:=tv_some
theorem tv_view {Q:List PV->Prop}:Tv (fM f ρ) Q=Tv (f ρ) (fun a=>Tv (uF a) Q):=tv_bnd
theorem tv_viewN {Q:List PV->Prop}:Tv (cH i ρ) Q=Tv (mVL i ρ) (fun a=>Tv (uF a) Q):=tv_bnd
theorem tv_asLst {l:List PV}{Q:List PV->Prop}:Tv (uF (.lst l)) Q=Q l:=tv_some
theorem tv_nil {Q:List PV->Prop}:Tv (bO ρ) Q=Q []:=tv_some
theorem tv_cons {g:Fn (List PV)}{Q:List PV->Prop}:Tv (aK f g ρ) Q=Tv (f ρ) (fun a=>Tv (g ρ) (fun l=>Q (a::l))):=by
 unfold aK
 simp only [tv_bnd,tv_some]
theorem cI {c:Prop} [Decidable c] {a:α}:Tv (if c then some (.ok a) else none) Q=(c∧Q a):=by
 by_cases h:c
 ·rw [if_pos h,tv_some];simp [h]
 ·rw [if_neg h,jb];simp [h]
theorem tv_tup {f:Fn (List PV)}{Q:PV->Prop}:Tv (lw f ρ) Q=Tv (f ρ) (fun l=>l.length≤sizeLine∧Q (.tup l)):=by
 unfold lw
 simp only [tv_bnd,cI]
theorem tv_lst {f:Fn (List PV)}{Q:PV->Prop}:Tv (jy f ρ) Q=Tv (f ρ) (fun l=>l.length≤sizeLine∧Q (.lst l)):=by
 unfold jy
 simp only [tv_bnd,cI]
theorem tv_call {m:List PV->Option (Res PV)}{f:Fn (List PV)}{Q:PV->Prop}:Tv (dh m f ρ) Q=Tv (f ρ) (fun l=>Tv (m l) Q):=tv_bnd
theorem tv_callL {m:List PV->Option (Res PV)}{f:Fn (List PV)}{Q:PV->Prop}:Tv (yV m f ρ) Q=Tv (f ρ) (fun l=>Tv (m l) (fun p=>p.flat=true∧Q p)):=by
 unfold yV
 rw [tv_bnd]
 congr 1
 funext l
 refine propext ⟨fun ⟨r,e,q⟩=>?_,fun ⟨p,e,hf,q⟩=>⟨p,by simp only [e,hf,if_true],q⟩⟩
 split at e
 ·rename_i p hp
  split at e
  ·rename_i hf;cases e;exact ⟨_,hp,hf,q⟩
  ·cases e
 ·cases e
theorem tv_ite {c:Prop} [Decidable c] {x y:Option (Res α)}:Tv (if c then x else y) Q=if c then Tv x Q else Tv y Q:=by split <;> rfl
theorem to_ite {c:Prop} [Decidable c] {x y:Option Out}:To (if c then x else y) QS=if c then To x QS else To y QS:=by split <;> rfl
theorem tv_mAnd {c d:Fn Bool}{Q:Bool->Prop}:Tv (vJ c d ρ) Q=Tv (c ρ) (fun b=>if b=true then Tv (d ρ) Q else Q false):=by
 unfold vJ
 simp only [tv_bnd,tv_ite,tv_some]
theorem tv_mOr {c d:Fn Bool}{Q:Bool->Prop}:Tv (mOr c d ρ) Q=Tv (c ρ) (fun b=>if b=true then Q true else Tv (d ρ) Q):=by
 unfold mOr
 simp only [tv_bnd,tv_ite,tv_some]
theorem tv_mNot {c:Fn Bool}{Q:Bool->Prop}:Tv (vK c ρ) Q=Tv (c ρ) (fun b=>Q (!b)):=by
 unfold vK
 simp only [tv_bnd,tv_some]
theorem tv_and {Q:PV->Prop}:Tv (vI f g ρ) Q=Tv (f ρ) (fun a=>∃ b,a=.bl b∧if b=true then Tv (g ρ) Q else Q (.bl false)):=by
 unfold vI
 rw [tv_bnd]
 congr 1;funext a
 refine propext ⟨fun ⟨r,e,q⟩=>?_,fun ⟨b,e,q⟩=>?_⟩
 ·split at e
  ·exact ⟨true,rfl,by rw [if_pos rfl];exact ⟨r,e,q⟩⟩
  ·cases e;exact ⟨false,rfl,by rw [if_neg (by decide)];exact q⟩
  ·cases e
 ·subst e
  cases b with
  | true=>rw [if_pos rfl] at q;exact q
  | false=>rw [if_neg (by decide)] at q;exact ⟨_,rfl,q⟩
theorem tv_chain {o1 o2:PV->PV->Option (Res PV)}{Q:PV->Prop}:Tv (qZ o1 o2 f g h ρ) Q=Tv (f ρ) (fun a=>Tv (g ρ) (fun b=>Tv (o1 a b) (fun z=>∃ t,z=.bl t∧if t=true then Tv (h ρ) (fun c=>Tv (o2 b c) Q) else Q (.bl false)))):=by
 unfold qZ
 simp only [tv_bnd]
 congr 1;funext a
 congr 1;funext b
 congr 1;funext c
 refine propext ⟨fun ⟨r,e,q⟩=>?_,fun ⟨t,e,q⟩=>?_⟩
 ·split at e
  ·refine ⟨true,rfl,?_⟩
   rw [if_pos rfl,←tv_bnd];exact ⟨r,e,q⟩
  ·cases e;exact ⟨false,rfl,by rw [if_neg (by decide)];exact q⟩
  ·cases e
 ·subst e
  cases t with
  | true=>rw [if_pos rfl,←tv_bnd] at q;exact q
  | false=>rw [if_neg (by decide)] at q;exact ⟨_,rfl,q⟩
theorem tv_comp {it:Fn (List PV)}{fr:List (Option Nat)}{tg:PV->Rho->Option Rho}{tst:Fn Bool}{el:Fn PV}{Q:PV->Prop}:Tv (pL it fr tg tst el ρ) Q=Tv (it ρ) (fun l=>l.length≤sizeLine∧Tv (gJ tg tst el (frR fr ρ) l) (fun r=>Q (.lst r))):=by
 unfold pL
 rw [tv_bnd]
 congr 1;funext l
 by_cases hl:l.length≤sizeLine
 ·rw [if_pos hl,tv_bnd]
  simp only [tv_some,hl,true_and]
 ·rw [if_neg hl,jb];simp [hl]
theorem to_next:To (cC ρ) QS=QS (.nx ρ):=to_nx
theorem to_ret:To (dU f ρ) QS=Tv (f ρ) (fun p=>QS (.rt p)):=by unfold dU;simp only [to_bnd,to_rt]
theorem to_retO:To (Fg f ρ) QS=Tv (f ρ) (fun p=>QS (.ro p)):=by unfold Fg;simp only [to_bnd,to_ro]
theorem to_setO:To (fX i f ρ) QS=Tv (f ρ) (fun p=>QS (.nx (ρ.set i (some (.ow p))))):=by unfold fX;simp only [to_bnd,to_nx]
theorem to_asg {tg:PV->Rho->Option Rho}:To (cY f tg ρ) QS=Tv (f ρ) (fun p=>∃ ρ',tg p ρ=some ρ'∧QS (.nx ρ')):=by
 unfold cY
 rw [to_bnd]
 congr 1;funext a
 cases e:tg a ρ with
 | none=>rw [FP];exact propext ⟨fun h=>h.elim,fun ⟨_,z,_⟩=>nomatch z⟩
 | some ρ'=>rw [to_nx];exact propext ⟨fun q=>⟨ρ',rfl,q⟩,fun ⟨_,z,q⟩=>by cases z;exact q⟩
theorem to_asgN:To (cY f (gN i) ρ) QS=Tv (f ρ) (fun p=>QS (.nx (ρ.set i (some (.sh p))))):=by
 rw [to_asg]
 congr 1;funext a
 exact propext ⟨fun ⟨ρ',e,q⟩=>by cases e;exact q,fun q=>⟨_,rfl,q⟩⟩
theorem to_if {c:Fn Bool}:To (du c s t ρ) QS=Tv (c ρ) (fun b=>if b=true then To (s ρ) QS else To (t ρ) QS):=by
 unfold du
 simp only [to_bnd,to_ite]
theorem to_for {it:Fn (List PV)}{tg:PV->Rho->Option Rho}:To (lR it tg s ρ) QS=Tv (it ρ) (fun l=>To (loop tg s l ρ) QS):=to_bnd
theorem to_retOw:To (jJ i ρ) QS=∃ p,ρ[i]?=some (some (.ow p))∧QS (.ro p):=by
 refine propext ⟨fun ⟨r,e,c,q⟩=>?_,fun ⟨p,e,q⟩=>⟨.ro p,by unfold jJ ownAt;rw [e],trivial,q⟩⟩
 unfold jJ at e
 split at e
 ·rename_i p hp;cases e;exact ⟨p,cM hp,q⟩
 ·cases e
theorem to_app:To (lQ i f ρ) QS=∃ l,ρ[i]?=some (some (.ow (.lst l)))∧Tv (f ρ) (fun p=>l.length < sizeLine∧QS (.nx (ρ.set i (some (.ow (.lst (l++[p]))))))):=by
 refine propext ⟨fun ⟨r,e,c,q⟩=>?_,fun ⟨l,e,p,e1,h,q⟩=>?_⟩
 ·unfold lQ at e
  split at e
  ·rename_i l hl
   refine ⟨l,cM hl,?_⟩
   rcases gk e with ⟨z,e1,rfl⟩ | ⟨p,e1,e2⟩
   ·exact c.elim
   ·split at e2
    ·rename_i hlen;cases e2;exact ⟨_,e1,hlen,q⟩
    ·cases e2
  ·cases e
 ·have eo:ownAt i ρ=some (.lst l):=by unfold ownAt;rw [e]
  unfold To lQ
  rw [eo]
  exact ⟨.nx _,by simp only [e1,lz];exact if_pos h,trivial,q⟩
theorem to_put {fi:Fn PV}:To (CZ i f fi ρ) QS=Tv (f ρ) (fun p=>∃ l,ρ[i]?=some (some (.ow (.lst l)))∧Tv (fi ρ) (fun k=>∃ n j,k=.int n∧ixN l.length n=some j∧QS (.nx (ρ.set i (some (.ow (.lst (l.set j p)))))))):=by
 unfold CZ
 rw [to_bnd]
 congr 1;funext p
 refine propext ⟨fun ⟨r,e,c,q⟩=>?_,fun ⟨l,e,k,e1,n,j,ek,hj,q⟩=>?_⟩
 ·split at e
  ·rename_i l hl
   refine ⟨l,cM hl,?_⟩
   rcases gk e with ⟨z,e1,rfl⟩ | ⟨k,e1,e2⟩
   ·exact c.elim
   ·split at e2
    ·rename_i n
     split at e2
     ·rename_i j hj;cases e2;exact ⟨_,e1,n,j,rfl,hj,q⟩
     ·cases e2
    ·cases e2
  ·cases e
 ·subst ek
  have eo:ownAt i ρ=some (.lst l):=by unfold ownAt;rw [e]
  show To (match ownAt i ρ with | some (.lst l)=>_ | _=>none) QS
  rw [eo]
  exact ⟨.nx _,by simp only [e1,lz,hj],trivial,q⟩
theorem to_frz:To (Mt i s ρ) QS=To (s (yW i ρ)) QS:=rfl
theorem QR {p:PV} (h:ρ[i]?=some (some (.ow p))):yW i ρ=ρ.set i (some (.sh p)):=by unfold yW ownAt;rw [h]
theorem rE {c:Int->Int->Bool}{F:Int->Int->PV}{x y:Int}{Q:PV->Prop}:Tv (MP.opI c F (.int x) (.int y)) Q=(c x y=true∧Q (F x y)):=cI
theorem tv_sub {x y:Int}{Q:PV->Prop}:Tv (vM (.int x) (.int y)) Q=Q (.int (x - y)):=by unfold vM;rw [rE];simp [cT]
theorem tv_gt {x y:Int}{Q:PV->Prop}:Tv (Mj (.int x) (.int y)) Q=Q (.bl (decide (y < x))):=by unfold Mj;rw [rE];simp [cT]
theorem tv_ge {x y:Int}{Q:PV->Prop}:Tv (Ml (.int x) (.int y)) Q=Q (.bl (decide (y≤x))):=by unfold Ml;rw [rE];simp [cT]
theorem tv_div {x y:Int}{Q:PV->Prop}:Tv (vN (.int x) (.int y)) Q=((0 < y∧y < 1073741824)∧Q (.int (x / y))):=by unfold vN;rw [rE];simp [Qj]
theorem tv_mod {x y:Int}{Q:PV->Prop}:Tv (cA (.int x) (.int y)) Q=(0 < y∧Q (.int (x % y))):=by unfold cA;rw [rE];simp [Sy]
theorem tv_pow {x y:Int}{Q:PV->Prop}:Tv (uG (.int x) (.int y)) Q=((0≤y∧y≤1000000∧x.natAbs < 2 ^ 64)∧Q (.int (x ^ y.toNat))):=by unfold uG;rw [rE];simp [Qk]
theorem tv_add {x y:Int}{Q:PV->Prop}:Tv (cj (.int x) (.int y)) Q=Q (.int (x+y)):=tv_some
theorem tv_addS {x y:Str}{Q:PV->Prop}:Tv (cj (.str x) (.str y)) Q=(x.length+y.length≤sizeLine∧Q (.str (x++y))):=cI
theorem tv_addT {x y:List PV}{Q:PV->Prop}:Tv (cj (.tup x) (.tup y)) Q=((x≠[]∧x.length+y.length≤sizeLine)∧Q (.tup (x++y))):=cI
theorem tv_mul {x y:Int}{Q:PV->Prop}:Tv (pJ (.int x) (.int y)) Q=(Cw x y∧Q (.int (x * y))):=by
 show Tv (if JB x y=true then _ else none) Q=_
 rw [cI]
 unfold JB Cw
 simp
theorem tv_mulS {z:Str}{n:Int}{Q:PV->Prop}:Tv (pJ (.str z) (.int n)) Q=((-(2 ^ 63)≤n∧n < 2 ^ 63∧z.length * n.toNat≤sizeLine)∧Q (.str (Ql z n.toNat))):=cI
theorem tv_lt {x y:Int}{Q:PV->Prop}:Tv (zc (.int x) (.int y)) Q=Q (.bl (decide (x < y))):=tv_some
theorem tv_ltS {x y:Str}{Q:PV->Prop}:Tv (zc (.str x) (.str y)) Q=Q (.bl (decide (x.cps.toList < y.cps.toList))):=tv_some
theorem tv_le {x y:Int}{Q:PV->Prop}:Tv (vO (.int x) (.int y)) Q=Q (.bl (decide (x≤y))):=tv_some
theorem tv_leS {x y:Str}{Q:PV->Prop}:Tv (vO (.str x) (.str y)) Q=Q (.bl (!(decide (y.cps.toList < x.cps.toList)))):=tv_some
theorem tv_eq {p q:PV}{Q:PV->Prop}:Tv (eU p q) Q=∃ r,eqF 32 p q=some r∧Q (.bl r):=by
 refine propext ⟨fun ⟨r,e,k⟩=>?_,fun ⟨r,e,k⟩=>⟨_,by unfold eU;rw [e],k⟩⟩
 unfold eU at e
 split at e
 ·rename_i b hb;cases e;exact ⟨b,hb,k⟩
 ·cases e
theorem tv_ne {p q:PV}{Q:PV->Prop}:Tv (zf p q) Q=∃ r,eqF 32 p q=some r∧Q (.bl (!r)):=by
 refine propext ⟨fun ⟨r,e,k⟩=>?_,fun ⟨r,e,k⟩=>⟨_,by unfold zf;rw [e],k⟩⟩
 unfold zf at e
 split at e
 ·rename_i b hb;cases e;exact ⟨b,hb,k⟩
 ·cases e
theorem eqF_int (n:Nat) (i j:Int):eqF n (.int i) (.int j)=some (decide (i=j)):=by cases n <;> rfl
theorem eqF_str (n:Nat) (i j:Str):eqF n (.str i) (.str j)=some (decide (i=j)):=by cases n <;> rfl
theorem eqF_bl (n:Nat) (i j:Bool):eqF n (.bl i) (.bl j)=some (decide (i=j)):=by cases n <;> rfl
theorem tv_eqI {x y:Int}{Q:PV->Prop}:Tv (eU (.int x) (.int y)) Q=Q (.bl (decide (x=y))):=by rw [tv_eq,eqF_int];simp
theorem tv_eqS {x y:Str}{Q:PV->Prop}:Tv (eU (.str x) (.str y)) Q=Q (.bl (decide (x=y))):=by rw [tv_eq,eqF_str];simp
theorem tv_neI {x y:Int}{Q:PV->Prop}:Tv (zf (.int x) (.int y)) Q=Q (.bl (!decide (x=y))):=by rw [tv_ne,eqF_int];simp
theorem tv_neS {x y:Str}{Q:PV->Prop}:Tv (zf (.str x) (.str y)) Q=Q (.bl (!decide (x=y))):=by rw [tv_ne,eqF_str];simp
theorem tv_in {p q:PV}{Q:PV->Prop}:Tv (Av p q) Q=∃ r,inU p q=some r∧Q (.bl r):=by
 refine propext ⟨fun ⟨r,e,k⟩=>?_,fun ⟨r,e,k⟩=>⟨_,by unfold Av;rw [e],k⟩⟩
 unfold Av at e
 split at e
 ·rename_i b hb;cases e;exact ⟨b,hb,k⟩
 ·cases e
theorem tv_notin {p q:PV}{Q:PV->Prop}:Tv (m7 p q) Q=∃ r,inU p q=some r∧Q (.bl (!r)):=by
 refine propext ⟨fun ⟨r,e,k⟩=>?_,fun ⟨r,e,k⟩=>⟨_,by unfold m7;rw [e],k⟩⟩
 unfold m7 at e
 split at e
 ·rename_i b hb;cases e;exact ⟨b,hb,k⟩
 ·cases e
theorem tv_isN {p:PV}{Q:PV->Prop}:Tv (uH p .non) Q=Q (.bl p.ji):=tv_some
theorem tv_notN {p:PV}{Q:PV->Prop}:Tv (zg p .non) Q=Q (.bl (!p.ji)):=tv_some
theorem zH {x:Option PV}{Q:PV->Prop}:Tv (ofO x) Q=∃ p,x=some p∧Q p:=by
 refine propext ⟨fun ⟨r,e,k⟩=>?_,fun ⟨p,e,k⟩=>⟨_,by subst e;rfl,k⟩⟩
 obtain ⟨p,e1,e2⟩:=sW e
 cases e2
 exact ⟨_,e1,k⟩
theorem tv_ixL {l:List PV}{n:Int}{Q:PV->Prop}:Tv (bB (.lst l) (.int n)) Q=∃ p,atI l n=some p∧Q p:=zH
theorem tv_ixT {l:List PV}{n:Int}{Q:PV->Prop}:Tv (bB (.tup l) (.int n)) Q=∃ p,atI l n=some p∧Q p:=zH
theorem tv_ixV {l:List PV}{n:Int}{Q:PV->Prop}:Tv (Fl l (.int n)) Q=∃ p,atI l n=some p∧Q p:=zH
theorem tv_ixS {z:Str}{n:Int}{Q:PV->Prop}:Tv (bB (.str z) (.int n)) Q=(z.length≤sizeLine∧∃ c,atI z.cps.toList n=some c∧Q (.str ⟨#[c]⟩)):=by
 show Tv (if z.length≤sizeLine then _ else none) Q=_
 by_cases hz:z.length≤sizeLine
 ·rw [if_pos hz,zH]
  simp only [hz,true_and]
  refine propext ⟨fun ⟨p,e,k⟩=>?_,fun ⟨c,e,k⟩=>⟨_,by rw [e];rfl,k⟩⟩
  cases e1:atI z.cps.toList n with
  | none=>rw [e1] at e;cases e
  | some c=>rw [e1] at e;cases e;exact ⟨c,rfl,k⟩
 ·rw [if_neg hz]
  exact propext ⟨fun ⟨r,e,q⟩=>(nomatch e),fun ⟨z,_⟩=>absurd z hz⟩
theorem tv_lenS {z:Str}{Q:PV->Prop}:Tv (cZ (.str z)) Q=(z.length≤sizeLine∧Q (.int z.length)):=cI
theorem tv_lenL {l:List PV}{Q:PV->Prop}:Tv (cZ (.lst l)) Q=Q (.int l.length):=tv_some
theorem tv_lenT {l:List PV}{Q:PV->Prop}:Tv (cZ (.tup l)) Q=Q (.int l.length):=tv_some
theorem tv_is {T:String}{Q:PV->Prop}:Tv (Ba p (.ty T)) Q=∃ b,isI p T=some b∧Q (.bl b):=by
 refine propext ⟨fun ⟨r,e,k⟩=>?_,fun ⟨r,e,k⟩=>⟨_,by unfold Ba;simp only [e],k⟩⟩
 unfold Ba at e
 simp only at e
 split at e
 ·rename_i b hb;cases e;exact ⟨b,hb,k⟩
 ·cases e
theorem tv_asBl {b:Bool}{Q:Bool->Prop}:Tv (cF (.bl b)) Q=Q b:=tv_some
theorem tv_not {b:Bool}{Q:PV->Prop}:Tv (Jt (.bl b)) Q=Q (.bl (!b)):=tv_some
theorem tv_list {l:List PV}{Q:PV->Prop}:Tv (Dg l) Q=Q (.lst l):=tv_some
theorem tv_opTup {l:List PV}{Q:PV->Prop}:Tv (Bb l) Q=Q (.tup l):=tv_some
theorem tv_cat {l m:List PV}{Q:PV->Prop}:Tv (lU l m) Q=(l.length+m.length≤sizeLine∧Q (.lst (l++m))):=cI
theorem tv_asSeqL {l:List PV}{Q:List PV->Prop}:Tv (pK (.lst l)) Q=Q l:=tv_some
theorem tv_asSeqT {l:List PV}{Q:List PV->Prop}:Tv (pK (.tup l)) Q=Q l:=tv_some
theorem tv_asSeqS {z:Str}{Q:List PV->Prop}:Tv (pK (.str z)) Q=Q (signs z):=tv_some
theorem tv_rng1 {j:Int}{Q:List PV->Prop}:Tv (m9 [.int j]) Q=((-(2 ^ 62)≤j∧j < 2 ^ 62)∧Q (qy 0 j.toNat)):=cI
theorem tv_rng2 {x y:Int}{Q:List PV->Prop}:Tv (Df [.int x,.int y]) Q=((-(2 ^ 62)≤x∧x < 2 ^ 62∧-(2 ^ 62)≤y∧y < 2 ^ 62)∧Q (qy x (y - x).toNat)):=cI
theorem tv_enum {l:List PV}{Q:List PV->Prop}:Tv (zm [.lst l]) Q=Q (sX l):=tv_some
theorem tv_pn {Q:Option Int->Prop}:Tv (mPn ρ) Q=Q none:=tv_some
theorem tv_asInt {x:Int}{Q:Option Int->Prop}:Tv (asInt (.int x)) Q=Q (some x):=tv_some
theorem tv_slL {f:Fn (List PV)}{lo hi:Fn (Option Int)}{Q:PV->Prop}:Tv (lV f lo hi ρ) Q=Tv (f ρ) (fun l=>Tv (lo ρ) (fun a=>Tv (hi ρ) (fun b=>Q (.lst (o7 l a b))))):=by
 unfold lV
 simp only [tv_bnd,tv_some]
theorem tv_slK {f:Fn (List PV)}{lo hi st:Fn (Option Int)}{Q:PV->Prop}:Tv (Mv f lo hi st ρ) Q=Tv (f ρ) (fun l=>Tv (lo ρ) (fun a=>Tv (hi ρ) (fun b=>Tv (st ρ) (fun c=>c≠some 0∧Q (.lst (Bc l a b c)))))):=by
 have ite:∀ {c:Prop} [Decidable c] {r:PV},Tv (if c then none else some (.ok r)) Q=(¬c∧Q r):=fun {c} _ {r}=>by
  by_cases h:c
  ·rw [if_pos h,jb];simp [h]
  ·rw [if_neg h,tv_some];simp [h]
 unfold Mv
 simp only [tv_bnd,ite,ne_eq]
theorem tv_opSlS {x:Str}{a b:Option Int}{Q:PV->Prop}:Tv (JD a b (.str x)) Q=(x.length≤sizeLine∧Q (.str (Txt.slice x a b))):=cI
theorem tv_slS {lo hi:Fn (Option Int)}{Q:PV->Prop}:Tv (Hn f lo hi ρ) Q=Tv (f ρ) (fun z=>Tv (lo ρ) (fun a=>Tv (hi ρ) (fun b=>Tv (JD a b z) Q))):=by
 unfold Hn
 simp only [tv_bnd]
theorem tv_opJoin {z:Str}{l:List PV}{Q:PV->Prop}:Tv (vU z l) Q=∃ ys,nq l=some ys∧(ys.map (·.length)).sum+ys.length * z.length≤16777216∧Q (.str (Txt.join z ys)):=by
 unfold vU
 cases e:nq l with
 | none=>simp only;rw [jb];exact propext ⟨fun h=>h.elim,fun ⟨_,z,_⟩=>nomatch z⟩
 | some ys=>simp only;rw [cI];exact propext ⟨fun h=>⟨ys,rfl,h⟩,fun ⟨_,z,h⟩=>by cases z;exact h⟩
theorem tv_join {g:Fn (List PV)}{Q:PV->Prop}:Tv (uJ f g ρ) Q=Tv (f ρ) (fun a=>∃ z,a=.str z∧Tv (g ρ) (fun l=>Tv (vU z l) Q)):=by
 unfold uJ
 rw [tv_bnd]
 congr 1;funext a
 cases a with
 | str z=>simp only;rw [tv_bnd];exact propext ⟨fun h=>⟨z,rfl,h⟩,fun ⟨_,e,h⟩=>by cases e;exact h⟩
 | _=>simp only;rw [jb];exact propext ⟨fun h=>h.elim,fun ⟨_,e,_⟩=>nomatch e⟩
theorem tv_all {l:List PV}{Q:PV->Prop}:Tv (vR l) Q=∃ bs,jA l=some bs∧Q (.bl (bs.all id)):=by
 refine propext ⟨fun ⟨r,e,k⟩=>?_,fun ⟨r,e,k⟩=>⟨_,by unfold vR;rw [e],k⟩⟩
 unfold vR at e
 split at e
 ·rename_i b hb;cases e;exact ⟨b,hb,k⟩
 ·cases e
end
section
variable {QS:Out->Prop}{Q:PV->Prop}{ρ:Rho}{i j:Nat}{f g:Fn PV}{z y:Str}
theorem tv_consO {g:Fn (List PV)}{Q:List PV->Prop}:Tv (vV i g ρ) Q=∃ p,ρ[i]?=some (some (.ow p))∧Tv (g ρ) (fun l=>Q (p::l)):=by
 unfold vV
 cases h:ownAt i ρ with
 | none =>
  simp only;rw [jb]
  exact propext ⟨fun h=>h.elim,fun ⟨p,e,_⟩=>by unfold ownAt at h;rw [e] at h;cases h⟩
 | some p =>
  simp only;rw [tv_bnd]
  simp only [tv_some]
  exact propext ⟨fun q=>⟨p,cM h,q⟩,fun ⟨p',e,q⟩=>by rw [cM h] at e;cases e;exact q⟩
theorem to_io {m:List PV->Option (Res PV)}{f:Fn (List PV)}:To (mIO i m f ρ) QS=∃ p,ρ[i]?=some (some (.ow p))∧Tv (f ρ) (fun l=>Tv (m l) (fun p'=>QS (.nx (ρ.set i (some (.ow p')))))):=by
 unfold mIO
 cases h:ownAt i ρ with
 | none =>
  simp only;rw [FP]
  exact propext ⟨fun h=>h.elim,fun ⟨p,e,_⟩=>by unfold ownAt at h;rw [e] at h;cases h⟩
 | some p =>
  simp only;rw [to_bnd]
  refine propext ⟨fun ⟨l,e,q⟩=>⟨p,cM h,l,e,?_⟩,fun ⟨p',_,l,e,p2,e2,q⟩=>⟨l,e,?_⟩⟩
  ·obtain ⟨o,eo,c,q⟩:=q
   split at eo
   ·rename_i p' hp;cases eo;exact ⟨_,hp,q⟩
   ·cases eo
  ·exact ⟨.nx _,by rw [e2],trivial,q⟩
theorem tv_split:Tv (lA f g ρ) Q=Tv (f ρ) (fun a=>∃ z,a=.str z∧Tv (g ρ) (fun b=>Tv (zq (.str z) b) Q)):=by
 unfold lA
 rw [tv_bnd]
 congr 1;funext a
 cases a with
 | str z=>simp only;rw [tv_bnd];exact propext ⟨fun h=>⟨z,rfl,h⟩,fun ⟨_,e,h⟩=>by cases e;exact h⟩
 | _=>simp only;rw [jb];exact propext ⟨fun h=>h.elim,fun ⟨_,e,_⟩=>nomatch e⟩
theorem tv_opSplit:Tv (zq (.str z) (.str y)) Q=(((y.length == 0)=false∧z.length≤sizeLine∧(Txt.split z y).length≤sizeLine)∧Q (.lst ((Txt.split z y).map PV.str))):=cI
theorem KD {x:Option Out}{P:PV->Prop} (h:To x fun o=>∃ p,Be j (some o)=some (.ok p)∧P p):∃ p,Be j x=some (.ok p)∧P p:=by
 obtain ⟨o,e,_,q⟩:=h
 rw [e];exact q
theorem finIO_nx {p:PV}:(Be j (some (.nx ρ))=some (.ok p))=(ρ[j]?=some (some (.ow p))):=by
 show ((match ownAt j ρ with | some p=>some (Res.ok p) | none=>none)=some (.ok p))=_
 cases h:ownAt j ρ with
 | none=>exact propext ⟨fun e=>(nomatch e),fun e=>by unfold ownAt at h;rw [e] at h;cases h⟩
 | some q=>exact propext ⟨fun e=>by cases e;exact cM h,fun e=>by rw [cM h] at e;cases e;rfl⟩
end
noncomputable def turn (I:Rho->Prop) (QS:Out->Prop):Out->Prop
 | .nx ρ=>I ρ
 | .ct ρ=>I ρ
 | .bk ρ=>QS (.nx ρ)
 | o=>QS o
theorem turn_nx {I:Rho->Prop}{QS:Out->Prop}{ρ:Rho}:turn I QS (.nx ρ)=I ρ:=rfl
theorem turn_ct {I:Rho->Prop}{QS:Out->Prop}{ρ:Rho}:turn I QS (.ct ρ)=I ρ:=rfl
theorem turn_bk {I:Rho->Prop}{QS:Out->Prop}{ρ:Rho}:turn I QS (.bk ρ)=QS (.nx ρ):=rfl
theorem turn_rt {I:Rho->Prop}{QS:Out->Prop}{p:PV}:turn I QS (.rt p)=QS (.rt p):=rfl
theorem turn_ro {I:Rho->Prop}{QS:Out->Prop}{p:PV}:turn I QS (.ro p)=QS (.ro p):=rfl
theorem turn_rd {I:Rho->Prop}{QS:Out->Prop}{p:PV}:turn I QS (.rd p)=QS (.rd p):=rfl
theorem u6 {tg:PV->Rho->Option Rho}{body:Sn}{QS:Out->Prop} (I:Nat->Rho->Prop):∀ {l:List PV}{ρ:Rho},I 0 ρ ->
  (∀ (i:Nat) x ρ,l[i]?=some x->I i ρ->∃ ρ1,tg x ρ=some ρ1∧To (body ρ1) (turn (I (i+1)) QS)) ->
  (∀ ρ',I l.length ρ'->QS (.nx ρ'))->To (loop tg body l ρ) QS:=by
 intro l
 induction l generalizing I with
 | nil=>exact fun h0 _ hd=>⟨_,rfl,trivial,hd _ h0⟩
 | cons x xs ih =>
  intro ρ h0 hs hd
  obtain ⟨ρ1,e1,o,e2,c,q⟩:=hs 0 x ρ rfl h0
  unfold To
  rw [loop,e1]
  simp only [e2]
  cases o with
  | nx ρ2=>exact ih (fun i=>I (i+1)) q (fun i y ρ e=>hs (i+1) y ρ (by simpa using e)) hd
  | ct ρ2=>exact ih (fun i=>I (i+1)) q (fun i y ρ e=>hs (i+1) y ρ (by simpa using e)) hd
  | bk ρ2=>exact ⟨_,rfl,trivial,q⟩
  | rt p=>exact ⟨_,rfl,trivial,q⟩
  | ro p=>exact ⟨_,rfl,trivial,q⟩
  | rd p=>exact ⟨_,rfl,trivial,q⟩
  | ex z=>exact c.elim
theorem Tr {x:Option Out}{I:Rho->Prop}{Q:Out->Prop} (h:∀ QS:Out->Prop,(∀ ρ,I ρ->QS (.nx ρ))->To x QS):To x (turn I Q):=h _ fun _ h=>h
theorem ju {x:Option Out}{Q:Out->Prop} (h:∀ QS:Out->Prop,(∀ o,Q o->QS o)->To x QS):To x Q:=h _ fun _ h=>h
theorem fD {j:Nat}{body:Sn}{QS:Out->Prop} (I:Nat->Rho->Prop) {l:List PV}{ρ:Rho} (h0:I 0 ρ)
  (hs:∀ (i:Nat) x ρ,l[i]?=some x->I i ρ->To (body (ρ.set j (some (.sh x)))) (turn (I (i+1)) QS)) (hd:∀ ρ',I l.length ρ'->QS (.nx ρ')):To (loop (gN j) body l ρ) QS :=
 u6 I h0 (fun i x ρ e hI=>⟨_,rfl,hs i x ρ e hI⟩) hd
theorem wB {a b:Nat}{body:Sn}{QS:Out->Prop} (I:Nat->Rho->Prop) {l:List PV}{ρ:Rho} (h0:I 0 ρ)
  (hs:∀ (i:Nat) x ρ,l[i]?=some x->I i ρ->To (body ((ρ.set a (some (.sh (.int i)))).set b (some (.sh x)))) (turn (I (i+1)) QS)) (hd:∀ ρ',I l.length ρ'->QS (.nx ρ')):To (loop (gT 2 (gsCons (gN a) (gsCons (gN b) gsNil))) body (sX l) ρ) QS:=by
 have hl:(sX l).length=l.length:=by simp [sX]
 refine u6 I h0 (fun i x ρ e hI=>?_) fun ρ'=>by rw [hl];exact hd ρ'
 unfold sX at e
 rw [Zbf] at e
 cases h:l[i]? with
 | none=>rw [h] at e;cases e
 | some y =>
  rw [h] at e
  cases e
  exact ⟨_,rfl,hs i y ρ h hI⟩
theorem KH {a b:Nat}{body:Sn}{QS:Out->Prop} (I:Nat->Rho->Prop) {l:List (PV×PV)}{ρ:Rho} (h0:I 0 ρ)
  (hs:∀ (i:Nat) x y ρ,l[i]?=some (x,y)->I i ρ->To (body ((ρ.set a (some (.sh x))).set b (some (.sh y)))) (turn (I (i+1)) QS)) (hd:∀ ρ',I l.length ρ'->QS (.nx ρ')):To (loop (gT 2 (gsCons (gN a) (gsCons (gN b) gsNil))) body (l.map fun c=>.tup [c.1,c.2]) ρ) QS:=by
 refine u6 I h0 (fun i x ρ e hI=>?_) fun ρ'=>by rw [List.length_map];exact hd ρ'
 rw [Zag] at e
 cases h:l[i]? with
 | none=>rw [h] at e;cases e
 | some y =>
  rw [h] at e
  cases e
  exact ⟨_,rfl,hs i y.1 y.2 ρ h hI⟩
theorem iM {x:Option Out}{r:Res PV} (h:To x fun o=>fin (some o)=some r):fin x=some r:=by
 obtain ⟨o,e,_,q⟩:=h
 rw [e];exact q
theorem FQ {x:Option Out}{r:Res PV} (h:To x fun o=>qz (some o)=some r):qz x=some r:=by
 obtain ⟨o,e,_,q⟩:=h
 rw [e];exact q
theorem uv {x:Option Out}{P:PV->Prop} (h:To x fun o=>∃ p,fin (some o)=some (.ok p)∧P p):∃ p,fin x=some (.ok p)∧P p:=by
 obtain ⟨o,e,_,q⟩:=h
 rw [e];exact q
theorem u9 {x:Option Out}{P:PV->Prop} (h:To x fun o=>∃ p,qz (some o)=some (.ok p)∧P p):∃ p,qz x=some (.ok p)∧P p:=by
 obtain ⟨o,e,_,q⟩:=h
 rw [e];exact q
theorem fin_nx {ρ:Rho}:fin (some (.nx ρ))=some (.ok .non):=rfl
theorem fin_rt {p:PV}:fin (some (.rt p))=some (.ok p):=rfl
theorem finO_ro {p:PV}:qz (some (.ro p))=some (.ok p):=rfl
theorem By {tg:PV->Rho->Option Rho}{tst:Fn Bool}{el:Fn PV}{ρb:Rho} (t:PV->Bool) (f:PV->PV):∀ (l:List PV),
  (∀ x∈l,∃ ρ1,tg x ρb=some ρ1∧tst ρ1=some (.ok (t x))∧(t x=true->el ρ1=some (.ok (f x))))->gJ tg tst el ρb l=some (.ok ((l.filter t).map f))
 | [],_=>rfl
 | x::xs,h=>by
  obtain ⟨ρ1,e1,e2,e3⟩:=h x List.mem_cons_self
  have ih:=By t f xs fun y hy=>h y (List.mem_cons_of_mem _ hy)
  rw [gJ,e1]
  simp only [e2,bnd]
  cases ht:t x with
  | true=>rw [if_pos rfl,e3 ht];simp only [ih,ZaY,ht,if_true,Zah]
  | false=>rw [if_neg (by decide)];simp only [ih,ZaY,ht,ZbE,if_false]
theorem HN {tg:PV->Rho->Option Rho}{el:Fn PV}{ρb:Rho} (f:PV->PV) (l:List PV) (h:∀ x∈l,∃ ρ1,tg x ρb=some ρ1∧el ρ1=some (.ok (f x))):gJ tg sY el ρb l=some (.ok (l.map f)):=by
 have:=By (tg:=tg) (tst:=sY) (el:=el) (ρb:=ρb) (fun _=>true) f l fun x hx=>let ⟨ρ1,a,b⟩:=h x hx;⟨ρ1,a,rfl,fun _=>b⟩
 rwa [List.filter_eq_self.mpr fun _ _=>rfl] at this
theorem tv_compN {tg:PV->Rho->Option Rho}{tst:Fn Bool}{el:Fn PV}{ρb:Rho}{Q:List PV->Prop}:Tv (gJ tg tst el ρb []) Q=Q []:=tv_some
theorem tv_compC {j:Nat}{tst:Fn Bool}{el:Fn PV}{ρb:Rho}{x:PV}{xs:List PV}{Q:List PV->Prop}:Tv (gJ (gN j) tst el ρb (x::xs)) Q =
  Tv (tst (ρb.set j (some (.sh x)))) (fun b=>if b=true then Tv (el (ρb.set j (some (.sh x)))) (fun p=>Tv (gJ (gN j) tst el ρb xs) (fun r=>Q (p::r))) else Tv (gJ (gN j) tst el ρb xs) Q):=by
 rw [gJ]
 simp only [gN,tv_bnd,tv_ite,tv_some]
theorem tv_yes {ρ:Rho}{Q:Bool->Prop}:Tv (sY ρ) Q=Q true:=tv_some
theorem FT {α:Type}{x:Option (Res α)}{q:α} (h:Tv x fun p=>p=q):x=some (.ok q):=by
 obtain ⟨p,e,rfl⟩:=h
 exact e
theorem KJ {j:Nat}{el:Fn PV}{ρb:Rho}{l:List PV} (f:PV->PV) (h:∀ x∈l,Tv (el (ρb.set j (some (.sh x)))) fun p=>p=f x):gJ (gN j) sY el ρb l=some (.ok (l.map f)) :=
 HN f l fun x hx=>⟨_,rfl,FT (h x hx)⟩
noncomputable def szP (w h:Int):PV:=.tup [.int w,.int h]
noncomputable def cellP (c:Int×Int):PV:=.tup [.int c.1,.int c.2]
theorem snocI (l:List Int) (a:Int):l.map PV.int++[PV.int a]=(l++[a]).map PV.int:=by rw [Zan];rfl
theorem snocS (l:List Str) (a:Str):l.map PV.str++[PV.str a]=(l++[a]).map PV.str:=by rw [Zan];rfl
theorem snocC (l:List (Int×Int)) (a b:Int):l.map cellP++[PV.tup [.int a,.int b]]=(l++[(a,b)]).map cellP:=by rw [Zan];rfl
theorem is_non_int:isI .non "int"=some false:=rfl
theorem is_non_bool:isI .non "bool"=some false:=rfl
theorem is_non_str:isI .non "str"=some false:=rfl
theorem is_non_list:isI .non "list"=some false:=rfl
theorem is_non_tuple:isI .non "tuple"=some false:=rfl
theorem is_non_dict:isI .non "dict"=some false:=rfl
theorem is_bl_int {b:Bool}:isI (.bl b) "int"=some true:=rfl
theorem is_bl_bool {b:Bool}:isI (.bl b) "bool"=some true:=rfl
theorem is_bl_str {b:Bool}:isI (.bl b) "str"=some false:=rfl
theorem is_bl_list {b:Bool}:isI (.bl b) "list"=some false:=rfl
theorem is_bl_tuple {b:Bool}:isI (.bl b) "tuple"=some false:=rfl
theorem is_bl_dict {b:Bool}:isI (.bl b) "dict"=some false:=rfl
theorem is_int_int {i:Int}:isI (.int i) "int"=some true:=rfl
theorem is_int_bool {i:Int}:isI (.int i) "bool"=some false:=rfl
theorem is_int_str {i:Int}:isI (.int i) "str"=some false:=rfl
theorem is_int_list {i:Int}:isI (.int i) "list"=some false:=rfl
theorem is_int_tuple {i:Int}:isI (.int i) "tuple"=some false:=rfl
theorem is_int_dict {i:Int}:isI (.int i) "dict"=some false:=rfl
theorem is_str_int {z:Str}:isI (.str z) "int"=some false:=rfl
theorem is_str_bool {z:Str}:isI (.str z) "bool"=some false:=rfl
theorem is_str_str {z:Str}:isI (.str z) "str"=some true:=rfl
theorem is_str_list {z:Str}:isI (.str z) "list"=some false:=rfl
theorem is_str_tuple {z:Str}:isI (.str z) "tuple"=some false:=rfl
theorem is_str_dict {z:Str}:isI (.str z) "dict"=some false:=rfl
theorem is_tup_int {l:List PV}:isI (.tup l) "int"=some false:=rfl
theorem is_tup_bool {l:List PV}:isI (.tup l) "bool"=some false:=rfl
theorem is_tup_str {l:List PV}:isI (.tup l) "str"=some false:=rfl
theorem is_tup_list {l:List PV}:isI (.tup l) "list"=some false:=rfl
theorem is_tup_tuple {l:List PV}:isI (.tup l) "tuple"=some true:=rfl
theorem is_tup_dict {l:List PV}:isI (.tup l) "dict"=some false:=rfl
theorem is_lst_int {l:List PV}:isI (.lst l) "int"=some false:=rfl
theorem is_lst_bool {l:List PV}:isI (.lst l) "bool"=some false:=rfl
theorem is_lst_str {l:List PV}:isI (.lst l) "str"=some false:=rfl
theorem is_lst_list {l:List PV}:isI (.lst l) "list"=some true:=rfl
theorem is_lst_tuple {l:List PV}:isI (.lst l) "tuple"=some false:=rfl
theorem is_lst_dict {l:List PV}:isI (.lst l) "dict"=some false:=rfl
theorem FW {α:Type}{f:PV->PV->Option Bool}{g:α->PV} [DecidableEq α] (h:∀ a b,f (g a) (g b)=some (decide (a=b))):∀ l m:List α,eqL f (l.map g) (m.map g)=some (decide (l=m))
 | [],[]=>rfl
 | [],_::_=>rfl
 | _::_,[]=>rfl
 | x::xs,y::ys=>by
  rw [Zah,Zah,eqL,h x y,FW h xs ys]
  simp only [ZbI,Bool.decide_and]
theorem Nf {α:Type}{n:Nat}{g:α->PV} [DecidableEq α] (h:∀ a b,eqF n (g a) (g b)=some (decide (a=b))) (l m:List α):eqF (n+1) (.lst (l.map g)) (.lst (m.map g))=some (decide (l=m)):=by
 show (if (l.map g).length=(m.map g).length then eqL (eqF n) (l.map g) (m.map g) else some false)=_
 by_cases hl:l.length=m.length
 ·rw [if_pos (by simpa using hl)]
  exact FW h l m
 ·rw [if_neg (by simpa using hl),decide_eq_false fun e=>hl (by rw [e])]
theorem BJ {α:Type}{g:α->PV} [DecidableEq α] (h:∀ a b,eqF 31 (g a) (g b)=some (decide (a=b))) (a:α):∀ l:List α,inF (g a) (l.map g)=some (decide (a∈l))
 | []=>rfl
 | x::xs=>by
  rw [Zah,inF,h x a,BJ h a xs]
  simp only [Zao,Bool.decide_or]
  congr 2
  exact decide_eq_decide.mpr ⟨fun e=>e.symm,fun e=>e.symm⟩
theorem Ng {α:Type}{g:α->PV} [DecidableEq α] (h:∀ a b,eqF 31 (g a) (g b)=some (decide (a=b))) (a:α) (l:List α) [Decidable (a∈l)]:inF (g a) (l.map g)=some (decide (a∈l)):=by
 rw [BJ h a l]
 congr 1
 exact decide_eq_decide.mpr Iff.rfl
theorem FZ {α β:Type} (f:α->β) (l:List α) (i:Int):atI (l.map f) i=(atI l i).map f:=by
 unfold atI
 rw [List.length_map]
 cases ixN l.length i <;> simp
theorem gK {ns:List Int}{i:Int} (h0:0≤i) (h:i < ns.length):atI (ns.map PV.int) i=some (.int (ns.getD i.toNat 0)):=by
 obtain ⟨v,e1,e2⟩:=Am (xs:=ns.map PV.int) h0 (by rw [List.length_map];exact h)
 rw [e1]
 rw [Zag] at e2
 have hl:i.toNat < ns.length:=by omega
 rw [Zac hl] at e2
 rw [ZaD,Zac hl]
 exact e2.symm
theorem atI_0 {p:PV}{l:List PV}:atI (p::l) 0=some p:=mZ (j:=0) rfl
theorem atI_1 {p q:PV}{l:List PV}:atI (p::q::l) 1=some q:=mZ (j:=1) rfl
theorem atI_2 {p q r:PV}{l:List PV}:atI (p::q::r::l) 2=some r:=mZ (j:=2) rfl
theorem atI_3 {p q r s:PV}{l:List PV}:atI (p::q::r::s::l) 3=some s:=mZ (j:=3) rfl
theorem Ga {α:Type}{l:List α}{i:Int}{v:α} (h0:0≤i) (h:l[i.toNat]?=some v):atI l i=some v:=by
 have:=mZ h
 rwa [Za0 h0] at this
noncomputable def eN (c:Nat):List Nat->List (List Nat)
 | []=>[[]]
 | x::xs=>if x=c then []::eN c xs else match eN c xs with
  | []=>[[x]]
  | h::t=>(x::h)::t
theorem gM (c:Nat) (l:List Nat):∃ h t,eN c l=h::t:=by
 cases l with
 | nil=>exact ⟨_,_,rfl⟩
 | cons x xs =>
  rw [eN]
  split
  ·exact ⟨_,_,rfl⟩
  ·split <;> exact ⟨_,_,rfl⟩
noncomputable def xr (c:Nat):Nat->List Nat->List Nat
 | _,[]=>[]
 | a,x::xs=>if x=c then a::xr c (a+1) xs else xr c (a+1) xs
noncomputable def ofL (l:List Nat):Str:=⟨l.toArray⟩
theorem DP (z:Str):ofL z.cps.toList=z:=rfl
theorem gA (l:List Nat):(ofL l).length=l.length:=List.size_toArray ..
theorem subAt_one (z:Str) (c i:Nat) (h:i < z.cps.size):Builtin.Str.subAt z ⟨#[c]⟩ i=decide (z.cps.toList[i]?=some c):=by
 unfold Builtin.Str.subAt
 show (z.cps.extract i (i+1) == #[c])=_
 rw [Bool.eq_iff_iff,beq_iff_eq,decide_eq_true_eq,←ZbA,Array.toList_extract]
 have hl:i < z.cps.toList.length:=by simpa using h
 rw [Zac hl]
 have:(z.cps.toList.extract i (i+1))=[z.cps.toList[i]]:=by
  rw [List.extract_eq_drop_take,ZaH hl]
  simp
 rw [this]
 simp
theorem zJ (z:Str) (c:Nat):∀ (k lo:Nat) (st:Array Nat×Nat),lo+k=z.length+1->st.1.size≤lo->st.2≤lo ->
  (forIn (List.range' lo k) st (StrLaws.occBody z ⟨#[c]⟩ z.length (z.length+1)):Id _).run.1.toList=st.1.toList++xr c lo (z.cps.toList.drop lo)
 | 0,lo,st,hk,_,_=>by
  have:z.cps.toList.drop lo=[]:=ZbD (by rw [Array.length_toList];show z.length≤lo;omega)
  rw [this]
  simp [xr]
 | k+1,lo,st,hk,h1,h2=>by
  rw [List.range'_succ,List.forIn_cons]
  by_cases hlo:lo < z.cps.size
  ·have hl:lo < z.cps.toList.length:=by simpa using hlo
   have hs:z.length=z.cps.size:=rfl
   rw [ZaH hl,xr]
   unfold StrLaws.occBody
   rw [subAt_one z c lo hlo,Zac hl]
   by_cases hc:z.cps.toList[lo]=c
   ·have e:=zJ z c k (lo+1) (st.1.push lo,lo+1) (by omega) (by simp;omega) (Zaf _)
    rw [if_pos hc]
    simp only [hc,decide_true,and_true]
    rw [if_pos ⟨⟨by omega,h2⟩,by show lo+1≤_;omega⟩]
    simp only [pure_bind]
    refine e.trans ?_
    simp
   ·have e:=zJ z c k (lo+1) st (by omega) (by omega) (by omega)
    rw [if_neg hc]
    simp only [Option.some.injEq,hc,decide_false,ZbE,and_false,if_false]
    exact e
  ·have hd:z.cps.toList.drop lo=[]:=ZbD (by rw [Array.length_toList];omega)
   have hs:z.length=z.cps.size:=rfl
   have e:=zJ z c k (lo+1) st (by omega) (by omega) (by omega)
   rw [ZbD (by rw [Array.length_toList];omega)] at e
   rw [hd]
   unfold StrLaws.occBody
   rw [if_neg (fun h=>by have:lo+1≤z.length:=h.1.2;omega)]
   exact e
theorem Nh (z:Str) (c:Nat):Builtin.Str.occurrences z ⟨#[c]⟩ 0 z.length (z.length+1)=xr c 0 z.cps.toList:=by
 rw [StrLaws.occ_eq,zJ z c (z.length+1 - 0) 0 (#[],0) (by omega) (Zaf _) (Zaf _)]
 simp
theorem uK (z:Str) (i j:Nat):Builtin.Str.strSub z i j=ofL ((z.cps.toList.drop i).take (j - i)):=by
 unfold Builtin.Str.strSub ofL
 congr 1
 apply ZbA.mp
 rw [Array.toList_extract,List.extract_eq_drop_take]
theorem uw (z:Str) (c:Nat):∀ (l:List Nat) (s a:Nat),s≤a->z.cps.toList.drop a=l ->
  StrLaws.partsFrom z 1 s (xr c a l)=match eN c l with
   | []=>[]
   | h::t=>ofL ((z.cps.toList.drop s).take (a - s)++h)::t.map ofL
 | [],s,a,hs,e=>by
  have ha:z.length≤a:=by
   have:=congrArg List.length e
   rw [ZaB,Array.length_toList] at this
   show z.cps.size≤a
   simp at this
   omega
  rw [xr,StrLaws.partsFrom,eN,uK]
  simp only [List.map_nil,ZaE]
  rw [ZaO (by rw [ZaB,Array.length_toList];exact Zaf _),ZaO (by rw [ZaB,Array.length_toList];show z.length - s≤_;omega)]
 | x::xs,s,a,hs,e=>by
  have e2:z.cps.toList.drop (a+1)=xs:=by
   rw [←List.drop_drop,e];rfl
  have ht:(z.cps.toList.drop s).take (a+1 - s)=(z.cps.toList.drop s).take (a - s)++[x]:=by
   have:(z.cps.toList.drop s)[a - s]?=some x:=by
    rw [List.getElem?_drop,show s+(a - s)=a by omega]
    have:=congrArg (·[0]?) e
    simpa using this
   rw [show a+1 - s=(a - s)+1 by omega,ZbB,this]
   rfl
  rw [xr,eN]
  split
  ·rw [StrLaws.partsFrom,uw z c xs (a+1) (a+1) (Zaf _) e2,uK]
   simp only [ZaE]
   obtain ⟨h,t,eh⟩:=gM c xs
   rw [eh]
   simp
  ·rw [uw z c xs s (a+1) (by omega) e2]
   obtain ⟨h,t,eh⟩:=gM c xs
   rw [eh]
   simp only
   rw [ht,ZaA]
   rfl
theorem yr (z:Str) (c:Nat) (hc:c < 256):Txt.split z ⟨#[c]⟩=(eN c z.cps.toList).map ofL:=by
 have hk:¬(Builtin.Str.strKind z < Builtin.Str.strKind ⟨#[c]⟩):=by
  have:Builtin.Str.strKind ⟨#[c]⟩=1:=by
   unfold Builtin.Str.strKind
   rw [if_pos (by simpa using hc)]
  rw [this]
  unfold Builtin.Str.strKind
  split
  ·omega
  ·split <;> omega
 unfold Txt.split
 by_cases h0:z.length < (⟨#[c]⟩:Str).length
 ·rw [if_pos (by rw [decide_eq_true h0];rfl)]
  have:z.cps.toList=[]:=by
   have:z.length < 1:=h0
   apply List.eq_nil_of_length_eq_zero
   rw [Array.length_toList]
   show z.length=0
   omega
  rw [this]
  show [z]=[ofL []]
  rw [←DP z,this]
 ·rw [if_neg (by rw [decide_eq_false h0,decide_eq_false hk];decide),Nh,StrLaws.partsBetween_eq]
  have e:=uw z c z.cps.toList 0 0 (Zaf _) (Za3 ..)
  obtain ⟨h,t,eh⟩:=gM c z.cps.toList
  rw [eh] at e ⊢
  simp only [Nat.sub_self,List.take_zero,List.nil_append] at e
  split
  ·rename_i he
   have:xr c 0 z.cps.toList=[]:=by simpa using he
   rw [this,StrLaws.partsFrom,StrLaws.sub_whole] at e
   rw [e];rfl
  ·exact e
noncomputable def pM (c:Nat):List (List Nat)->List Nat
 | []=>[]
 | [r]=>r
 | r::q::rs=>r++c::pM c (q::rs)
theorem rF (c:Nat):∀ (r l:List Nat),c ∉ r->eN c (r++l)=match eN c l with
   | []=>[]
   | h::t=>(r++h)::t
 | [],l,_=>by
  obtain ⟨h,t,eh⟩:=gM c l
  rw [List.nil_append,eh]
  rfl
 | x::r,l,hc=>by
  rw [List.cons_append,eN,if_neg (fun e=>hc (by simp [e])),rF c r l (fun h=>hc (by simp [h]))]
  obtain ⟨h,t,eh⟩:=gM c l
  rw [eh]
  rfl
theorem uL (c:Nat):∀ (rows:List (List Nat)),rows≠[]->(∀ r∈rows,c ∉ r)->eN c (pM c rows)=rows
 | [],h,_=>absurd rfl h
 | [r],_,hr=>by
  have:=rF c r [] (hr r (by simp))
  rw [ZaE] at this
  rw [pM,this]
  simp [eN]
 | r::q::rs,_,hr=>by
  rw [pM,rF c r _ (hr r (by simp)),eN,if_pos rfl,uL c (q::rs) (by simp) fun x hx=>hr x (by simp at hx ⊢;right;exact hx)]
  simp
theorem Gb (c:Nat):∀ (ys:List Str) (acc:Array Nat),(ys.foldl (fun acc p=>acc++(⟨#[c]⟩:Str).cps++p.cps) acc).toList=acc.toList++(ys.map fun y=>c::y.cps.toList).flatten
 | [],acc=>by simp
 | y::ys,acc=>by
  rw [ZbH,Gb c ys]
  simp
theorem nF (c:Nat) (r:List Nat):∀ (rs:List (List Nat)),pM c (r::rs)=r++(rs.map fun y=>c::y).flatten
 | []=>by simp [pM]
 | q::rs=>by
  rw [pM,nF c q rs]
  simp
theorem join_list (c:Nat) (ys:List Str):(Txt.join ⟨#[c]⟩ ys).cps.toList=pM c (ys.map fun y=>y.cps.toList):=by
 cases ys with
 | nil=>rfl
 | cons y ys =>
  rw [Zah,nF,ZaU]
  show ((ys.foldl (fun acc p=>acc++(⟨#[c]⟩:Str).cps++p.cps) y.cps)).toList=_
  rw [Gb]
  rfl
theorem DQ (c:Nat) (hc:c < 256) (ys:List Str) (h0:ys≠[]) (h:∀ y∈ys,c ∉ y.cps.toList):Txt.split (Txt.join ⟨#[c]⟩ ys) ⟨#[c]⟩=ys:=by
 rw [yr _ c hc,join_list,uL c _ (by simpa using h0) (fun r hr=>by
  obtain ⟨y,hy,rfl⟩:=ZaP.mp hr
  exact h y hy),ZaU]
 have:(ofL ∘ fun (y:Str)=>y.cps.toList)=id:=by funext y;rfl
 rw [this,List.map_id]
theorem wC (c:Nat) (ys:List Str):(Txt.join ⟨#[c]⟩ ys).length≤(ys.map (·.length)).sum+ys.length:=by
 have e:(Txt.join ⟨#[c]⟩ ys).length=(pM c (ys.map fun y=>y.cps.toList)).length:=by rw [←join_list,Array.length_toList];rfl
 rw [e]
 clear e
 cases ys with
 | nil=>simp [pM]
 | cons y ys =>
  rw [Zah,nF,List.length_append,ZaU,Zah,Zbg,Zak]
  have:((ys.map ((fun y=>c::y) ∘ fun (y:Str)=>y.cps.toList)).flatten).length=(ys.map (·.length)).sum+ys.length:=by
   induction ys with
   | nil=>rfl
   | cons q qs ih =>
    rw [Zah,Zbt,List.length_append,ih,Zah,Zbg,Zak]
    show (c::q.cps.toList).length+_=q.length+_+_
    rw [Zak,Array.length_toList]
    show q.length+1+_=_
    omega
  rw [this]
  have e2:y.cps.toList.length=y.length:=by rw [Array.length_toList];rfl
  rw [e2]
  omega
theorem is_dk_int {l:List (Key×PV)}:isI (.dk l) "int"=some false:=rfl
theorem is_dk_str {l:List (Key×PV)}:isI (.dk l) "str"=some false:=rfl
section
variable {ρ:Rho}{f g h:Fn PV}{i:Nat}{Q:PV->Prop}{QS:Out->Prop}{d k x p:PV}{l:List PV}
theorem QT:Tv (asD p) Q=(p.isD=true∧Q p):=cI
theorem tv_viewDN:Tv (tH i ρ) Q=Tv (mVL i ρ) (fun p=>p.isD=true∧Q p):=by unfold tH;rw [tv_bnd];simp only [QT]
theorem tv_opDLen {l:List (Key×PV)}:Tv (Dk (.dk l)) Q=Q (.int l.length):=tv_some
theorem tv_dictP:Tv (tK d l) Q=∃ ps d',nu l=some ps∧jC d ps=some d'∧Q d':=by
 unfold tK
 split
 ·rename_i ps h
  rw [h]
  refine propext ⟨fun ⟨r,e,q⟩=>?_,fun ⟨ps',d',e1,e2,q⟩=>?_⟩
  ·cases h2:jC d ps with
   | none=>rw [h2] at e;cases e
   | some d'=>rw [h2] at e;cases e;exact ⟨ps,_,rfl,h2,q⟩
  ·cases e1;exact ⟨d',by rw [e2];rfl,q⟩
 ·rename_i h;rw [jb];exact propext ⟨fun z=>z.elim,fun ⟨ps,_,e,_⟩=>by rw [h] at e;cases e⟩
theorem tv_rng3 {a b c:Int}{Q:List PV->Prop}:Tv (zr [.int a,.int b,.int c]) Q=(CR a b c∧Q (vZ a c (rgn a b c))):=cI
theorem tv_divL {x y:Int}:Tv (zu (.int x) (.int y)) Q=((0 < y∧y.natAbs.log2 < 9000)∧Q (.int (x / y))):=by unfold zu;rw [rE];simp [OJ]
end
section
variable {l:List (Key×PV)}{t:List (List Key×PV)}{ks:List PV}{n:Int}{z:Str}{p:PV}
theorem dF_int:JW (.dk l) (.int n)=some (xj l (.inl n)):=rfl
theorem dF_str:JW (.dk l) (.str z)=some (xj l (.inr z)):=rfl
theorem dF_tup:JW (.dt t) (.tup ks)=(rB ks).map (xj t):=rfl
theorem QV:Qq (.dk l) (.str z) p=if l.length < sizeLine then some (.dk (rA l (.inr z) p)) else none:=rfl
theorem isD_dk:(PV.dk l).isD=true:=rfl
theorem isD_dt:(PV.dt t).isD=true:=rfl
end
section
variable {κ:Type} [DecidableEq κ]
end
section
variable {f g:Fn PV}{ρ:Rho}{Q:PV->Prop}{QS:Out->Prop}{i:Nat}{s:Sn}{p:PV}
theorem finT_rd:Ub (some (.rd p))=some (.ok p):=rfl
end
section
variable {f g:Fn PV}{ρ:Rho}{Q:PV->Prop}{QS:Out->Prop}{i j:Nat}{s:Sn}{p:PV}{k:Rho->Prop}
noncomputable def KN (QS:Out->Prop):Out->Prop
 | .rd _=>False
 | o=>QS o
theorem holdQ_nx:KN QS (.nx ρ)=QS (.nx ρ):=rfl
theorem holdQ_rt:KN QS (.rt p)=QS (.rt p):=rfl
theorem holdQ_ro:KN QS (.ro p)=QS (.ro p):=rfl
end
section
variable {f:Fn PV}{ρ:Rho}{Q:PV->Prop}{QS:Out->Prop}{i:Nat}
end
section
variable {s t:Sn}{ρ:Rho}{z p:PV}{QS:Out->Prop}{Q:PV->Prop}{f:Fn PV}{i:Nat}
theorem wD (h:s ρ=some (.ex z)):bj s t ρ=some (.ex z):=by unfold bj;rw [h]
theorem rG (h:To (s ρ) (qD (fun ρ'=>t ρ'=some (.ex z)) fun _=>False)):bj s t ρ=some (.ex z):=by
 obtain ⟨o,e,_,q⟩:=h
 cases o with
 | nx ρ'=>unfold bj;rw [e];exact q
 | _=>exact q.elim
theorem QW {it:Fn (List PV)}{tg:PV->Rho->Option Rho} (h:Tv (it ρ) fun l=>loop tg s l ρ=some (.ex z)):lR it tg s ρ=some (.ex z):=by
 obtain ⟨l,e,q⟩:=h
 unfold lR
 rw [e]
 exact q
theorem Gd {c:Fn Bool} (h:Tv (c ρ) fun b=>if b=true then s ρ=some (.ex z) else t ρ=some (.ex z)):du c s t ρ=some (.ex z):=by
 obtain ⟨b,e,q⟩:=h
 unfold du
 rw [e]
 cases b <;> exact q
theorem wF {c:Str}{fs:List Str}{g:Fn (List PV)} (h:Tv (g ρ) fun l=>l.length=fs.length∧.exc c (fs.zip l)=z):rD c fs g ρ=some (.ex z):=by
 obtain ⟨l,e,q,rfl⟩:=h
 unfold rD
 rw [e]
 show (if _ then _ else _)=_
 rw [if_pos q]
theorem QX {tg:PV->Rho->Option Rho} (h:f ρ=some (.ex z)):cY f tg ρ=some (.ex z):=by unfold cY;rw [h];rfl
theorem QZ (h:f ρ=some (.ex z)):dU f ρ=some (.ex z):=by unfold dU;rw [h];rfl
theorem Ge {m:List PV->Option (Res PV)}{g:Fn (List PV)} (h:Tv (g ρ) fun l=>m l=some (.ex z)):dh m g ρ=some (.ex z):=by
 obtain ⟨l,e,q⟩:=h
 unfold dh
 rw [e]
 exact q
theorem Ni {tg:PV->Rho->Option Rho} (I:Nat->Rho->Prop):∀ {l:List PV}{ρ:Rho}{k:Nat},k < l.length->I 0 ρ ->
  (∀ (i:Nat) x ρ,i < k->l[i]?=some x->I i ρ->∃ ρ1,tg x ρ=some ρ1∧To (s ρ1) (turn (I (i+1)) fun _=>False)) ->
  (∀ x ρ,l[k]?=some x->I k ρ->∃ ρ1,tg x ρ=some ρ1∧s ρ1=some (.ex z))->loop tg s l ρ=some (.ex z):=by
 intro l
 induction l generalizing I with
 | nil=>exact fun h=>absurd h (by simp)
 | cons x xs ih =>
  intro ρ k hk h0 hs hx
  cases k with
  | zero =>
   obtain ⟨ρ1,e1,e2⟩:=hx x ρ rfl h0
   rw [loop,e1]
   simp only [e2]
  | succ k =>
   obtain ⟨ρ1,e1,o,e2,c,q⟩:=hs 0 x ρ (by omega) rfl h0
   have go:∀ ρ2,I 1 ρ2->loop tg s xs ρ2=some (.ex z):=fun ρ2 q=>ih (fun i=>I (i+1)) (by simpa using hk) q (fun i y ρ hi e=>hs (i+1) y ρ (by omega) (by simpa using e)) fun y ρ e=>hx y ρ (by simpa using e)
   rw [loop,e1]
   simp only [e2]
   cases o with
   | nx ρ2=>exact go ρ2 q
   | ct ρ2=>exact go ρ2 q
   | _=>exact q.elim
theorem Q0 {hh:PV->Sn} (h:To (s ρ) QS):To (DK s hh ρ) QS:=by
 obtain ⟨o,e,c,q⟩:=h
 refine ⟨o,?_,c,q⟩
 unfold DK
 rw [e]
 cases o with
 | ex z=>exact c.elim
 | _=>rfl
theorem Q3 {hh:PV->Sn} (h:s ρ=some (.ex z)) (h2:To (hh z ρ) QS):To (DK s hh ρ) QS:=by
 unfold DK
 rw [h]
 exact h2
noncomputable def wG (i:Nat) (QS:Out->Prop):Out->Prop
 | .nx ρ=>QS (.nx (ρ.set i none))
 | .bk ρ=>QS (.bk (ρ.set i none))
 | .ct ρ=>QS (.ct (ρ.set i none))
 | o=>QS o
theorem goneQ_nx:wG i QS (.nx ρ)=QS (.nx (ρ.set i none)):=rfl
theorem goneQ_bk:wG i QS (.bk ρ)=QS (.bk (ρ.set i none)):=rfl
theorem goneQ_ct:wG i QS (.ct ρ)=QS (.ct (ρ.set i none)):=rfl
theorem goneQ_rt:wG i QS (.rt p)=QS (.rt p):=rfl
theorem goneQ_ro:wG i QS (.ro p)=QS (.ro p):=rfl
theorem to_gone {x:Option Out}:To (O7 i x) QS=To x (wG i QS):=by
 refine propext ⟨fun ⟨o,e,c,q⟩=>?_,fun ⟨o,e,c,q⟩=>?_⟩
 ·cases x with
  | none=>cases e
  | some y=>cases y <;> cases e <;> first | exact ⟨_,rfl,trivial,q⟩ | exact c.elim
 ·subst e
  cases o with
  | ex z=>exact c.elim
  | _=>exact ⟨_,rfl,trivial,q⟩
theorem Q4 {sub:Str->Option Bool}{rest:PV->Sn}{c:Str}{l:List (Str×PV)} (h:sub c=some true):To (M6 sub i s rest (.exc c l) ρ) QS=To (s (ρ.set i (some (.sh (.exc c l))))) (wG i QS):=by
 show To (match sub c with | some true=>_ | some false=>_ | none=>none) QS=_
 rw [h]
 exact to_gone
theorem nn_non:PV.non.ji=true:=rfl
theorem nn_int {i:Int}:(PV.int i).ji=false:=rfl
theorem nn_str {z:Str}:(PV.str z).ji=false:=rfl
theorem nn_bl {b:Bool}:(PV.bl b).ji=false:=rfl
theorem nn_tup {l:List PV}:(PV.tup l).ji=false:=rfl
theorem nn_lst {l:List PV}:(PV.lst l).ji=false:=rfl
theorem nn_exc {c:Str}{l:List (Str×PV)}:(PV.exc c l).ji=false:=rfl
noncomputable def Ue (sub:Str->Option Bool) (no:Bool):PV->Option Bool
 | .exc c (_::_)=>sub c
 | .non=>some no
 | _=>none
theorem tv_isX {sub:Str->Option Bool}{no:Bool}:Tv (Bx sub no f ρ) Q=Tv (f ρ) (fun p=>∃ b,Ue sub no p=some b∧Q (.bl b)):=by
 unfold Bx
 rw [tv_bnd]
 congr 1;funext p
 have no':∀ {P:Bool->Prop},Tv (none:Option (Res PV)) Q=∃ b,(none:Option Bool)=some b∧P b:=fun {P}=>by
  rw [jb];exact propext ⟨fun h=>h.elim,fun ⟨_,e,_⟩=>nomatch e⟩
 cases p with
 | non=>exact propext ⟨fun ⟨r,e,q⟩=>by cases e;exact ⟨no,rfl,q⟩,fun ⟨b,e,q⟩=>by cases e;exact ⟨_,rfl,q⟩⟩
 | exc c l =>
  cases l with
  | nil=>exact no'
  | cons x l =>
   show Tv ((sub c).map fun b=>.ok (.bl b)) Q=∃ b,sub c=some b∧_
   cases h:sub c with
   | none=>exact no'
   | some b=>exact propext ⟨fun ⟨r,e,q⟩=>by cases e;exact ⟨b,rfl,q⟩,fun ⟨b,e,q⟩=>by cases e;exact ⟨_,rfl,q⟩⟩
 | _=>exact no'
noncomputable def Tt (nm:Str->Bool) (g:Str):PV->Option PV
 | .exc c (x::l)=>if nm c=true then (x::l).lookup g else none
 | _=>none
theorem tv_fldX {nm:Str->Bool}{g:Str}:Tv (yq nm g f ρ) Q=Tv (f ρ) (fun p=>∃ q,Tt nm g p=some q∧Q q):=by
 unfold yq
 rw [tv_bnd]
 congr 1;funext p
 have no':Tv (none:Option (Res PV)) Q=∃ b,(none:Option PV)=some b∧Q b:=by
  rw [jb];exact propext ⟨fun h=>h.elim,fun ⟨_,e,_⟩=>nomatch e⟩
 cases p with
 | exc c l =>
  cases l with
  | nil=>exact no'
  | cons x l =>
   show Tv (if nm c=true then ((x::l).lookup g).map .ok else none) Q=∃ q,(if nm c=true then (x::l).lookup g else none)=some q∧Q q
   by_cases hn:nm c=true
   ·rw [if_pos hn,if_pos hn]
    cases h:(x::l).lookup g with
    | none=>exact no'
    | some b=>exact propext ⟨fun ⟨r,e,q⟩=>by cases e;exact ⟨_,rfl,q⟩,fun ⟨b,e,q⟩=>by cases e;exact ⟨_,rfl,q⟩⟩
   ·rw [if_neg hn,if_neg hn]
    exact no'
 | _=>exact no'
end
noncomputable def lB:Str->Option Bool:=fun c=>if c="NoBench" then some true else none
noncomputable def rH:Str->Option Bool:=fun c=>if c="NoBench" then some true else none
noncomputable def lC:Str->Option Bool:=fun c=>if c="NoBench" then some true else none
noncomputable def kt0:Str->Option Bool:=fun c=>if c="NoBench" then some false else none
noncomputable def kt1:Str->Option Bool:=fun c=>if c="NoBench" then some false else none
noncomputable def wH:Str->Bool:=fun c=>(["NoBench"]:List Str).contains c
noncomputable def pN:Sn :=
 (dU (mC (.bl false)))
noncomputable def uM:Sn :=
 (dU (m1 vR (fM (pL (m1 pK (mV 0)) [none] (gN 0) sY (m2 Av (mVL 0) (mC (.str "abcdefghijklmnopqrstuvwxyz")))))))
noncomputable def qt:Sn :=
 (bj (du (mOr (vK (m1 cF (m2 Ba (mVL 0) (mC (.ty "str"))))) (vK (m1 cF (qZ vO vO (mC (.int 1)) (m1 cZ (mVL 0)) (mC (.int (8)))))))
    pN
    cC)
   uM)
noncomputable def jF:List PV->Option (Res PV)
 | [a0]=>fin (qt (startR [a0] 0))
 | _=>none
noncomputable def tO:Sn :=
 (dU (m2 bB (mV 1) (mC (.int 1))))
noncomputable def nG:Sn :=
 (dU (mC .non))
noncomputable def nH:Sn :=
 (bj (cY (lA (mV 0) (mC (.str " "))) (gN 1))
   (bj (du (vJ (m1 cF (m2 eU (m1 cZ (mVL 1)) (mC (.int 2)))) (vJ (m1 cF (m2 eU (m2 bB (mV 1) (mC (.int 0))) (mC (.str "paper")))) (m1 cF (dh jF (aK (m2 bB (mV 1) (mC (.int 1))) bO)))))
    tO
    cC)
   nG))
noncomputable def nJ:List PV->Option (Res PV)
 | [a0]=>fin (nH (startR [a0] 1))
 | _=>none
noncomputable def nM:Sn :=
 (dU (mC .non))
noncomputable def nO:Sn :=
 (dU (m1 Bb (cH 1)))
noncomputable def nP:Sn :=
 (bj (cY (pL (m1 zr (aK (mC (.int 0)) (aK (m2 vM (m1 cZ (mVL 0)) (mC (.int 1))) (aK (mC (.int 2)) bO)))) [none,some 0] (gN 0) sY (lw (aK (m2 bB (mV 1) (mV 0)) (aK (m2 bB (mV 1) (m2 cj (mV 0) (mC (.int 1)))) bO)))) (gN 1))
   (bj (cY (m1 (tK (.dk [])) (cH 1)) (gN 2))
   (bj (du (mOr (m1 cF (m2 eU (m2 cA (m1 cZ (mVL 0)) (mC (.int 2))) (mC (.int 1)))) (mOr (vK (m1 cF (qZ vO vO (mC (.int 1)) (m1 cZ (mVL 1)) (mC (.int (8)))))) (m1 cF (m2 zc (m1 Dk (tH 2)) (m1 cZ (mVL 1))))))
    nM
    cC)
   nO)))
noncomputable def jM:List PV->Option (Res PV)
 | [a0]=>fin (nP (startR [a0] 2))
 | _=>none
noncomputable def nQ:Sn :=
 (dU (mC .non))
noncomputable def tQ:Sn :=
 (dU (lw (aK (mC (.str "glaze")) (aK (m2 bB (mV 0) (mC (.int 1))) (aK (mV 1) bO)))))
noncomputable def iQ:Sn :=
 (bj (cY (dh jM (aK (lV (cH 0) (m1 asInt (mC (.int 2))) mPn) bO)) (gN 1))
   (bj (du (m1 cF (m2 uH (mVL 1) (mC .non)))
    nQ
    cC)
   tQ))
noncomputable def jN:List PV->Option (Res PV)
 | [a0]=>fin (iQ (startR [a0] 1))
 | _=>none
noncomputable def wI:Sn :=
 (dU (mC .non))
noncomputable def wJ:Sn :=
 (dU (lw (aK (mC (.str "cover")) (aK (m2 bB (mV 1) (mC (.int 1))) (aK (m2 bB (mV 1) (mC (.int 2))) bO)))))
noncomputable def rJ:Sn :=
 (dU (dh jN (aK (mV 1) bO)))
noncomputable def rK:Sn :=
 (dU (mC .non))
noncomputable def jO:Sn :=
 (bj (du (m1 cF (m2 eU (m2 bB (mV 1) (mC (.int 0))) (mC (.str "glaze"))))
    rJ
    cC)
   rK)
noncomputable def rM:Sn :=
 (bj (du (vJ (m1 cF (m2 eU (m2 bB (mV 1) (mC (.int 0))) (mC (.str "cover")))) (m1 cF (m2 eU (m1 cZ (mVL 1)) (mC (.int 3)))))
    wJ
    cC)
   jO)
noncomputable def tR:Sn :=
 (bj (cY (lA (mV 0) (mC (.str " "))) (gN 1))
   (bj (du (vK (m1 cF (m1 vR (fM (pL (m1 pK (mV 1)) [none] (gN 0) sY (dh jF (aK (mV 0) bO)))))))
    wI
    cC)
   rM))
noncomputable def tU:List PV->Option (Res PV)
 | [a0]=>fin (tR (startR [a0] 1))
 | _=>none
noncomputable def j7:Sn :=
 (dU (mV 2))
noncomputable def gU:Sn :=
 (du (m1 cF (m2 eU (m2 bB (mV 3) (mC (.int 1))) (mVL 1)))
     j7
     cC)
noncomputable def j8:Sn :=
 (dU (mC .non))
noncomputable def dW:Sn :=
 (bj (lR (m1 zm (aK (mV 0) bO)) (gT 2 (gsCons (gN 2) (gsCons (gN 3) gsNil)))
    gU)
   j8)
noncomputable def dX:List PV->Option (Res PV)
 | [a0,a1]=>fin (dW (startR [a0,a1] 2))
 | _=>none
noncomputable def lD:Sn :=
 (rD "NoBench" ["row"] (aK (mV 2) bO))
noncomputable def qI:Sn :=
 (lQ 1 (mV 4))
noncomputable def gq:Sn :=
 (bj (cY (dh tU (aK (mV 3) bO)) (gN 4))
    (bj (du (mOr (m1 cF (m2 uH (mVL 4) (mC .non))) (mOr (m1 cF (m2 eU (m1 cZ (mVL 1)) (mC (.int (8))))) (m1 cF (m2 zg (yV dX (aK (mVL 1) (aK (m2 bB (mV 4) (mC (.int 1))) bO))) (mC .non)))))
     lD
     cC)
    qI))
noncomputable def qJ:Sn :=
 (jJ 1)
noncomputable def fQ:Sn :=
 (bj (fX 1 (jy bO))
   (bj (lR (m1 zy (aK (mV 0) bO)) (gT 2 (gsCons (gN 2) (gsCons (gN 3) gsNil)))
    gq)
   qJ))
noncomputable def jj:List PV->Option (Res PV)
 | [a0]=>qz (fQ (startR [a0] 4))
 | _=>none
noncomputable def jQ:Sn :=
 (rD "NoBench" ["row"] (aK (mC (.int 0)) bO))
noncomputable def pO:Sn :=
 (rD "NoBench" ["row"] (aK (mC (.int 1)) bO))
noncomputable def jR:Sn :=
 (dU (lw (aK (mV 2) (aK (dh jj (aK (lV (cH 1) (m1 asInt (mC (.int 1))) mPn) bO)) bO))))
noncomputable def fU:Sn :=
 (bj (du (m1 cF (m2 eU (m1 cZ (mVL 1)) (mC (.int 1))))
    pO
    cC)
   jR)
noncomputable def fu:Sn :=
 (bj (cY (lA (mV 0) (mC (.str "\n"))) (gN 1))
   (bj (cY (dh nJ (aK (m2 bB (mV 1) (mC (.int 0))) bO)) (gN 2))
   (bj (du (m1 cF (m2 uH (mVL 2) (mC .non)))
    jQ
    cC)
   fU)))
noncomputable def dI:List PV->Option (Res PV)
 | [a0]=>fin (fu (startR [a0] 2))
 | _=>none
noncomputable def lW:Sn :=
 (dU (m2 bB (mV 0) (mV 1)))
noncomputable def lX:Sn :=
 (dU (mC (.int 0)))
noncomputable def jT:Sn :=
 (bj (du (m1 cF (m2 zc (mV 1) (m1 cZ (mVL 0))))
    lW
    cC)
   lX)
noncomputable def dq:List PV->Option (Res PV)
 | [a0,a1]=>fin (jT (startR [a0,a1] 0))
 | _=>none
noncomputable def oE:Sn :=
 (dU (mV 0))
noncomputable def oF:Sn :=
 (cY (m2 zu (mV 0) (m2 uG (mC (.int 10)) (mC (.int 64)))) (gN 0))
noncomputable def oG:Sn :=
 (dU (m2 cj (m2 uG (mC (.int 10)) (mC (.int 20))) (mV 0)))
noncomputable def oH:Sn :=
 (bj (lR (m1 m9 (aK (m2 pJ (mC (.int 4)) (mV 1)) bO)) (gN 2)
    oF)
   oG)
noncomputable def jc:Sn :=
 (bj (du (m1 cF (m2 zc (mV 0) (m2 uG (mC (.int 10)) (mC (.int 20)))))
    oE
    cC)
   oH)
noncomputable def gr:List PV->Option (Res PV)
 | [a0,a1]=>fin (jc (startR [a0,a1] 1))
 | _=>none
noncomputable def oJ:Sn :=
 (bj (lQ 2 (m2 cA (mV 3) (mC (.int 33554432))))
     (cY (m2 vN (mV 3) (mC (.int 33554432))) (gN 3)))
noncomputable def oK:Sn :=
 (jJ 2)
noncomputable def oM:Sn :=
 (bj (cY (m2 vM (mV 0) (m2 uG (mC (.int 10)) (mC (.int 20)))) (gN 3))
    (bj (lR (m1 m9 (aK (mV 1) bO)) (gN 4)
     oJ)
    oK))
noncomputable def oN:Sn :=
 (bj (cY (m2 cj (m2 cj (m2 cj (m2 pJ (mV 3) (mV 3)) (m2 pJ (mC (.int 48271)) (mV 3))) (m2 pJ (mC (.int 7)) (mV 4))) (mC (.int 1))) (gN 3))
    (bj (cY (m2 cA (mV 3) (mC (.int 2147483647))) (gN 3))
    (lQ 2 (m2 vN (mV 3) (mC (.int 64))))))
noncomputable def oO:Sn :=
 (jJ 2)
noncomputable def oR:Sn :=
 (bj (cY (m2 cj (m2 cA (mV 0) (mC (.int 2147483647))) (mC (.int 48271))) (gN 3))
   (bj (lR (m1 m9 (aK (mV 1) bO)) (gN 4)
    oN)
   oO))
noncomputable def lF:Sn :=
 (bj (fX 2 (jy bO))
   (bj (du (m1 cF (m2 Ml (mV 0) (m2 uG (mC (.int 10)) (mC (.int 20)))))
    oM
    cC)
   oR))
noncomputable def cN:List PV->Option (Res PV)
 | [a0,a1]=>qz (lF (startR [a0,a1] 3))
 | _=>none
noncomputable def pP:Sn :=
 (lQ 6 (m2 cj (m2 cj (Hn (mV 4) mPn (m1 asInt (mV 5))) (mV 9)) (Hn (mV 4) (m1 asInt (mV 5)) mPn)))
noncomputable def pQ:Sn :=
 (lQ 6 (m2 cj (mV 9) (Hn (mV 4) mPn (m1 asInt (m2 cA (mV 7) (m2 cj (m1 cZ (mVL 4)) (mC (.int 1))))))))
noncomputable def pR:Sn :=
 (lQ 6 (m2 cj (m2 bB (mV 2) (mV 8)) (mV 4)))
noncomputable def pU:Sn :=
 (du (m1 cF (m2 eU (m2 cA (m2 bB (mV 3) (mC (.int 10))) (mC (.int 3))) (mC (.int 1))))
      pQ
      pR)
noncomputable def pW:Sn :=
 (bj (cY (m2 cA (m2 cj (m2 bB (mV 3) (mC (.int 8))) (m2 pJ (m2 cj (mC (.int 1)) (m2 cA (m2 bB (mV 3) (mC (.int 9))) (mC (.int 22)))) (mV 7))) (mC (.int 23))) (gN 8))
    (bj (cY (m2 cj (m2 bB (mV 2) (m2 cA (m2 pJ (mV 8) (mC (.int 5))) (mC (.int 26)))) (m2 bB (mV 2) (mV 8))) (gN 9))
    (du (m1 cF (m2 eU (m2 cA (m2 bB (mV 3) (mC (.int 10))) (mC (.int 3))) (mC (.int 0))))
     pP
     pU)))
noncomputable def pX:Sn :=
 (jJ 6)
noncomputable def nR:Sn :=
 (bj (cY (mC (.str "abcdefghijklmnopqrstuvwxyz")) (gN 2))
   (bj (cY (dh cN (aK (mV 0) (aK (mC (.int 12)) bO))) (gN 3))
   (bj (cY (uJ (mC (.str "")) (fM (pL (m1 pK (lV (cH 3) mPn (m1 asInt (m2 cA (m2 bB (mV 3) (mC (.int 6))) (mC (.int 7)))))) [none,some 2] (gN 0) sY (m2 bB (mV 1) (m2 cA (mV 0) (mC (.int 26))))))) (gN 4))
   (bj (cY (m2 cA (m2 bB (mV 3) (mC (.int 7))) (m2 cj (m1 cZ (mVL 4)) (mC (.int 1)))) (gN 5))
   (bj (fX 6 (jy bO))
   (bj (lR (m1 m9 (aK (mV 1) bO)) (gN 7)
    pW)
   pX))))))
noncomputable def gW:List PV->Option (Res PV)
 | [a0,a1]=>qz (nR (startR [a0,a1] 8))
 | _=>none
noncomputable def qK:Sn :=
 (lQ 0 (lw (aK (mV 3) (aK (m2 bB (mV 1) (m2 cA (m2 bB (mV 2) (mC (.int 2))) (m1 cZ (mVL 1)))) bO))))
noncomputable def pY:Sn :=
 (bj (cY (m2 bB (mV 1) (m2 cA (m2 bB (mV 2) (mC (.int 1))) (m1 cZ (mVL 1)))) (gN 3))
   (du (vJ (m1 cF (m2 zc (m1 cZ (mVL 0)) (mC (.int 8)))) (m1 cF (m2 m7 (mVL 3) (pL (cH 0) [none] (gN 0) sY (m2 bB (mV 0) (mC (.int 0)))))))
    qK
    cC))
noncomputable def jk:List PV->Option (Res PV)
 | [a0,a1,a2]=>Be 0 (pY (jB 0 [a0,a1,a2] 1))
 | _=>none
noncomputable def tV:Sn :=
 (dU (lw (aK (mC (.str "cover")) (aK (mV 0) (aK (m2 bB (mV 2) (m2 cA (m2 bB (mV 6) (mC (.int 1))) (m1 cZ (mVL 2)))) bO)))))
noncomputable def nU:Sn :=
 (mIO 3 jk (vV 3 (aK (mV 2) (aK (mV 6) bO))))
noncomputable def tW:Sn :=
 (bj (cY (dh cN (aK (m2 cj (mV 5) (m2 pJ (mC (.int 31)) (mV 4))) (aK (mC (.int 4)) bO))) (gN 6))
    (bj (du (vJ (m1 cF (m2 eU (mVL 4) (mC (.int 0)))) (m1 cF (m2 eU (m2 cA (m2 bB (mV 6) (mC (.int 0))) (mC (.int 3))) (mC (.int 0)))))
     tV
     cC)
    nU))
noncomputable def nW:Sn :=
 (dU (lw (aK (mC (.str "glaze")) (aK (mV 0) (aK (m1 Bb (cH 3)) bO)))))
noncomputable def rN:Sn :=
 (bj (fX 3 (jy bO))
   (bj (lR (m1 zm (aK (mV 1) bO)) (gT 2 (gsCons (gN 4) (gsCons (gN 5) gsNil)))
    tW)
   nW))
noncomputable def jU:List PV->Option (Res PV)
 | [a0,a1,a2]=>fin (rN (startR [a0,a1,a2] 4))
 | _=>none
noncomputable def pZ:Sn :=
 (cY (jy (aK (m2 cj (m2 bB (mV 1) (mC (.int 4))) (mV 6)) bO)) (gN 8))
noncomputable def jV:Sn :=
 (lQ 5 (dh jU (aK (mV 7) (aK (mV 8) (aK (mV 4) bO)))))
noncomputable def p6:Sn :=
 (bj (cY (m2 bB (mV 2) (m2 cA (m2 cj (m2 bB (mV 1) (mC (.int 2))) (m2 pJ (m2 cj (mC (.int 1)) (m2 cA (m2 bB (mV 1) (mC (.int 3))) (mC (.int 22)))) (mV 6))) (mC (.int 23)))) (gN 7))
    (bj (cY (Mv (cH 0) (m1 asInt (m2 cj (mC (.int 2)) (mV 6))) (m1 asInt (mC (.int 63))) (m1 asInt (mV 3))) (gN 8))
    (bj (du (m1 cF (m2 eU (mVL 8) (jy bO)))
     pZ
     cC)
    jV)))
noncomputable def jW:Sn :=
 (Mt 5 (dU (lw (aK (m2 bB (mV 4) (m2 cA (m2 bB (mV 1) (mC (.int 5))) (m1 cZ (mVL 4)))) (aK (mV 5) bO)))))
noncomputable def nY:Sn :=
 (bj (cY (dh cN (aK (dh dq (aK (mV 0) (aK (mC (.int 0)) bO))) (aK (mC (.int 6)) bO))) (gN 1))
   (bj (cY (dh gW (aK (dh dq (aK (mV 0) (aK (mC (.int 1)) bO))) (aK (mC (.int 23)) bO))) (gN 2))
   (bj (cY (m2 cj (mC (.int 1)) (m2 cA (m2 bB (mV 1) (mC (.int 0))) (mC (.int 8)))) (gN 3))
   (bj (cY (lV (cH 2) mPn (m1 asInt (m2 Fl (fM (jy (aK (m2 cj (mC (.int 1)) (m2 cA (m2 bB (mV 1) (mC (.int 1))) (mC (.int 10)))) (aK (mC (.int 10)) bO)))) (m2 cA (m2 vN (m2 bB (mV 1) (mC (.int 1))) (mC (.int 10))) (mC (.int 2)))))) (gN 4))
   (bj (fX 5 (jy bO))
   (bj (lR (m1 m9 (aK (mV 3) bO)) (gN 6)
    p6)
   jW))))))
noncomputable def gY:List PV->Option (Res PV)
 | [a0]=>fin (nY (startR [a0] 8))
 | _=>none
noncomputable def qL:Sn :=
 (lQ 3 (m2 bB (mV 2) (mC (.int 2))))
noncomputable def qM:Sn :=
 (fX 3 (m2 lU (cH 3) (fM (jy (aK (mV 4) (aK (mV 5) bO))))))
noncomputable def qN:Sn :=
 (lR (m1 pK (m2 bB (mV 2) (mC (.int 2)))) (gT 2 (gsCons (gN 4) (gsCons (gN 5) gsNil)))
      qM)
noncomputable def lG:Sn :=
 (lQ 1 (uJ (mC (.str " ")) (cH 3)))
noncomputable def qO:Sn :=
 (bj (fX 3 (jy (aK (m2 bB (mV 2) (mC (.int 0))) (aK (m2 bB (mV 2) (mC (.int 1))) bO))))
    (bj (du (m1 cF (m2 eU (m2 bB (mV 2) (mC (.int 0))) (mC (.str "cover"))))
     qL
     qN)
    lG))
noncomputable def lH:Sn :=
 (jJ 1)
noncomputable def j9:Sn :=
 (bj (fX 1 (jy (aK (m2 cj (mC (.str "paper ")) (m2 bB (mV 0) (mC (.int 0)))) bO)))
   (bj (lR (m1 pK (m2 bB (mV 0) (mC (.int 1)))) (gN 2)
    qO)
   lH))
noncomputable def kh:List PV->Option (Res PV)
 | [a0]=>qz (j9 (startR [a0] 5))
 | _=>none
noncomputable def tX:Sn :=
 (dU (m2 bB (mV 2) (m2 cA (m2 bB (mV 1) (mC (.int 5))) (m1 cZ (mVL 2)))))
noncomputable def tY:Sn :=
 (dU (m2 bB (mV 3) (m2 cA (m2 vN (m2 bB (mV 1) (mC (.int 6))) (mC (.int 2))) (mC (.int 13)))))
noncomputable def nZ:Sn :=
 (bj (cY (lA (m2 bB (mV 0) (m2 cA (m2 bB (mV 1) (mC (.int 4))) (m1 cZ (mVL 0)))) (mC (.str " "))) (gN 2))
   (bj (cY (jy (aK (mC (.str "")) (aK (mC (.str "paper")) (aK (mC (.str "cover")) (aK (mC (.str "glaze")) (aK (mC (.str "Abc")) (aK (mC (.str "abcdefghi")) (aK (mC (.str "abcdefgh")) (aK (mC (.str "a\tb")) (aK (mC (.str "a1")) (aK (mC (.str "aB")) (aK (mC (.str "1")) (aK (mC (.str "covers")) (aK (mC (.str "z-z")) bO)))))))))))))) (gN 3))
   (bj (du (m1 cF (m2 eU (m2 cA (m2 bB (mV 1) (mC (.int 6))) (mC (.int 2))) (mC (.int 0))))
    tX
    cC)
   tY)))
noncomputable def iR:List PV->Option (Res PV)
 | [a0,a1]=>fin (nZ (startR [a0,a1] 2))
 | _=>none
noncomputable def oU:Sn :=
 (lQ 4 (m2 cj (m2 cj (m2 cj (m2 cj (mC (.str "cover ")) (mC (.str "zz"))) (m2 bB (mV 3) (mV 5))) (mC (.str "zzz "))) (m2 bB (mV 3) (m2 cA (m2 bB (mV 2) (mC (.int 4))) (mC (.int 9))))))
noncomputable def oV:Sn :=
 (lR (m1 m9 (aK (m2 vM (m2 cj (mC (.int 9)) (m2 cA (m2 bB (mV 2) (mC (.int 3))) (mC (.int 2)))) (m1 cZ (mVL 0))) bO)) (gN 5)
     oU)
noncomputable def oW:Sn :=
 (cY (m2 lU (cH 6) (fM (jy (aK (m2 cj (m2 bB (mV 3) (mV 5)) (m2 bB (mV 3) (m2 cA (m2 bB (mV 2) (mC (.int 4))) (mC (.int 9))))) (aK (m2 bB (mV 3) (m2 cA (m2 bB (mV 2) (mC (.int 5))) (mC (.int 9)))) bO))))) (gN 6))
noncomputable def oX:Sn :=
 (Kg 4 (m2 cj (mC (.int 1)) (m2 cA (m2 bB (mV 2) (mC (.int 1))) (m1 cZ (mVL 0)))) (uJ (mC (.str " ")) (cH 6)))
noncomputable def oY:Sn :=
 (bj (cY (jy (aK (mC (.str "glaze")) (aK (mC (.str "zzqzzqz")) bO))) (gN 6))
    (bj (lR (m1 m9 (aK (m2 cj (mC (.int 8)) (m2 cA (m2 bB (mV 2) (mC (.int 3))) (mC (.int 2)))) bO)) (gN 5)
     oW)
    oX))
noncomputable def oZ:Sn :=
 (bj (cY (m2 bB (mV 3) (m2 cA (m2 cj (m2 bB (mV 2) (mC (.int 4))) (m2 cA (m2 bB (mV 2) (mC (.int 5))) (mC (.int 2)))) (mC (.int 9)))) (gN 7))
    (lQ 4 (m2 cj (m2 cj (m2 cj (m2 cj (mC (.str "glaze zzqzzqz ")) (m2 bB (mV 3) (m2 cA (m2 bB (mV 2) (mC (.int 4))) (mC (.int 9))))) (mC (.str " a b b "))) (mV 7)) (mC (.str " a")))))
noncomputable def jo:Sn :=
 (jJ 4)
noncomputable def jq:Sn :=
 (bj (du (m1 cF (m2 eU (mVL 1) (mC (.int 12))))
    oZ
    cC)
   jo)
noncomputable def jr:Sn :=
 (bj (du (m1 cF (m2 eU (mVL 1) (mC (.int 11))))
    oY
    cC)
   jq)
noncomputable def jd:Sn :=
 (bj (cY (mC (.str "qzjxvkwyp")) (gN 3))
   (bj (fX 4 (m1 Dg (cH 0)))
   (bj (du (m1 cF (m2 eU (mVL 1) (mC (.int 10))))
    oV
    cC)
   jr)))
noncomputable def gw:List PV->Option (Res PV)
 | [a0,a1,a2]=>qz (jd (startR [a0,a1,a2] 5))
 | _=>none
noncomputable def lY:Sn :=
 (CZ 6 (dh iR (aK (mV 0) (aK (mV 2) bO))) (mV 7))
noncomputable def lZ:Sn :=
 (fX 6 (m2 lU (fM (lV (cH 6) mPn (m1 asInt (mV 7)))) (fM (lV (cH 6) (m1 asInt (m2 cj (mV 7) (mC (.int 1)))) mPn))))
noncomputable def mj:Sn :=
 (bj (cY (m2 cA (m2 bB (mV 2) (mC (.int 3))) (m2 cj (m1 cZ (mVL 6)) (mC (.int 1)))) (gN 7))
    (fX 6 (m2 lU (fM (m2 lU (fM (lV (cH 6) mPn (m1 asInt (mV 7)))) (fM (jy (aK (dh iR (aK (mV 0) (aK (mV 2) bO))) bO))))) (fM (lV (cH 6) (m1 asInt (mV 7)) mPn)))))
noncomputable def mq:Sn :=
 (bj (CZ 8 (m2 bB (mV 0) (mV 5)) (mV 4))
    (CZ 8 (m2 bB (mV 0) (mV 4)) (mV 5)))
noncomputable def my:Sn :=
 (fX 8 (m2 lU (fM (lV (cH 8) mPn (m1 asInt (mV 4)))) (fM (lV (cH 8) (m1 asInt (m2 cj (mV 4) (mC (.int 1)))) mPn))))
noncomputable def mD:Sn :=
 (fX 8 (m2 lU (fM (m2 lU (fM (lV (cH 8) mPn (m1 asInt (mV 4)))) (fM (jy (aK (m2 bB (mV 0) (mV 5)) bO))))) (fM (lV (cH 8) (m1 asInt (mV 4)) mPn))))
noncomputable def mF:Sn :=
 (fX 8 (lV (cH 8) mPn (m1 asInt (m2 cj (mV 4) (mC (.int 1))))))
noncomputable def mG:Sn :=
 (fX 8 (lV (cH 8) mPn (m1 asInt (m2 cj (mC (.int 1)) (m2 cA (m2 bB (mV 2) (mC (.int 3))) (mC (.int 2)))))))
noncomputable def mH:Sn :=
 (lQ 8 (mC (.str "")))
noncomputable def kj:Sn :=
 (CZ 8 (m2 cj (m2 bB (mV 0) (mV 4)) (m2 Fl (fM (jy (aK (mC (.str " ")) (aK (mC (.str "\t")) (aK (mC (.str "  ")) (aK (mC (.str "\t ")) bO)))))) (m2 cA (m2 bB (mV 2) (mC (.int 5))) (mC (.int 4))))) (mV 4))
noncomputable def gZ:Sn :=
 (Mt 8 (Fg (dh gw (aK (mV 8) (aK (mV 3) (aK (mV 2) bO))))))
noncomputable def g8:Sn :=
 (bj (du (m1 cF (m2 eU (mVL 3) (mC (.int 14))))
    kj
    cC)
   gZ)
noncomputable def ie:Sn :=
 (bj (du (m1 cF (m2 eU (mVL 3) (mC (.int 9))))
    mH
    cC)
   g8)
noncomputable def ig:Sn :=
 (bj (du (m1 cF (m2 eU (mVL 3) (mC (.int 13))))
    mG
    cC)
   ie)
noncomputable def ik:Sn :=
 (bj (du (m1 cF (m2 eU (mVL 3) (mC (.int 8))))
    mF
    cC)
   ig)
noncomputable def ir:Sn :=
 (bj (du (m1 cF (m2 eU (mVL 3) (mC (.int 7))))
    mD
    cC)
   ik)
noncomputable def iu:Sn :=
 (bj (du (m1 cF (m2 eU (mVL 3) (mC (.int 6))))
    my
    cC)
   ir)
noncomputable def iw:Sn :=
 (bj (fX 8 (m2 lU (fM (m2 lU (fM (lV (cH 0) mPn (m1 asInt (mV 4)))) (fM (jy (aK (uJ (mC (.str " ")) (cH 6)) bO))))) (fM (lV (cH 0) (m1 asInt (m2 cj (mV 4) (mC (.int 1)))) mPn))))
   (bj (du (m1 cF (m2 eU (mVL 3) (mC (.int 5))))
    mq
    cC)
   iu))
noncomputable def iy:Sn :=
 (bj (du (m1 cF (m2 eU (mVL 3) (mC (.int 4))))
    mj
    cC)
   iw)
noncomputable def iz:Sn :=
 (bj (du (m1 cF (m2 eU (mVL 3) (mC (.int 3))))
    lZ
    cC)
   iy)
noncomputable def iB:Sn :=
 (bj (cY (dh cN (aK (m2 cj (mV 1) (mC (.int 17))) (aK (mC (.int 8)) bO))) (gN 2))
   (bj (cY (m2 cA (m2 bB (mV 2) (mC (.int 0))) (mC (.int 16))) (gN 3))
   (bj (cY (m2 cA (m2 bB (mV 2) (mC (.int 1))) (m1 cZ (mVL 0))) (gN 4))
   (bj (cY (m2 cA (m2 bB (mV 2) (mC (.int 2))) (m1 cZ (mVL 0))) (gN 5))
   (bj (fX 6 (lA (m2 bB (mV 0) (mV 4)) (mC (.str " "))))
   (bj (cY (m2 cA (m2 bB (mV 2) (mC (.int 3))) (m1 cZ (mVL 6))) (gN 7))
   (bj (du (m1 cF (m2 zc (mV 3) (mC (.int 3))))
    lY
    cC)
   iz)))))))
noncomputable def fV:List PV->Option (Res PV)
 | [a0,a1]=>qz (iB (startR [a0,a1] 7))
 | _=>none
noncomputable def mJ:Sn :=
 (dU (mC (.bl false)))
noncomputable def mK:Sn :=
 (du (m1 cF (m2 m7 (mVL 1) (mC (.str "abcdefghijklmnopqrstuvwxyz"))))
     mJ
     cC)
noncomputable def mL:Sn :=
 (dU (qZ vO vO (mC (.int 1)) (m1 cZ (mVL 0)) (mC (.int 8))))
noncomputable def iC:Sn :=
 (bj (lR (m1 pK (mV 0)) (gN 1)
    mK)
   mL)
noncomputable def eY:List PV->Option (Res PV)
 | [a0]=>fin (iC (startR [a0] 1))
 | _=>none
noncomputable def km:Sn :=
 (dU (mC .non))
noncomputable def kE:Sn :=
 (du (vK (m1 cF (dh eY (aK (mV 2) bO))))
     km
     cC)
noncomputable def iD:Sn :=
 (dU (mC .non))
noncomputable def kI:Sn :=
 (dU (lw (aK (mC (.str "cover")) (aK (m2 bB (mV 0) (mC (.int 1))) (aK (m2 bB (mV 0) (mC (.int 2))) bO)))))
noncomputable def kJ:Sn :=
 (dU (mC .non))
noncomputable def kO:Sn :=
 (lQ 3 (lw (aK (m2 bB (mV 0) (mV 4)) (aK (m2 bB (mV 0) (m2 cj (mV 4) (mC (.int 1)))) bO))))
noncomputable def kW:Sn :=
 (bj (du (m1 cF (m2 Av (m2 bB (mV 0) (mV 4)) (pL (cH 3) [none] (gN 0) sY (m2 bB (mV 0) (mC (.int 0))))))
     kJ
     cC)
    kO)
noncomputable def kY:Sn :=
 (dU (lw (aK (mC (.str "glaze")) (aK (m2 bB (mV 0) (mC (.int 1))) (aK (m1 Bb (cH 3)) bO)))))
noncomputable def iG:Sn :=
 (dU (mC .non))
noncomputable def jX:Sn :=
 (bj (du (vJ (m1 cF (m2 eU (m2 bB (mV 0) (mC (.int 0))) (mC (.str "glaze")))) (vJ (m1 cF (m2 eU (m2 cA (m1 cZ (mVL 0)) (mC (.int 2))) (mC (.int 0)))) (m1 cF (qZ vO vO (mC (.int 1)) (m1 cZ (mVL 3)) (mC (.int 8))))))
    kY
    cC)
   iG)
noncomputable def gG:Sn :=
 (bj (fX 3 (jy bO))
   (bj (lR (m1 zr (aK (mC (.int 2)) (aK (m2 vM (m1 cZ (mVL 0)) (mC (.int 1))) (aK (mC (.int 2)) bO)))) (gN 4)
    kW)
   jX))
noncomputable def gH:Sn :=
 (bj (du (vJ (m1 cF (m2 eU (m2 bB (mV 0) (mC (.int 0))) (mC (.str "cover")))) (m1 cF (m2 eU (m1 cZ (mVL 0)) (mC (.int 3)))))
    kI
    cC)
   gG)
noncomputable def jY:Sn :=
 (bj (du (mOr (m1 cF (m2 zc (m1 cZ (mVL 0)) (mC (.int 3)))) (m1 cF (m2 Av (m2 bB (mV 0) (mC (.int 1))) (mVL 1))))
    iD
    cC)
   gH)
noncomputable def gB:Sn :=
 (bj (lR (m1 pK (lV (cH 0) (m1 asInt (mC (.int 1))) mPn)) (gN 2)
    kE)
   jY)
noncomputable def gC:List PV->Option (Res PV)
 | [a0,a1]=>fin (gB (startR [a0,a1] 3))
 | _=>none
noncomputable def lJ:Sn :=
 (dU (lw (aK (mC .non) (aK (mC (.int 0)) bO))))
noncomputable def lK:Sn :=
 (dU (lw (aK (mC .non) (aK (mV 3) bO))))
noncomputable def qP:Sn :=
 (lQ 2 (mV 4))
noncomputable def lL:Sn :=
 (bj (cY (dh gC (aK (lA (m2 bB (mV 0) (mV 3)) (mC (.str " "))) (aK (pL (cH 2) [none] (gN 0) sY (m2 bB (mV 0) (mC (.int 1)))) bO))) (gN 4))
    (bj (du (mOr (m1 cF (m2 uH (mVL 4) (mC .non))) (m1 cF (m2 Mj (mV 3) (mC (.int 8)))))
     lK
     cC)
    qP))
noncomputable def qQ:Sn :=
 (dU (lw (aK (mC .non) (aK (mC (.int 1)) bO))))
noncomputable def qR:Sn :=
 (Mt 2 (dU (lw (aK (lw (aK (m2 bB (mV 1) (mC (.int 1))) (aK (mV 2) bO))) (aK (mC .non) bO)))))
noncomputable def qT:Sn :=
 (bj (du (m1 cF (m2 eU (mVL 2) (jy bO)))
    qQ
    cC)
   qR)
noncomputable def je:Sn :=
 (bj (fX 2 (jy bO))
   (bj (lR (m1 Df (aK (mC (.int 1)) (aK (m1 cZ (mVL 0)) bO))) (gN 3)
    lL)
   qT))
noncomputable def fW:Sn :=
 (bj (cY (lA (m2 bB (mV 0) (mC (.int 0))) (mC (.str " "))) (gN 1))
   (bj (du (mOr (m1 cF (m2 zf (m1 cZ (mVL 1)) (mC (.int 2)))) (mOr (m1 cF (m2 zf (m2 bB (mV 1) (mC (.int 0))) (mC (.str "paper")))) (vK (m1 cF (dh eY (aK (m2 bB (mV 1) (mC (.int 1))) bO))))))
    lJ
    cC)
   je))
noncomputable def kZ:List PV->Option (Res PV)
 | [a0]=>fin (fW (startR [a0] 4))
 | _=>none
noncomputable def wL:Sn :=
 (dU (mC (.bl true)))
noncomputable def p7:Sn :=
 (dU (Bx kt1 false (mVL 0)))
noncomputable def jD:Sn :=
 (bj (du (m1 cF (Bx kt0 false (mVL 0)))
    wL
    cC)
   p7)
noncomputable def jE:List PV->Option (Res PV)
 | [a0]=>fin (jD (startR [a0] 0))
 | _=>none
noncomputable def Gf:Sn :=
 (cY (mV 6) (gN 4))
noncomputable def Gg:Sn :=
 (dU (vI (m2 uH (mVL 4) (mC .non)) (vI (m2 Ba (mVL 5) (mC (.ty "tuple"))) (m2 eU (mVL 5) (mVL 2)))))
noncomputable def Nj:Sn :=
 (dU (mC (.bl false)))
noncomputable def Gh:Sn :=
 (dU (vI (m2 Ba (yq wH "row" (mV 4)) (mC (.ty "int"))) (vI (m1 Jt (m2 Ba (yq wH "row" (mV 4)) (mC (.ty "bool")))) (m2 eU (yq wH "row" (mV 4)) (mVL 3)))))
noncomputable def Gi:Sn :=
 (bj (du (mOr (vK (m1 cF (Bx rH false (mVL 4)))) (mOr (vK (m1 cF (Bx lC false (mVL 4)))) (m1 cF (dh jE (aK (mV 4) bO)))))
    Nj
    cC)
   Gh)
noncomputable def zK:Sn :=
 (bj (du (m1 cF (m2 zg (mVL 2) (mC .non)))
    Gg
    cC)
   Gi)
noncomputable def Gj:Sn :=
 (bj (cY (dh fV (aK (dh kh (aK (dh gY (aK (mV 0) bO)) bO)) (aK (dh gr (aK (dh dq (aK (mV 0) (aK (mC (.int 1)) bO))) (aK (mC (.int 1)) bO))) bO))) (gN 1))
   (bj (cY (dh kZ (aK (mV 1) bO)) (gT 2 (gsCons (gN 2) (gsCons (gN 3) gsNil))))
   (bj (cY (mC .non) (gN 4))
   (bj (cY (mC .non) (gN 5))
   (bj (DK (cY (dh dI (aK (uJ (mC (.str "\n")) (cH 1)) bO)) (gN 5))
    (M6 lB 6 Gf O5))
   zK)))))
noncomputable def yt:List PV->Option (Res PV)
 | [a0]=>fin (Gj (startR [a0] 6))
 | _=>none
local macro_rules | `(tactic| walk_at "rd")=>do
 let ids:=("onNx_nx onNx_rt onNx_ro onNx_rd onNx_bk onNx_ct tv_some to_nx to_rt to_ro to_rd to_bk to_ct tv_ite to_ite turn_nx turn_ct turn_bk turn_rt turn_ro turn_rd tv_bnd to_bnd to_seq tv_m2 tv_m1 tv_var tv_lend tv_c tv_view tv_viewN tv_asLst tv_nil tv_cons tv_tup tv_lst tv_call tv_callL tv_mAnd tv_mOr tv_mNot tv_and tv_chain tv_comp tv_compN tv_compC tv_yes to_next to_ret to_retO holdQ_nx holdQ_rt holdQ_ro to_setO to_asgN to_asg to_if to_for to_retOw to_app to_put to_frz tv_consO to_io tv_split tv_viewDN tv_opDLen tv_dictP tv_rng3 tv_divL dF_int dF_str dF_tup isD_dk isD_dt is_dk_int is_dk_str tv_opSplit finIO_nx tv_isX nn_non nn_int nn_str nn_bl nn_tup nn_lst nn_exc tv_fldX to_gone goneQ_nx goneQ_bk goneQ_ct goneQ_rt goneQ_ro tv_sub tv_gt tv_ge tv_div tv_mod tv_pow tv_add tv_addS tv_addT tv_mul tv_mulS tv_lt tv_ltS tv_le tv_leS tv_eqI tv_eqS tv_neI tv_neS tv_eq tv_ne tv_in tv_notin tv_isN tv_notN tv_ixL tv_ixT tv_ixV tv_ixS tv_lenS tv_lenL tv_lenT tv_is tv_asBl tv_not tv_list tv_opTup tv_cat tv_asSeqL tv_asSeqT tv_asSeqS tv_rng1 tv_rng2 tv_enum tv_pn tv_asInt tv_slL tv_slK tv_slS tv_opSlS tv_join tv_opJoin tv_all startR fin_nx fin_rt finO_ro finT_rd gN gT gsCons gsNil szP cellP List.map_cons List.map_nil List.replicate_succ List.replicate_zero List.cons_append List.nil_append List.append_nil List.getElem?_cons_zero List.getElem?_cons_succ List.set_cons_zero List.set_cons_succ List.length_cons List.length_nil Nat.zero_le true_and and_true Option.some.injEq Sl.sh.injEq Sl.ow.injEq Sl.dp.injEq Res.ok.injEq PV.int.injEq PV.str.injEq PV.bl.injEq PV.lst.injEq PV.tup.injEq exists_eq_left' exists_eq_left exists_eq and_assoc exists_and_left if_true if_false not_true_eq_false not_false_eq_true Bool.false_eq_true Bool.not_true Bool.not_false decide_eq_true_eq Bool.not_eq_true' decide_eq_false_iff_not reduceCtorEq is_non_int is_non_bool is_non_str is_non_list is_non_tuple is_non_dict is_bl_int is_bl_bool is_bl_str is_bl_list is_bl_tuple is_bl_dict is_int_int is_int_bool is_int_str is_int_list is_int_tuple is_int_dict is_str_int is_str_bool is_str_str is_str_list is_str_tuple is_str_dict is_tup_int is_tup_bool is_tup_str is_tup_list is_tup_tuple is_tup_dict is_lst_int is_lst_bool is_lst_str is_lst_list is_lst_tuple is_lst_dict Int.reduceAdd Int.reduceSub Int.reduceMul Int.reduceNeg Int.reduceToNat atI_0 atI_1 atI_2 atI_3 snocI snocS snocC eqF_int eqF_str eqF_bl frR shOnly".splitOn " ").toArray.map fun s=>Lean.mkIdent s.toName
 `(tactic| simp (maxSteps:=2000000) only [$[$ids:ident],*])
theorem qu (c m:Int) (m0:0≤m) (m1:m≤1000):∃ ns:List Int,cN [.int c,.int m]=some (.ok (.lst (ns.map .int)))∧(ns.length:Int)=m∧∀ n∈ns,0≤n∧n < 33554432:=by
 have e1:((m.toNat:Nat):Int)=m:=Za0 m0
 have b1:∀ n:Nat,n < m.toNat->n < sizeLine:=fun n h=>dg (by omega)
 have more:∀ {ns:List Int}{z:Int},(∀ n∈ns,0≤n∧n < 33554432)->0≤z->z < 33554432->∀ n∈ns++[z],0≤n∧n < 33554432:=fun {ns z} hb h1 h2 n hn=>by
  rcases Zae.mp hn with h | h
  ·exact hb n h
  ·have e:n=z:=by simpa using h
   rw [e];exact ⟨h1,h2⟩
 suffices h:∃ p,cN [.int c,.int m]=some (.ok p)∧∃ ns:List Int,p=.lst (ns.map .int)∧(ns.length:Int)=m∧∀ n∈ns,0≤n∧n < 33554432 by
  obtain ⟨p,e,ns,rfl,h⟩:=h
  exact ⟨ns,e,h⟩
 refine u9 ?_
 unfold lF
 walk_at "rd"
 refine ⟨by decide,by decide,by decide,dG (fun _=>?_) (fun _=>?_)⟩
 ·unfold oM
  walk_at "rd"
  refine ⟨by decide,by decide,by decide,by omega,by omega,?_⟩
  refine fD (fun i ρ=>∃ (ns:List Int) (n:Int) (v:Option Sl),ρ=[some (.sh (.int c)),some (.sh (.int m)),some (.ow (.lst (ns.map .int))),some (.sh (.int n)),v]∧ns.length=i∧∀ n∈ns,0≤n∧n < 33554432) ⟨[],_,none,rfl,rfl,fun _ h=>nomatch h⟩ ?_ ?_
  ·rintro i x ρ hx ⟨ns,n,v,rfl,hl,hb⟩
   have hi:i < m.toNat:=by simpa [qy] using cP hx
   unfold oJ
   walk_at "rd"
   refine ⟨by decide,by rw [List.length_map,hl];exact b1 i hi,by decide,by decide,ns++[n % 33554432],_,_,rfl,by rw [List.length_append,hl];rfl,more hb (Zaw _ (by decide)) (Zav _ (by decide))⟩
  ·rintro ρ ⟨ns,n,v,rfl,hl,hb⟩
   unfold oK
   walk_at "rd"
   exact ⟨ns,rfl,by rw [hl,dJ];exact e1,hb⟩
 ·unfold oR
  walk_at "rd"
  refine ⟨by decide,by omega,by omega,?_⟩
  refine fD (fun i ρ=>∃ (ns:List Int) (n:Int) (v:Option Sl),ρ=[some (.sh (.int c)),some (.sh (.int m)),some (.ow (.lst (ns.map .int))),some (.sh (.int n)),v]∧ns.length=i∧(∀ n∈ns,0≤n∧n < 33554432)∧0≤n∧n < 4294967296)
   ⟨[],_,none,rfl,rfl,(fun _ h=>nomatch h),by omega,by omega⟩ ?_ ?_
  ·rintro i x ρ hx ⟨ns,n,v,rfl,hl,hb,n0,n1⟩
   have hi:i < m.toNat:=by simpa [qy] using cP hx
   have ex:x=.int (0+(i:Int)):=by
    unfold qy at hx
    rw [Zag,Zbw hi] at hx
    exact (Zab hx).symm
   subst ex
   unfold oN
   walk_at "rd"
   refine ⟨.inl ⟨by omega,by omega⟩,.inl ⟨by decide,by decide⟩,.inl ⟨by decide,by decide⟩,by decide,by decide,by decide,by rw [List.length_map,hl];exact b1 i hi,?_⟩
   generalize hz:(n * n+48271 * n+7 * (0+(i:Int))+1) % 2147483647=z
   have z0:0≤z:=by rw [←hz];exact Zaw _ (by decide)
   have z1:z < 2147483647:=by rw [←hz];exact Zav _ (by decide)
   exact ⟨ns++[z / 64],_,_,rfl,by rw [List.length_append,hl];rfl,more hb (by omega) (by omega),by omega,by omega⟩
  ·rintro ρ ⟨ns,n,v,rfl,hl,hb,_⟩
   unfold oO
   walk_at "rd"
   exact ⟨ns,rfl,by rw [hl,dJ];exact e1,hb⟩
theorem rO (ns:List Int) (i:Int) (i0:0≤i):∃ n:Int,dq [.lst (ns.map .int),.int i]=some (.ok (.int n)):=by
 suffices h:∃ p,dq [.lst (ns.map .int),.int i]=some (.ok p)∧∃ n,p=.int n by
  obtain ⟨p,e,n,rfl⟩:=h
  exact ⟨n,e⟩
 refine uv ?_
 unfold jT
 walk_at "rd"
 refine dG (fun h=>?_) (fun h=>?_)
 ·unfold lW
  walk_at "rd"
  exact ⟨_,gK i0 (by rw [List.length_map] at h;exact h),_,rfl⟩
 ·unfold lX
  walk_at "rd"
  exact ⟨_,rfl⟩
structure Sz (w h:Int):Prop where
 w0:1≤w
 w1:w≤24
 h0:1≤h
 h1:h≤24
theorem Sz.at {w h c r:Int} (_:Sz w h) (c0:0≤c) (c1:c < w) (r0:0≤r) (r1:r < h):0≤r * w+c∧r * w+c < w * h:=by
 have e1:0≤r * w:=Int.mul_nonneg r0 (by omega)
 have e2:(r+1) * w≤h * w:=Int.mul_le_mul_of_nonneg_right (by omega) (by omega)
 rw [Int.add_mul,Int.one_mul] at e2
 rw [Int.mul_comm w h]
 omega
structure Cell (w h c r:Int):Prop where
 c0:0≤c
 c1:c < w
 r0:0≤r
 r1:r < h
theorem Cell.of {w h:Int}{c:Int×Int} (z:Mth.InR w.toNat h.toNat c):Cell w h c.1 c.2:=⟨z.c0,by have:=z.c1;have:=z.c0;omega,z.r0,by have:=z.r1;have:=z.r0;omega⟩
theorem Cell.pl {w h c r:Int} (z:Cell w h c r):(r * w+c).toNat=Mth.pl w.toNat (c,r)∧0≤r * w+c:=by
 obtain ⟨c0,c1,r0,r1⟩:=z
 obtain ⟨a,rfl⟩:=Zbz c0
 obtain ⟨b,rfl⟩:=Zbz r0
 obtain ⟨v,rfl⟩:=Zbz (show 0≤w by omega)
 unfold Mth.pl
 simp only [Int.toNat_natCast]
 have e:(b:Int) * (v:Int)+(a:Int)=((b * v+a:Nat):Int):=by simp
 rw [e,Int.toNat_natCast]
 exact ⟨rfl,Int.natCast_nonneg _⟩
theorem tZ {lo:Int}{n i:Nat}{x:PV} (h:(qy lo n)[i]?=some x):i < n∧x=.int (lo+(i:Int)):=by
 have hi:i < n:=by simpa [qy] using cP h
 unfold qy at h
 rw [Zag,Zbw hi] at h
 exact ⟨hi,(Zab h).symm⟩
noncomputable def isL (c:Nat):Bool:=decide (97≤c∧c≤122)
noncomputable def cu (z:Str):Bool:=decide (1≤z.length∧z.length≤8) && z.cps.toList.all isL
theorem letters:(Str.ofString "abcdefghijklmnopqrstuvwxyz").cps.toList=List.range' 97 26:=by decide +kernel
theorem wM (c:Nat):(!(Builtin.Str.occurrences (Str.ofString "abcdefghijklmnopqrstuvwxyz") ⟨#[c]⟩ 0 (Str.ofString "abcdefghijklmnopqrstuvwxyz").length 1).isEmpty)=isL c:=by
 rw [PySem.StrLaws.found_one,letters]
 unfold isL
 rw [decide_eq_decide,List.mem_range'_1]
 omega
theorem n6:∀ ys:List Bool,jA (ys.map PV.bl)=some ys
 | []=>rfl
 | y::ys=>by rw [Zah,jA,n6 ys];rfl
theorem Gk (z:Str) (hz:z.length≤sizeLine):jF [.str z]=some (.ok (.bl (cu z))):=by
 refine iM (x:=qt (startR [.str z] 0)) ?_
 have no:¬(1≤z.length∧z.length≤8)->cu z=false:=fun h=>by unfold cu;rw [decide_eq_false h];rfl
 have bad:∀ {K:Rho->Prop}{QS:Out->Prop},QS (.rt (.bl false))->To (pN [some (.sh (.str z))]) (qD K QS):=fun {K QS} q=>by
  unfold pN
  walk_at "rd"
  exact q
 unfold qt
 walk_at "rd"
 refine ⟨hz,dG (fun h1=>dG (fun h2=>bad ?_) (fun h2=>?_)) (fun h1=>bad ?_)⟩
 ·rw [no (by omega)];rfl
 ·unfold uM
  walk_at "rd"
  refine ⟨by unfold MP.signs;rw [List.length_map,Array.length_toList];exact hz,?_⟩
  rw [KJ (fun x=>match x with | .str y=>.bl (!(Builtin.Str.occurrences (Str.ofString "abcdefghijklmnopqrstuvwxyz") y 0 (Str.ofString "abcdefghijklmnopqrstuvwxyz").length 1).isEmpty) | _=>.non)]
  ·have e:(MP.signs z).map (fun x=>match x with | .str y=>PV.bl (!(Builtin.Str.occurrences (Str.ofString "abcdefghijklmnopqrstuvwxyz") y 0 (Str.ofString "abcdefghijklmnopqrstuvwxyz").length 1).isEmpty) | _=>.non)=(z.cps.toList.map isL).map PV.bl:=by
    unfold MP.signs
    rw [ZaU,ZaU]
    refine List.map_congr_left fun c _=>?_
    show PV.bl (!(Builtin.Str.occurrences _ ⟨#[c]⟩ 0 _ 1).isEmpty)=PV.bl (isL c)
    rw [wM]
   walk_at "rd"
   rw [e,n6]
   refine ⟨_,rfl,?_⟩
   unfold cu
   rw [decide_eq_true (show 1≤z.length∧z.length≤8 by omega),Bool.true_and,List.all_map]
   rfl
  ·intro x hx
   obtain ⟨c,hc,rfl⟩:=ZaP.mp hx
   walk_at "rd"
   exact ⟨_,rfl,rfl⟩
 ·rw [no (by omega)];rfl
theorem zL {n:Int} (h0:0≤n) (h:n < 26):atI (Str.ofString "abcdefghijklmnopqrstuvwxyz").cps.toList n=some (97+n.toNat):=by
 refine Ga h0 ?_
 rw [letters,List.getElem?_range' (by omega)]
 simp
theorem Nk:(Str.ofString "abcdefghijklmnopqrstuvwxyz").length=26:=by decide +kernel
theorem zM {n:Int} (h0:0≤n) (h:n < 26):isL (97+n.toNat)=true:=by
 unfold isL
 rw [decide_eq_true_eq]
 omega
theorem Q5 (n:Nat) (u:Option Int):Builtin.Str.strSliceIndices none u 1 n=Builtin.Str.strSliceIndices (some 0) u 1 n:=by
 have e:max (0:Int) (min 0 (n:Int))=0:=by omega
 simp [Builtin.Str.strSliceIndices,e]
theorem KQ (n:Nat) (l:Option Int):Builtin.Str.strSliceIndices l none 1 n=Builtin.Str.strSliceIndices l (some (n:Int)) 1 n:=by
 have e:max (0:Int) (min (n:Int) (n:Int))=n:=by omega
 have e2:¬((n:Int) < 0):=by omega
 simp [Builtin.Str.strSliceIndices,e,e2]
theorem BK (x:Str) {a b:Nat} (hab:a≤b) (hb:b≤x.length):Txt.slice x (some (a:Int)) (some (b:Int))=ofL ((x.cps.toList.drop a).take (b - a)):=by
 unfold Txt.slice
 rw [PySem.StrLaws.sliced_plain x hab hb]
 split
 ·rename_i h
  rw [PySem.StrLaws.strSliceIndices_plain hab hb] at h
  have hl:b - a=x.length:=by simpa using h
  have ea:a=0:=by omega
  subst ea
  rw [Za3,Nat.sub_zero,ZaO (by rw [Array.length_toList];show x.length≤b;omega)]
  rfl
 ·rfl
theorem BL (x:Str) {b:Nat} (hb:b≤x.length):Txt.slice x none (some (b:Int))=ofL (x.cps.toList.take b):=by
 have:=BK x (a:=0) (Za9 b) hb
 rw [Za3,Nat.sub_zero] at this
 rw [←this]
 unfold Txt.slice
 rw [Q5]
 rfl
theorem DR (x:Str) {a:Nat} (ha:a≤x.length):Txt.slice x (some (a:Int)) none=ofL (x.cps.toList.drop a):=by
 have:=BK x ha (Zaf x.length)
 rw [ZaO (by rw [ZaB,Array.length_toList];exact Zaf _)] at this
 rw [←this]
 unfold Txt.slice
 rw [KQ]
theorem vd (a b:List Nat):ofL a++ofL b=ofL (a++b):=by
 apply Str.ext'
 apply ZbA.mp
 show ((ofL a).cps++(ofL b).cps).toList=_
 rw [Zbx]
 rfl
theorem Nm {a b:List Nat} (h:ofL a=ofL b):a=b:=by
 have:=congrArg (fun (s:Str)=>s.cps.toList) h
 exact this
theorem Np (c:Nat):(⟨#[c]⟩:Str)=ofL [c]:=rfl
theorem join_ones (cs:List Nat):Txt.join (Str.ofString "") (cs.map fun c=>(⟨#[c]⟩:Str))=ofL cs:=by
 have go:∀ (cs:List Nat) (acc:Array Nat),((cs.map fun c=>(⟨#[c]⟩:Str)).foldl (fun acc p=>acc++(Str.ofString "").cps++p.cps) acc).toList=acc.toList++cs:=by
  intro cs
  induction cs with
  | nil=>intro acc;simp
  | cons c cs ih =>
   intro acc
   rw [Zah,ZbH,ih,Zbx,Zbx]
   show acc.toList++[]++[c]++cs=_
   simp
 apply Str.ext'
 apply ZbA.mp
 cases cs with
 | nil=>rfl
 | cons c cs=>exact go cs #[c]
theorem iT:∀ ys:List Str,nq (ys.map PV.str)=some ys
 | []=>rfl
 | y::ys=>by rw [Zah,nq,iT ys];rfl
theorem KR (cs:List Nat):((cs.map fun c=>(⟨#[c]⟩:Str)).map (·.length)).sum=cs.length:=by
 induction cs with
 | nil=>rfl
 | cons c cs ih=>rw [Zah,Zah,Zbg,ih,Zak];show 1+_=_;omega
theorem Gm:∀ a:Fin 23,∀ d:Fin 23,a.val≠0->d.val≠0->a.val * d.val % 23≠0:=by decide +kernel
theorem uX {s:Int}{a:Int} (a0:1≤a) (a1:a≤22) {i j:Nat} (hi:i < 23) (hj:j < 23) (h:(s+a * i) % 23=(s+a * j) % 23):i=j:=by
 rcases Nat.lt_trichotomy i j with h1 | h1 | h1
 ·exfalso
  have:=Gm ⟨a.toNat,by omega⟩ ⟨j - i,by omega⟩ (by show a.toNat≠0;omega) (by show j - i≠0;omega)
  apply this
  show a.toNat * (j - i) % 23=0
  have e:a * ((j:Int) - i) % 23=0:=by
   have:a * ((j:Int) - i)=(s+a * j) - (s+a * i):=by rw [Int.mul_sub];omega
   rw [this]
   omega
  have e2:a * ((j:Int) - i)=((a.toNat * (j - i):Nat):Int):=by
   rw [Int.natCast_mul,Za0 (by omega),Int.natCast_sub (by omega)]
  rw [e2] at e
  omega
 ·exact h1
 ·exfalso
  have:=Gm ⟨a.toNat,by omega⟩ ⟨i - j,by omega⟩ (by show a.toNat≠0;omega) (by show i - j≠0;omega)
  apply this
  show a.toNat * (i - j) % 23=0
  have e:a * ((i:Int) - j) % 23=0:=by
   have:a * ((i:Int) - j)=(s+a * i) - (s+a * j):=by rw [Int.mul_sub];omega
   rw [this]
   omega
  have e2:a * ((i:Int) - j)=((a.toNat * (i - j):Nat):Int):=by
   rw [Int.natCast_mul,Za0 (by omega),Int.natCast_sub (by omega)]
  rw [e2] at e
  omega
noncomputable def o8 (n:Int):Nat:=97+n.toNat
noncomputable def jw (base:List Nat) (at_:Nat) (way:Int) (k:Nat) (n:Int):List Nat :=
 if way=0 then base.take at_++[o8 (n * 5 % 26),o8 n]++base.drop at_
 else if way=1 then [o8 (n * 5 % 26),o8 n]++base.take (k % (base.length+1))
 else [o8 n]++base
theorem HQ {base:List Nat}{at_:Nat} (ha:at_≤base.length) {way:Int}{k j:Nat}{n m:Int} (n0:0≤n) (m0:0≤m) (h:jw base at_ way k n=jw base at_ way j m):n=m:=by
 have inj:o8 n=o8 m->n=m:=fun h=>by unfold o8 at h;omega
 unfold jw at h
 split at h
 ·have h1:=(List.append_inj_left h (by simp))
  have h2:=(List.append_inj_right h1 (by simp))
  simp only [ZbI] at h2
  exact inj h2.2.1
 ·split at h
  ·have h1:=(List.append_inj_left h (by simp))
   simp only [ZbI] at h1
   exact inj h1.2.1
  ·have h1:=(List.append_inj_left h (by simp))
   simp only [ZbI] at h1
   exact inj h1.1
theorem KY {base:List Nat}{at_:Nat} (hb:base.length≤6) (hl:∀ c∈base,isL c=true) {way:Int}{k:Nat}{n:Int} (n0:0≤n) (n1:n < 23):cu (ofL (jw base at_ way k n))=true:=by
 have l1:isL (o8 n)=true:=zM n0 (by omega)
 have l2:isL (o8 (n * 5 % 26))=true:=zM (Zaw _ (by decide)) (Zav _ (by decide))
 have key:(1≤(jw base at_ way k n).length∧(jw base at_ way k n).length≤8)∧∀ c∈jw base at_ way k n,isL c=true:=by
  unfold jw
  split
  ·refine ⟨by simp;omega,fun c hc=>?_⟩
   simp only [Zae,Zao,ZaZ,or_false] at hc
   rcases hc with (h | rfl | rfl) | h
   ·exact hl c (Zaz h)
   ·exact l2
   ·exact l1
   ·exact hl c (ZaJ h)
  ·split
   ·refine ⟨by simp;omega,fun c hc=>?_⟩
    simp only [Zae,Zao,ZaZ,or_false] at hc
    rcases hc with (rfl | rfl) | h
    ·exact l2
    ·exact l1
    ·exact hl c (Zaz h)
   ·refine ⟨by simp;omega,fun c hc=>?_⟩
    simp only [Zae,Zao,ZaZ,or_false] at hc
    rcases hc with rfl | h
    ·exact l1
    ·exact hl c h
 unfold cu
 rw [gA,decide_eq_true key.1,Bool.true_and,ZaX]
 exact key.2
theorem HR (c:Int):∃ ws:List Str,gW [.int c,.int 23]=some (.ok (.lst (ws.map .str)))∧ws.length=23∧(∀ w∈ws,cu w=true)∧ws.Nodup:=by
 suffices h:∃ p,gW [.int c,.int 23]=some (.ok p)∧∃ ws:List Str,p=.lst (ws.map .str)∧ws.length=23∧(∀ w∈ws,cu w=true)∧ws.Nodup by
  obtain ⟨p,e,ws,rfl,h⟩:=h
  exact ⟨ws,e,h⟩
 refine u9 ?_
 obtain ⟨ns,e,nl,nb⟩:=qu c 12 (by decide) (by decide)
 have at1:∀ i:Int,0≤i->i < 12->atI (ns.map PV.int) i=some (.int (ns.getD i.toNat 0)):=fun i h0 h1=>gK h0 (by omega)
 have big:∀ {n:Nat},n≤1000->n≤sizeLine:=fun h=>Nat.le_of_lt (dg h)
 have ll:(Str.ofString "abcdefghijklmnopqrstuvwxyz").length≤sizeLine:=by rw [Nk];decide
 unfold nR
 walk_at "rd"
 rw [e]
 walk_at "rd"
 simp only [at1 6 (by decide) (by decide)]
 walk_at "rd"
 have s6:ns.getD 6 0 % 7=(((ns.getD 6 0 % 7).toNat:Nat):Int):=(Za0 (Zaw _ (by decide))).symm
 have s6':(ns.getD 6 0 % 7).toNat≤6:=by have:=Zav (ns.getD 6 0) (b:=7) (by decide);omega
 have em:o7 (ns.map PV.int) none (some (ns.getD 6 0 % 7))=(ns.take (ns.getD 6 0 % 7).toNat).map PV.int:=by
  rw [s6]
  unfold o7
  rw [HT.pB,HT.sr,Za3,Nat.sub_zero,List.map_take,Int.toNat_natCast,List.length_map,Zbk (by omega)]
 rw [em]
 generalize hms:ns.take (ns.getD 6 0 % 7).toNat=ms
 have hm:ms.length≤6:=by rw [←hms,Zat];omega
 refine ⟨by decide,by rw [List.length_map];exact big (by omega),?_⟩
 rw [KJ (fun x=>match x with | .int n=>.str ⟨#[o8 (n % 26)]⟩ | _=>.non)]
 ·have e2:(ms.map PV.int).map (fun x=>match x with | .int n=>PV.str ⟨#[o8 (n % 26)]⟩ | _=>.non)=((ms.map fun n=>o8 (n % 26)).map fun c=>(⟨#[c]⟩:Str)).map PV.str:=by
   rw [ZaU,ZaU,ZaU];rfl
  walk_at "rd"
  rw [e2,iT]
  refine ⟨_,rfl,?_,?_⟩
  ·rw [KR,show (Str.ofString "").length=0 from rfl,List.length_map]
   omega
  ·rw [join_ones]
   have hbl:(ms.map fun n=>o8 (n % 26)).length≤6:=by rw [List.length_map];exact hm
   have hba:∀ c∈ms.map fun n=>o8 (n % 26),isL c=true:=fun c hc=>by
    obtain ⟨n,_,rfl⟩:=ZaP.mp hc
    exact zM (Zaw _ (by decide)) (Zav _ (by decide))
   generalize ms.map (fun n=>o8 (n % 26))=base at hbl hba ⊢
   simp only [at1 7 (by decide) (by decide)]
   walk_at "rd"
   rw [gA]
   refine ⟨big (by omega),by omega,?_⟩
   have a0:0≤ns.getD 7 0 % (base.length+1:Int):=Zaw _ (by omega)
   have a1:ns.getD 7 0 % (base.length+1:Int) < base.length+1:=Zav _ (by omega)
   obtain ⟨at_,ha⟩:=Zbz a0
   rw [ha] at a1 ⊢
   have ha':at_≤base.length:=by omega
   have g0:1≤1+ns.getD 9 0 % 22:=by have:=Zaw (ns.getD 9 0) (b:=22) (by decide);omega
   have g1:1+ns.getD 9 0 % 22≤22:=by have:=Zav (ns.getD 9 0) (b:=22) (by decide);omega
   generalize hs8:ns.getD 8 0=s8
   generalize hgg:1+ns.getD 9 0 % 22=g at g0 g1
   generalize hwy:ns.getD 10 0 % 3=way
   refine ⟨by decide,by decide,?_⟩
   refine fD (fun i ρ=>∃ v7 v8 v9,ρ=[some (.sh (.int c)),some (.sh (.int 23)),some (.sh (.str (Str.ofString "abcdefghijklmnopqrstuvwxyz"))),some (.sh (.lst (ns.map .int))),some (.sh (.str (ofL base))),some (.sh (.int at_)),some (.ow (.lst (((List.range i).map fun k=>ofL (jw base at_ way k ((s8+g * k) % 23))).map .str))),v7,v8,v9]) ⟨none,none,none,rfl⟩ ?_ ?_
   ·rintro i x ρ hx ⟨v7,v8,v9,rfl⟩
    obtain ⟨hi,rfl⟩:=tZ hx
    have hi:i < 23:=hi
    have n0:0≤(s8+g * i) % 23:=Zaw _ (by decide)
    have n1:(s8+g * i) % 23 < 23:=Zav _ (by decide)
    have m0:0≤(s8+g * i) % 23 * 5 % 26:=Zaw _ (by decide)
    have m1:(s8+g * i) % 23 * 5 % 26 < 26:=Zav _ (by decide)
    unfold pW
    walk_at "rd"
    simp only [at1 8 (by decide) (by decide),at1 9 (by decide) (by decide),at1 10 (by decide) (by decide)]
    walk_at "rd"
    simp only [Int.reduceToNat,hs8,hgg,hwy,Int.zero_add]
    refine ⟨by decide,.inl ⟨by omega,by omega⟩,by decide,.inl ⟨by omega,by omega⟩,by decide,ll,_,zL m0 m1,?_⟩
    refine ⟨ll,_,zL n0 (by omega),big (show 1+1≤1000 by decide),by decide,?_⟩
    generalize hnn:(s8+g * i) % 23=n at n0 n1 m0 m1 ⊢
    have key:∀ y:Str,y=ofL (jw base at_ way i n)->((List.range i).map fun k=>ofL (jw base at_ way k ((s8+g * k) % 23)))++[y]=((List.range (i+1)).map fun k=>ofL (jw base at_ way k ((s8+g * k) % 23))):=fun y hy=>by
     rw [List.range_succ,Zan,hy,←hnn]
     rfl
    have sz:(((List.range i).map fun k=>ofL (jw base at_ way k ((s8+g * k) % 23))).map PV.str).length < sizeLine:=by
     rw [List.length_map,List.length_map,List.length_range]
     exact dg (by omega)
    have two:(⟨#[97+(n * 5 % 26).toNat]⟩:Str)++(⟨#[97+n.toNat]⟩:Str)=ofL [o8 (n * 5 % 26),o8 n]:=rfl
    rw [two]
    have bl:(ofL base).length=base.length:=gA _
    have bt:(ofL base).cps.toList=base:=rfl
    refine dG (fun hw=>?_) fun hw=>?_
    ·unfold pP
     walk_at "rd"
     rw [BL (ofL base) (by rw [bl];exact ha'),DR (ofL base) (by rw [bl];exact ha'),bt,vd,vd]
     rw [key _ (by unfold jw;rw [if_pos hw])]
     refine ⟨by rw [bl];exact big (by omega),by rw [gA,gA];exact big (by simp;omega),by rw [bl];exact big (by omega),by rw [gA,gA];exact big (by simp;omega),sz,_,_,_,rfl⟩
    ·unfold pU
     walk_at "rd"
     simp only [at1 10 (by decide) (by decide)]
     walk_at "rd"
     simp only [Int.reduceToNat,hwy]
     refine ⟨by decide,dG (fun hw1=>?_) fun hw1=>?_⟩
     ·unfold pQ
      walk_at "rd"
      rw [bl,show (i:Int) % (base.length+1:Int)=((i % (base.length+1):Nat):Int) by rw [Int.natCast_emod];rfl]
      have hk:i % (base.length+1) < base.length+1:=Nat.mod_lt _ (by omega)
      rw [BL (ofL base) (by rw [bl];omega),bt,vd]
      rw [key _ (by unfold jw;rw [if_neg hw,if_pos hw1])]
      refine ⟨big (by omega),by omega,big (by omega),by rw [gA,gA];exact big (by simp;omega),sz,_,_,_,rfl⟩
     ·unfold pR
      walk_at "rd"
      refine ⟨ll,_,zL n0 (by omega),?_⟩
      rw [Np,vd]
      rw [key _ (by unfold jw;rw [if_neg hw,if_neg hw1];rfl)]
      refine ⟨by rw [gA,gA];exact big (by simp;omega),sz,_,_,_,rfl⟩
   ·rintro ρ ⟨v7,v8,v9,rfl⟩
    rw [dJ]
    unfold pX
    walk_at "rd"
    refine ⟨_,rfl,by rw [List.length_map,List.length_range],fun w hw=>?_,?_⟩
    ·obtain ⟨k,_,rfl⟩:=ZaP.mp hw
     exact KY hbl hba (Zaw _ (by decide)) (Zav _ (by decide))
    ·refine List.pairwise_map.mpr (List.Pairwise.imp_of_mem (fun {a b} ha hb hab h=>hab ?_) (List.nodup_range (n:=23)))
     exact uX g0 g1 (Zbh.mp ha) (Zbh.mp hb) (HQ ha' (Zaw _ (by decide)) (Zaw _ (by decide)) (Nm h))
 ·intro x hx
  obtain ⟨n,hn,rfl⟩:=ZaP.mp hx
  walk_at "rd"
  exact ⟨by decide,ll,_,zL (Zaw _ (by decide)) (Zav _ (by decide)),rfl⟩
noncomputable def prP (p:Str×Str):PV:=.tup [.str p.1,.str p.2]
inductive Ink where
 | cov (name colour:Str)
 | glz (name:Str) (ps:List (Str×Str))
noncomputable def Ink.name:Ink->Str
 | .cov n _=>n
 | .glz n _=>n
noncomputable def di:Ink->PV
 | .cov n c=>.tup [.str "cover",.str n,.str c]
 | .glz n ps=>.tup [.str "glaze",.str n,.tup (ps.map prP)]
theorem O8 (l:List (Str×Str)) (a b:Str):l.map prP++[PV.tup [.str a,.str b]]=(l++[(a,b)]).map prP:=by rw [Zan];rfl
theorem HS {a b:Nat}{body:Sn}{QS:Out->Prop} (I:Nat->Rho->Prop) {l:List (Str×Str)}{ρ:Rho} (h0:I 0 ρ)
  (hs:∀ (i:Nat) p ρ,l[i]?=some p->I i ρ->To (body ((ρ.set a (some (.sh (.str p.1)))).set b (some (.sh (.str p.2))))) (turn (I (i+1)) QS)) (hd:∀ ρ',I l.length ρ'->QS (.nx ρ')):To (loop (gT 2 (gsCons (gN a) (gsCons (gN b) gsNil))) body (l.map prP) ρ) QS:=by
 have:=KH (a:=a) (b:=b) (body:=body) (QS:=QS) I (l:=l.map fun p=>(PV.str p.1,PV.str p.2)) (ρ:=ρ) h0 (fun i x y ρ hx hI=>by
  rw [Zag] at hx
  cases hp:l[i]? with
  | none=>rw [hp] at hx;cases hx
  | some p=>rw [hp] at hx;cases hx;exact hs i p ρ hp hI) (by rw [List.length_map];exact hd)
 rw [ZaU] at this
 exact this
noncomputable def HW (cols:List Str) (ps:List (Str×Str)):Prop:=ps.length≤8∧(∀ p∈ps,p.1∈cols∧p.2∈cols)∧(ps.map (·.1)).Nodup
noncomputable def uN (cols:List Str):Ink->Prop
 | .cov _ c=>c∈cols
 | .glz _ ps=>ps≠[]∧HW cols ps
theorem wN {cs:List Str}{i:Int} (h0:0≤i) (h1:i < cs.length):∃ y,atI (cs.map PV.str) i=some (.str y)∧y∈cs∧cs[i.toNat]?=some y:=by
 obtain ⟨y,e1,e2⟩:=Am (xs:=cs) h0 h1
 exact ⟨y,by rw [FZ,e1];rfl,Zau e2,e2⟩
theorem Gn (a:Str) (l:List Str):inF (.str a) (l.map PV.str)=some (decide (a∈l)):=Ng (g:=PV.str) (fun a b=>eqF_str 31 a b) a l
theorem KZ (ps:List (Str×Str)) (cols:List Str) (h0:cols≠[]) (hc:cols.length≤23) (ns:List Int) (hn:ns.length=4) (hp:HW cols ps) :
  ∃ ps':List (Str×Str),jk [.lst (ps.map prP),.lst (cols.map .str),.lst (ns.map .int)]=some (.ok (.lst (ps'.map prP)))∧HW cols ps'∧ps'≠[]:=by
 suffices h:∃ p,jk [.lst (ps.map prP),.lst (cols.map .str),.lst (ns.map .int)]=some (.ok p)∧∃ ps':List (Str×Str),p=.lst (ps'.map prP)∧HW cols ps'∧ps'≠[] by
  obtain ⟨p,e,z,rfl,h⟩:=h
  exact ⟨z,e,h⟩
 have hl:0 < cols.length:=by cases cols with | nil=>exact absurd rfl h0 | cons=>simp
 have at1:∀ i:Int,0≤i->i < 4->atI (ns.map PV.int) i=some (.int (ns.getD i.toNat 0)):=fun i h0 h1=>gK h0 (by omega)
 have big:∀ {n:Nat},n≤1000->n≤sizeLine:=fun h=>Nat.le_of_lt (dg h)
 refine KD ?_
 rw [show jB 0 [PV.lst (ps.map prP),.lst (cols.map .str),.lst (ns.map .int)] 1=[some (.ow (.lst (ps.map prP))),some (.sh (.lst (cols.map .str))),some (.sh (.lst (ns.map .int))),none] from rfl]
 unfold pY
 walk_at "rd"
 simp only [at1 1 (by decide) (by decide),List.length_map]
 walk_at "rd"
 obtain ⟨u,eu,hu,_⟩:=wN (cs:=cols) (i:=ns.getD 1 0 % (cols.length:Int)) (Zaw _ (by omega)) (Zav _ (by omega))
 obtain ⟨o,eo,ho,_⟩:=wN (cs:=cols) (i:=ns.getD 2 0 % (cols.length:Int)) (Zaw _ (by omega)) (Zav _ (by omega))
 refine ⟨by omega,_,eu,dG (fun h8=>?_) fun h8=>?_⟩
 ·refine ⟨big (by have:=hp.1;omega),?_⟩
  rw [KJ (fun x=>match x with | .tup (a::_)=>a | _=>.non)]
  ·have e:(ps.map prP).map (fun x=>match x with | .tup (a::_)=>a | _=>.non)=(ps.map (·.1)).map PV.str:=by
    rw [ZaU,ZaU];rfl
   walk_at "rd"
   rw [e]
   refine ⟨_,Gn u _,?_⟩
   walk_at "rd"
   refine dG (fun hn=>?_) fun hn=>?_
   ·unfold qK
    walk_at "rd"
    simp only [at1 2 (by decide) (by decide),List.length_map]
    walk_at "rd"
    refine ⟨by omega,_,eo,by decide,dg (by omega),?_⟩
    rw [O8]
    refine ⟨_,rfl,⟨by rw [List.length_append];show _+1≤8;omega,fun p hp'=>?_,?_⟩,by simp⟩
    ·rcases Zae.mp hp' with h | h
     ·exact hp.2.1 p h
     ·rw [ZaF.mp h];exact ⟨hu,ho⟩
    ·rw [Zan,List.nodup_append]
     refine ⟨hp.2.2,by simp,fun a ha b hb e=>?_⟩
     have:b=u:=by simpa using hb
     subst this
     subst e
     have hn:¬a∈ps.map (·.1):=by simpa using hn
     exact hn ha
   ·have hn:u∈ps.map (·.1):=by simpa using hn
    refine ⟨_,rfl,hp,fun e=>?_⟩
    rw [e] at hn
    simp at hn
  ·intro x hx
   obtain ⟨p,_,rfl⟩:=ZaP.mp hx
   unfold prP
   walk_at "rd"
 ·refine ⟨_,rfl,hp,fun e=>?_⟩
  rw [e] at h8
  simp at h8
theorem Nq (name:Str) (cells:List Int) (hc0:cells≠[]) (hcl:cells.length≤63) (cols:List Str) (h0:cols≠[]) (hc:cols.length≤23) :
  ∃ k:Ink,jU [.str name,.lst (cells.map .int),.lst (cols.map .str)]=some (.ok (di k))∧k.name=name∧uN cols k:=by
 suffices h:∃ p,jU [.str name,.lst (cells.map .int),.lst (cols.map .str)]=some (.ok p)∧∃ k:Ink,p=di k∧k.name=name∧uN cols k by
  obtain ⟨p,e,z,rfl,h⟩:=h
  exact ⟨z,e,h⟩
 have hl:0 < cols.length:=by cases cols with | nil=>exact absurd rfl h0 | cons=>simp
 have hcl0:0 < cells.length:=by cases cells with | nil=>exact absurd rfl hc0 | cons=>simp
 refine uv ?_
 unfold rN
 walk_at "rd"
 refine wB (fun i ρ=>∃ (ps:List (Str×Str)) (v4 v5 v6:Option Sl),ρ=[some (.sh (.str name)),some (.sh (.lst (cells.map .int))),some (.sh (.lst (cols.map .str))),some (.ow (.lst (ps.map prP))),v4,v5,v6]∧HW cols ps∧(0 < i->ps≠[]))
  ⟨[],none,none,none,rfl,⟨by simp,by simp,by simp⟩,fun h=>absurd h (by omega)⟩ ?_ ?_
 ·rintro i x ρ hx ⟨ps,v4,v5,v6,rfl,hp,hpi⟩
  obtain ⟨n,_,rfl⟩:=ZaP.mp (Zau hx)
  have hi:i < cells.length:=by simpa using cP hx
  obtain ⟨ns,e,nl,nb⟩:=qu (n+31 * i) 4 (by decide) (by decide)
  have at1:∀ i:Int,0≤i->i < 4->atI (ns.map PV.int) i=some (.int (ns.getD i.toNat 0)):=fun i h0 h1=>gK h0 (by omega)
  obtain ⟨ps',ep,hp',np⟩:=KZ ps cols h0 hc ns (by omega) hp
  unfold tW
  walk_at "rd"
  refine ⟨.inl ⟨by decide,by omega⟩,?_⟩
  rw [e]
  walk_at "rd"
  simp only [at1 0 (by decide) (by decide)]
  walk_at "rd"
  have go:To (nU [some (.sh (.str name)),some (.sh (.lst (cells.map .int))),some (.sh (.lst (cols.map .str))),some (.ow (.lst (ps.map prP))),some (.sh (.int i)),some (.sh (.int n)),some (.sh (.lst (ns.map .int)))]) (turn (fun ρ=>∃ (ps:List (Str×Str)) (v4 v5 v6:Option Sl),ρ=[some (.sh (.str name)),some (.sh (.lst (cells.map .int))),some (.sh (.lst (cols.map .str))),some (.ow (.lst (ps.map prP))),v4,v5,v6]∧HW cols ps∧(0 < i+1->ps≠[])) (qD (fun ρ'=>To (nW ρ') fun o=>∃ p,fin (some o)=some (.ok p)∧∃ k:Ink,p=di k∧k.name=name∧uN cols k) fun o=>∃ p,fin (some o)=some (.ok p)∧∃ k:Ink,p=di k∧k.name=name∧uN cols k)):=by
   unfold nU
   walk_at "rd"
   rw [ep]
   walk_at "rd"
   exact ⟨ps',_,_,_,rfl,hp',fun _=>np⟩
  refine dG (fun hi0=>⟨by decide,dG (fun h3=>?_) fun h3=>go⟩) fun hi0=>go
  unfold tV
  walk_at "rd"
  simp only [at1 1 (by decide) (by decide),List.length_map]
  walk_at "rd"
  obtain ⟨u,eu,hu,_⟩:=wN (cs:=cols) (i:=ns.getD 1 0 % (cols.length:Int)) (Zaw _ (by omega)) (Zav _ (by omega))
  exact ⟨by omega,_,eu,by decide,.cov name u,rfl,rfl,hu⟩
 ·rintro ρ ⟨ps,v4,v5,v6,rfl,hp,hpi⟩
  rw [List.length_map] at hpi
  unfold nW
  walk_at "rd"
  exact ⟨by decide,.glz name ps,rfl,rfl,hpi hcl0,hp⟩
structure jf (paper:Str) (inks:List Ink):Prop where
 l0:inks≠[]
 l8:inks.length≤8
 nd:(inks.map Ink.name).Nodup
 ex:∃ cols:List Str,paper∈cols∧(∀ w∈cols,cu w=true)∧∀ k∈inks,cu k.name=true∧uN cols k
noncomputable def fH (paper:Str) (inks:List Ink):PV:=.tup [.str paper,.lst (inks.map di)]
theorem HX {a b st:Int} (hs:1≤st) (h0:0≤a) (h1:b≤63):(sliceRange a b st).length≤63:=by
 unfold sliceRange
 rw [List.length_map,List.length_range,if_pos (by omega:st > 0)]
 split
 ·have:(b - a+st - 1) / st≤b - a:=by
   have hb:b - a+st - 1≤(b - a) * st:=by
    have:(b - a - 1) * 1≤(b - a - 1) * st:=Int.mul_le_mul_of_nonneg_left hs (by omega)
    have e:(b - a) * st=(b - a - 1) * st+st:=by rw [Int.sub_mul (b - a) 1 st];omega
    omega
   have:=Int.ediv_le_ediv (by omega:0 < st) hb
   rwa [Int.mul_ediv_cancel _ (by omega)] at this
  omega
 ·simp
theorem K1 (ns:List Int) (lo:Int) (h0:0≤lo) (m:Int) (hm:1≤m):∃ ms:List Int,Bc (ns.map PV.int) (some lo) (some 63) (some m)=ms.map PV.int∧ms.length≤63:=by
 unfold Bc
 generalize hb:sliceBounds (some lo) (some 63) (some m) (ns.map PV.int).length=bd
 have hl:(sliceRange bd.1 bd.2.1 bd.2.2).length≤63:=by
  rw [←hb]
  have hp:m > 0:=by omega
  have n1:¬(lo < 0):=by omega
  simp only [sliceBounds,Option.getD_some,hp,n1,if_true,if_false]
  exact HX hm (by omega) (by split <;> omega)
 have go:∀ js:List Nat,∃ ms:List Int,js.filterMap (fun i=>(ns.map PV.int)[i]?)=ms.map PV.int∧ms.length≤js.length:=by
  intro js
  induction js with
  | nil=>exact ⟨[],rfl,Zaf _⟩
  | cons j js ih =>
   obtain ⟨ms,e,hl⟩:=ih
   cases h:ns[j]? with
   | none=>exact ⟨ms,by rw [Zbc (by rw [Zag,h];rfl),e],by simp;omega⟩
   | some n=>exact ⟨n::ms,by rw [Zbd (by rw [Zag,h];rfl),e];rfl,by simp;omega⟩
 obtain ⟨ms,e,hml⟩:=go (sliceRange bd.1 bd.2.1 bd.2.2)
 exact ⟨ms,e,by omega⟩
theorem HY (l:List PV) (k:Nat) (hk:k≤l.length):o7 l none (some (k:Int))=l.take k:=by
 unfold o7
 rw [HT.pB,HT.sr,Zbk hk,Za3,Nat.sub_zero]
theorem Ia {α:Type}{l:List α} (h:l.Nodup) {x y:Nat}{v:α} (hx:l[x]?=some v) (hy:l[y]?=some v):x=y:=by
 have lx:=cP hx
 have ly:=cP hy
 rw [Zac lx] at hx
 rw [Zac ly] at hy
 have e:l[x]=l[y]:=by rw [Zab hx,Zab hy]
 have p:=Zbs.mp h
 rcases Nat.lt_trichotomy x y with q | q | q
 ·exact absurd e (p x y lx ly q)
 ·exact q
 ·exact absurd e.symm (p y x ly lx q)
theorem Ib (ns:List Int) (hn:ns.length≤63):∃ (paper:Str) (inks:List Ink),gY [.lst (ns.map .int)]=some (.ok (fH paper inks))∧jf paper inks:=by
 suffices h:∃ p,gY [.lst (ns.map .int)]=some (.ok p)∧∃ (paper:Str) (inks:List Ink),p=fH paper inks∧jf paper inks by
  obtain ⟨p,e,a,b,rfl,h⟩:=h
  exact ⟨a,b,e,h⟩
 have big:∀ {n:Nat},n≤1000->n≤sizeLine:=fun h=>Nat.le_of_lt (dg h)
 obtain ⟨c0,ec0⟩:=rO ns 0 (by decide)
 obtain ⟨c1,ec1⟩:=rO ns 1 (by decide)
 obtain ⟨fs,ef,fl,fb⟩:=qu c0 6 (by decide) (by decide)
 have at1:∀ i:Int,0≤i->i < 6->atI (fs.map PV.int) i=some (.int (fs.getD i.toNat 0)):=fun i h0 h1=>gK h0 (by omega)
 obtain ⟨ws,ew,wl,ww,wn⟩:=HR c1
 refine uv ?_
 unfold nY
 walk_at "rd"
 simp only [ec0,ec1]
 walk_at "rd"
 rw [ef]
 walk_at "rd"
 rw [ew]
 walk_at "rd"
 simp only [at1 0 (by decide) (by decide),at1 1 (by decide) (by decide)]
 walk_at "rd"
 obtain ⟨cn,ecn,cn1,cn10⟩:∃ cn:Nat,atI [PV.int (1+fs.getD 1 0 % 10),PV.int 10] (fs.getD 1 0 / 10 % 2)=some (.int cn)∧1≤cn∧cn≤10:=by
  have h0:0≤fs.getD 1 0 % 10:=Zaw _ (by decide)
  have h1:fs.getD 1 0 % 10 < 10:=Zav _ (by decide)
  rcases (show fs.getD 1 0 / 10 % 2=0∨fs.getD 1 0 / 10 % 2=1 by omega) with h | h
  ·rw [h,atI_0]
   exact ⟨(1+fs.getD 1 0 % 10).toNat,by rw [Za0 (by omega)],by omega,by omega⟩
  ·rw [h,atI_1]
   exact ⟨10,rfl,by decide,by decide⟩
 have m0:0≤fs.getD 0 0 % 8:=Zaw _ (by decide)
 have m1:fs.getD 0 0 % 8 < 8:=Zav _ (by decide)
 refine ⟨by decide,by decide,by decide,by decide,by decide,by decide,_,ecn,?_⟩
 walk_at "rd"
 rw [HY (ws.map PV.str) cn (by rw [List.length_map];omega),←List.map_take]
 have cl:(ws.take cn).length=cn:=by rw [Zat];omega
 have cw:∀ w∈ws.take cn,cu w=true:=fun w h=>ww w (Zaz h)
 have cne:ws.take cn≠[]:=fun e=>by rw [e] at cl;simp at cl;omega
 generalize ws.take cn=cols at cl cw cne ⊢
 have g0:1≤1+fs.getD 3 0 % 22:=by have:=Zaw (fs.getD 3 0) (b:=22) (by decide);omega
 have g1:1+fs.getD 3 0 % 22≤22:=by have:=Zav (fs.getD 3 0) (b:=22) (by decide);omega
 generalize hgg:1+fs.getD 3 0 % 22=g at g0 g1
 generalize hf2:fs.getD 2 0=f2
 generalize hmm:1+fs.getD 0 0 % 8=many
 have nmx:∀ k:Nat,∃ y,atI (ws.map PV.str) ((f2+g * (k:Int)) % 23)=some (.str y)∧y∈ws∧ws[((f2+g * (k:Int)) % 23).toNat]?=some y:=fun k =>
  wN (Zaw _ (by decide)) (by rw [wl];exact Zav _ (by decide))
 refine ⟨by omega,by omega,?_⟩
 refine fD (fun i ρ=>∃ (inks:List Ink) (v6 v7 v8:Option Sl),ρ=[some (.sh (.lst (ns.map .int))),some (.sh (.lst (fs.map .int))),some (.sh (.lst (ws.map .str))),some (.sh (.int many)),some (.sh (.lst (cols.map .str))),some (.ow (.lst (inks.map di))),v6,v7,v8]∧inks.length=i∧(∀ (j:Nat) k,inks[j]?=some k->ws[((f2+g * (j:Int)) % 23).toNat]?=some k.name)∧∀ k∈inks,uN cols k)
  ⟨[],none,none,none,rfl,rfl,fun j k h=>by simp at h,fun k h=>by simp at h⟩ ?_ ?_
 ·rintro i x ρ hx ⟨inks,v6,v7,v8,rfl,il,inm,iok⟩
  obtain ⟨hi,rfl⟩:=tZ hx
  obtain ⟨nm,enm,hnm,hnm2⟩:=nmx i
  rw [show (0:Int)+(i:Int)=i from Int.zero_add _]
  unfold p6
  walk_at "rd"
  simp only [at1 2 (by decide) (by decide),at1 3 (by decide) (by decide)]
  walk_at "rd"
  simp only [Int.reduceToNat,hgg,hf2]
  refine ⟨by decide,.inl ⟨by omega,by omega⟩,by decide,_,enm,?_⟩
  obtain ⟨ms,ems,hms⟩:=K1 ns (2+(i:Int)) (by omega) many (by omega)
  rw [ems]
  have ee:eqF 32 (.lst (ms.map PV.int)) (.lst [])=some (decide (ms=[])):=Nf (g:=PV.int) (n:=31) (fun a b=>eqF_int 31 a b) ms []
  refine ⟨by first | omega | (intro e;have:=Zab e;omega),_,ee,?_⟩
  walk_at "rd"
  have go:∀ cs:List Int,cs≠[]->cs.length≤63->To (jV [some (.sh (.lst (ns.map .int))),some (.sh (.lst (fs.map .int))),some (.sh (.lst (ws.map .str))),some (.sh (.int many)),some (.sh (.lst (cols.map .str))),some (.ow (.lst (inks.map di))),some (.sh (.int i)),some (.sh (.str nm)),some (.sh (.lst (cs.map .int)))]) (turn (fun ρ=>∃ (inks:List Ink) (v6 v7 v8:Option Sl),ρ=[some (.sh (.lst (ns.map .int))),some (.sh (.lst (fs.map .int))),some (.sh (.lst (ws.map .str))),some (.sh (.int many)),some (.sh (.lst (cols.map .str))),some (.ow (.lst (inks.map di))),v6,v7,v8]∧inks.length=i+1∧(∀ (j:Nat) k,inks[j]?=some k->ws[((f2+g * (j:Int)) % 23).toNat]?=some k.name)∧∀ k∈inks,uN cols k) (qD (fun ρ'=>To (jW ρ') fun o=>∃ p,fin (some o)=some (.ok p)∧∃ (paper:Str) (inks:List Ink),p=fH paper inks∧jf paper inks) fun o=>∃ p,fin (some o)=some (.ok p)∧∃ (paper:Str) (inks:List Ink),p=fH paper inks∧jf paper inks)):=fun cs h0 hl=>by
   obtain ⟨k,ek,kn,kok⟩:=Nq nm cs h0 hl cols cne (by omega)
   unfold jV
   walk_at "rd"
   rw [ek]
   walk_at "rd"
   refine ⟨by rw [List.length_map];exact dg (by omega),inks++[k],some (.sh (.int i)),some (.sh (.str nm)),some (.sh (.lst (cs.map .int))),?_,by simp [il],fun j k' h=>?_,fun k' h=>?_⟩
   ·rw [Zan];rfl
   ·rw [List.getElem?_append] at h
    split at h
    ·exact inm j k' h
    ·rename_i hj
     have hj2:j - inks.length=0:=by
      have:=cP h
      simp at this
      omega
     rw [hj2] at h
     cases h
     rw [show j=i by omega,kn]
     exact hnm2
   ·rcases Zae.mp h with h | h
    ·exact iok k' h
    ·rw [ZaF.mp h];exact kok
  refine dG (fun h=>?_) fun h=>go ms h hms
  unfold pZ
  walk_at "rd"
  simp only [at1 4 (by decide) (by decide)]
  walk_at "rd"
  exact ⟨by decide,go [_] (by simp) (by simp)⟩
 ·rintro ρ ⟨inks,v6,v7,v8,rfl,il,inm,iok⟩
  rw [dJ] at il
  unfold jW
  walk_at "rd"
  rw [QR rfl]
  walk_at "rd"
  simp only [at1 5 (by decide) (by decide),List.length_map]
  walk_at "rd"
  obtain ⟨u,eu,hu,_⟩:=wN (cs:=cols) (i:=fs.getD 5 0 % (cols.length:Int)) (Zaw _ (by omega)) (Zav _ (by omega))
  refine ⟨by omega,_,eu,by decide,u,inks,rfl,⟨fun e=>?_,by omega,?_,cols,hu,cw,fun k hk=>⟨?_,iok k hk⟩⟩⟩
  ·rw [e] at il
   simp at il
   omega
  ·refine Zbs.mpr fun a b ha hb hab e=>?_
   rw [List.length_map] at ha hb
   rw [List.getElem_map,List.getElem_map] at e
   have e1:=inm a _ (Zac ha)
   have e2:=inm b _ (Zac hb)
   rw [e] at e1
   have:=Ia wn e1 e2
   have n0:0≤(f2+g * (a:Int)) % 23:=Zaw _ (by decide)
   have n1:0≤(f2+g * (b:Int)) % 23:=Zaw _ (by decide)
   have:=uX g0 g1 (s:=f2) (i:=a) (j:=b) (by omega) (by omega) (by omega)
   omega
  ·obtain ⟨j,hj,ej⟩:=List.mem_iff_getElem.mp hk
   have:=inm j k (by rw [Zac hj,ej])
   exact ww _ (Zau this)
theorem wO {f:PV->PV->Option Bool}:∀ {l:List PV},(∀ x∈l,f x x=some true)->eqL f l l=some true
 | [],_=>rfl
 | x::xs,h=>by rw [eqL,h x List.mem_cons_self,wO fun y hy=>h y (List.mem_cons_of_mem _ hy)];rfl
theorem qb {n:Nat}{l:List PV} (h:∀ x∈l,eqF n x x=some true):eqF (n+1) (.tup l) (.tup l)=some true:=by
 exact wO h
theorem K3 {n:Nat}{l:List PV} (h:∀ x∈l,eqF n x x=some true):eqF (n+1) (.lst l) (.lst l)=some true:=by
 exact (if_pos rfl).trans (wO h)
theorem qd (n:Nat) (z:Str):eqF n (.str z) (.str z)=some true:=by rw [eqF_str,decide_eq_true rfl]
theorem zN {α:Type}{j:Nat}{el:Fn PV}{ρb:Rho} (g f:α->PV):∀ (l:List α),(∀ a∈l,Tv (el (ρb.set j (some (.sh (g a))))) fun p=>p=f a)->gJ (gN j) sY el ρb (l.map g)=some (.ok (l.map f))
 | [],_=>rfl
 | a::l,h=>by
  have e1:=FT (h a List.mem_cons_self)
  have ih:=zN g f l fun b hb=>h b (List.mem_cons_of_mem _ hb)
  rw [Zah,gJ]
  simp only [gN,sY,bnd,if_true,e1,ih,Zah]
theorem K4 (n:Nat) (k:Ink):eqF (n+3) (di k) (di k)=some true:=by
 cases k with
 | cov a b =>
  refine qb fun x hx=>?_
  simp only [Zao,ZaZ,or_false] at hx
  rcases hx with rfl | rfl | rfl <;> exact qd _ _
 | glz a ps =>
  refine qb fun x hx=>?_
  simp only [Zao,ZaZ,or_false] at hx
  rcases hx with rfl | rfl | rfl
  ·exact qd _ _
  ·exact qd _ _
  ·refine qb fun x hx=>?_
   obtain ⟨p,_,rfl⟩:=ZaP.mp hx
   refine qb fun x hx=>?_
   simp only [Zao,ZaZ,or_false] at hx
   rcases hx with rfl | rfl <;> exact qd _ _
theorem DW (n:Nat) (paper:Str) (inks:List Ink):eqF (n+5) (fH paper inks) (fH paper inks)=some true:=by
 refine qb fun x hx=>?_
 simp only [Zao,ZaZ,or_false] at hx
 rcases hx with rfl | rfl
 ·exact qd _ _
 ·refine K3 fun x hx=>?_
  obtain ⟨k,_,rfl⟩:=ZaP.mp hx
  exact K4 n k
theorem wQ {w:Str} (h:cu w=true):1≤w.length∧w.length≤8:=by
 unfold cu at h
 rw [Zbl,decide_eq_true_eq] at h
 exact h.1
noncomputable def eZ:Ink->List Str
 | .cov n c=>[Str.ofString "cover",n,c]
 | .glz n ps=>[Str.ofString "glaze",n]++(ps.map fun p=>[p.1,p.2]).flatten
noncomputable def rP (k:Ink):Str:=Txt.join ⟨#[32]⟩ (eZ k)
theorem ux (ps:List (Str×Str)):((ps.map fun p=>[p.1,p.2]).flatten).length=2 * ps.length:=by
 induction ps with
 | nil=>rfl
 | cons p ps ih=>rw [Zah,Zbt,List.length_append,ih];simp;omega
theorem BP {cols:List Str} (hw:∀ w∈cols,cu w=true) {k:Ink} (hn:cu k.name=true) (hk:uN cols k):(∀ w∈eZ k,cu w=true)∧(eZ k).length≤18:=by
 cases k with
 | cov n c =>
  refine ⟨fun w h=>?_,by simp [eZ]⟩
  simp only [eZ,Zao,ZaZ,or_false] at h
  rcases h with rfl | rfl | rfl
  ·decide +kernel
  ·exact hn
  ·exact hw _ hk
 | glz n ps =>
  refine ⟨fun w h=>?_,?_⟩
  ·rcases Zae.mp h with h | h
   ·simp only [Zao,ZaZ,or_false] at h
    rcases h with rfl | rfl
    ·decide +kernel
    ·exact hn
   ·obtain ⟨l,hl,h⟩:=List.mem_flatten.mp h
    obtain ⟨p,hp,rfl⟩:=ZaP.mp hl
    have:=hk.2.2.1 p hp
    simp only [Zao,ZaZ,or_false] at h
    rcases h with rfl | rfl
    ·exact hw _ this.1
    ·exact hw _ this.2
  ·show ([_,_]++_:List Str).length≤18
   rw [List.length_append,ux]
   have:=hk.2.1
   show 2+_≤_
   omega
theorem Tu {l:List Str} (h:∀ w∈l,cu w=true):(l.map (·.length)).sum≤8 * l.length:=by
 induction l with
 | nil=>simp
 | cons a l ih =>
  rw [Zah,Zbg,Zak]
  have:=(wQ (h a List.mem_cons_self)).2
  have:=ih fun w hw=>h w (List.mem_cons_of_mem _ hw)
  omega
theorem DX {ps:List (Str×Str)}{i:Nat}{p:Str×Str} (hp:ps[i]?=some p):((ps.take (i+1)).map fun p=>[p.1,p.2]).flatten=((ps.take i).map fun p=>[p.1,p.2]).flatten++[p.1,p.2]:=by
 rw [ZbB,hp,Zan,List.flatten_append];simp
theorem Nr {n:Str}{ps:List (Str×Str)} (hl:(eZ (.glz n ps)).length≤18) (i:Nat):(((ps.take i).map fun p=>[p.1,p.2]).flatten).length≤16:=by
 have:(eZ (.glz n ps)).length=2+2 * ps.length:=by
  show ([_,_]++_:List Str).length=_
  rw [List.length_append,ux];rfl
 rw [ux,Zat]
 omega
theorem spS:(Str.ofString " ")=⟨#[32]⟩:=rfl
theorem Nt:(Str.ofString "\n")=⟨#[10]⟩:=rfl
theorem K5 {k:Ink} (hw:∀ w∈eZ k,cu w=true) (hl:(eZ k).length≤18):(rP k).length≤200:=by
 have:=Tu hw
 have:=wC 32 (eZ k)
 unfold rP
 omega
theorem jf.words {paper:Str}{inks:List Ink} (h:jf paper inks):∀ k∈inks,(∀ w∈eZ k,cu w=true)∧(eZ k).length≤18:=by
 obtain ⟨cols,_,hw,hk⟩:=h.ex
 exact fun k hk'=>BP hw (hk k hk').1 (hk k hk').2
theorem jf.DY {paper:Str}{inks:List Ink} (h:jf paper inks):cu paper=true:=by
 obtain ⟨cols,hp,hw,_⟩:=h.ex
 exact hw _ hp
theorem Ie {paper:Str}{inks:List Ink} (h:jf paper inks):kh [fH paper inks]=some (.ok (.lst (((Str.ofString "paper "++paper)::inks.map rP).map PV.str))):=by
 have hw:=h.words
 have p8:=(wQ h.DY).2
 have l8:=h.l8
 have big:∀ {n:Nat},n≤1000->n≤sizeLine:=fun h=>Nat.le_of_lt (dg h)
 refine FQ (x:=j9 (startR [fH paper inks] 5)) ?_
 unfold j9
 rw [show startR [fH paper inks] 5=[some (.sh (.tup [.str paper,.lst (inks.map di)])),none,none,none,none,none] from rfl]
 walk_at "rd"
 refine ⟨big (by rw [show (Str.ofString "paper ").length=6 from by decide +kernel];omega),by decide,?_⟩
 refine fD (fun i ρ=>∃ v2 v3 v4 v5,ρ=[some (.sh (fH paper inks)),some (.ow (.lst (((Str.ofString "paper "++paper)::(inks.take i).map rP).map PV.str))),v2,v3,v4,v5]) ⟨none,none,none,none,rfl⟩ ?_ ?_
 ·rintro i x ρ hx ⟨v2,v3,v4,v5,rfl⟩
  rw [Zag] at hx
  cases hk:inks[i]? with
  | none=>rw [hk] at hx;cases hx
  | some k =>
   rw [hk] at hx
   cases hx
   have hi:=cP hk
   obtain ⟨hwk,hlk⟩:=hw k (Zau hk)
   have s8:=Tu hwk
   have tk:(inks.take (i+1)).map rP=(inks.take i).map rP++[rP k]:=by rw [ZbB,hk,Zan];rfl
   have fin4:∀ v4 v5,To (lG [some (.sh (fH paper inks)),some (.ow (.lst (((Str.ofString "paper "++paper)::(inks.take i).map rP).map PV.str))),some (.sh (di k)),some (.ow (.lst ((eZ k).map PV.str))),v4,v5]) (turn (fun ρ=>∃ v2 v3 v4 v5,ρ=[some (.sh (fH paper inks)),some (.ow (.lst (((Str.ofString "paper "++paper)::(inks.take (i+1)).map rP).map PV.str))),v2,v3,v4,v5]) (qD (fun ρ'=>To (lH ρ') fun o=>qz (some o)=some (.ok (.lst (((Str.ofString "paper "++paper)::inks.map rP).map PV.str)))) fun o=>qz (some o)=some (.ok (.lst (((Str.ofString "paper "++paper)::inks.map rP).map PV.str))))):=fun v4 v5=>by
    unfold lG
    walk_at "rd"
    rw [iT]
    rw [tk,spS]
    refine ⟨_,rfl,?_,?_,_,_,_,_,rfl⟩
    ·show _+_ * 1≤_
     omega
    ·simp only [List.length_map,Zak,Zat];exact dg (by omega)
   unfold qO
   cases k with
   | cov n c =>
    rw [show di (.cov n c)=.tup [.str "cover",.str n,.str c] from rfl]
    walk_at "rd"
    refine ⟨by decide,?_⟩
    unfold qL
    walk_at "rd"
    exact ⟨by decide,fin4 _ _⟩
   | glz n ps =>
    rw [show di (.glz n ps)=.tup [.str "glaze",.str n,.tup (ps.map prP)] from rfl]
    walk_at "rd"
    refine ⟨by decide,?_⟩
    rw [if_neg (by decide)]
    unfold qN
    walk_at "rd"
    refine HS (fun j ρ=>∃ v4 v5,ρ=[some (.sh (fH paper inks)),some (.ow (.lst (((Str.ofString "paper "++paper)::(inks.take i).map rP).map PV.str))),some (.sh (di (.glz n ps))),some (.ow (.lst ((([Str.ofString "glaze",n]:List Str)++((ps.take j).map fun p=>[p.1,p.2]).flatten).map PV.str))),v4,v5]) ⟨v4,v5,rfl⟩ ?_ ?_
    ·rintro j p ρ hp ⟨v4,v5,rfl⟩
     have lt:=Nr hlk j
     unfold qM
     walk_at "rd"
     rw [DX hp,Zan]
     exact ⟨by decide,by simp only [List.length_map,Zak,List.length_append,ZaR];exact big (by omega),_,_,rfl⟩
    ·rintro ρ ⟨v4,v5,rfl⟩
     rw [List.take_length]
     exact fin4 _ _
 ·rintro ρ ⟨v2,v3,v4,v5,rfl⟩
  rw [List.length_map,List.take_length]
  unfold lH
  walk_at "rd"
theorem yu {c x:Nat}:∀ {rs:List (List Nat)},x∈pM c rs->x=c∨∃ r∈rs,x∈r
 | [],h=>by cases h
 | r::rs,h=>by
  rw [nF] at h
  rcases Zae.mp h with q | q
  ·exact .inr ⟨r,List.mem_cons_self,q⟩
  ·obtain ⟨y,hy,hx⟩:=List.mem_flatten.mp q
   obtain ⟨z,hz,rfl⟩:=ZaP.mp hy
   rcases Zao.mp hx with e | e
   ·exact .inl e
   ·exact .inr ⟨z,List.mem_cons_of_mem _ hz,e⟩
theorem wR {α:Type}{tg:PV->Rho->Option Rho}{tst:Fn Bool}{el:Fn PV}{ρb:Rho} (src:α->PV) (t:α->Bool) (f:α->PV):∀ (l:List α),
  (∀ x∈l,∃ ρ1,tg (src x) ρb=some ρ1∧tst ρ1=some (.ok (t x))∧(t x=true->el ρ1=some (.ok (f x))))->gJ tg tst el ρb (l.map src)=some (.ok ((l.filter t).map f))
 | [],_=>rfl
 | x::xs,h=>by
  obtain ⟨ρ1,e1,e2,e3⟩:=h x List.mem_cons_self
  have ih:=wR src t f xs fun y hy=>h y (List.mem_cons_of_mem _ hy)
  rw [Zah,gJ,e1]
  simp only [e2,bnd]
  cases ht:t x with
  | true=>simp only [if_true,e3 ht,ih,bnd,ZaY,ht,Zah]
  | false=>simp only [ZbE,if_false,ih,ZaY,ht]
theorem BR {l:List PV}{Q:List PV->Prop}:Tv (zy [.lst l]) Q=Q (iJ l):=tv_some
theorem Ig {a b:Nat}{body:Sn}{QS:Out->Prop} (I:Nat->Rho->Prop) {l:List PV}{ρ:Rho} (h0:I 0 ρ)
  (hs:∀ (i:Nat) x ρ,l[i]?=some x->I i ρ->To (body ((ρ.set a (some (.sh (.int ((i+1:Nat):Int))))).set b (some (.sh x)))) (turn (I (i+1)) QS)) (hd:∀ ρ',I l.length ρ'->QS (.nx ρ')):To (loop (gT 2 (gsCons (gN a) (gsCons (gN b) gsNil))) body (iJ l) ρ) QS:=by
 have hl:(iJ l).length=l.length:=by simp [iJ]
 refine u6 I h0 (fun i x ρ e hI=>?_) fun ρ'=>by rw [hl];exact hd ρ'
 unfold iJ at e
 rw [Zbf] at e
 cases h:l[i]? with
 | none=>rw [h] at e;cases e
 | some y =>
  rw [h] at e
  cases e
  exact ⟨_,rfl,hs i y ρ h hI⟩
theorem Nu {w:Str} (h:cu w=true):∀ c∈w.cps.toList,97≤c:=fun c hc=>by
 unfold cu at h
 rw [Zbl] at h
 have:=ZaX.mp h.2 c hc
 unfold isL at this
 have:=of_decide_eq_true this
 exact this.1
theorem Q6:cu (Str.ofString "paper")=true:=by decide +kernel
theorem wU:∀ (l:List (Str×Str)),nu (l.map prP)=some (l.map fun p=>(PV.str p.1,PV.str p.2))
 | []=>rfl
 | p::l=>by
  rw [Zah]
  unfold nu
  rw [wU l];rfl
theorem lg {ws:List Str}{i:Nat}{w:Str} (h:ws[i]?=some w):atI (ws.map PV.str) (i:Int)=some (.str w):=mZ (by rw [Zag,h];rfl)
theorem uy {α:Type} (g:α->PV) (l:List α) (k:Nat) (hk:k≤l.length):o7 (l.map g) (some (k:Int)) none=(l.drop k).map g:=by
 unfold o7
 rw [HT.pB,HT.sr,List.length_map,Zbk hk,ZaO (by simp),List.map_drop]
theorem wV (c:Nat):∀ l:List Nat,((eN c l).map (·.length)).sum+(eN c l).length=l.length+1
 | []=>rfl
 | x::l=>by
  have ih:=wV c l
  unfold eN
  split
  ·rw [Zah,Zbg,Zak,Zak,ZaR];omega
  ·obtain ⟨h,t,e⟩:=gM c l
   rw [e] at ih ⊢
   simp only [Zah,Zbg,Zak] at ih ⊢
   omega
theorem oh (c:Nat):∀ (l:List Nat),∀ r∈eN c l,∀ x∈r,x∈l
 | [],r,hr,x,hx=>by
  have:r=[]:=by simpa [eN] using hr
  subst this
  cases hx
 | y::l,r,hr,x,hx=>by
  unfold eN at hr
  split at hr
  ·rcases Zao.mp hr with e | q
   ·subst e;cases hx
   ·exact List.mem_cons_of_mem _ (oh c l r q x hx)
  ·obtain ⟨h,t,e⟩:=gM c l
   rw [e] at hr
   rcases Zao.mp hr with e2 | q
   ·subst e2
    rcases Zao.mp hx with e3 | q
    ·rw [e3];exact List.mem_cons_self
    ·exact List.mem_cons_of_mem _ (oh c l h (by rw [e];exact List.mem_cons_self) x q)
   ·exact List.mem_cons_of_mem _ (oh c l r (by rw [e];exact List.mem_cons_of_mem _ q) x hx)
noncomputable def wds (z:Str):List Str:=Txt.split z ⟨#[32]⟩
theorem Ea (z:Str):wds z=(eN 32 z.cps.toList).map ofL:=yr z 32 (by decide)
theorem len_list (z:Str):z.cps.toList.length=z.length:=Array.length_toList
theorem lq (z:Str):((wds z).map (·.length)).sum+(wds z).length=z.length+1:=by
 have:=wV 32 z.cps.toList
 rw [len_list] at this
 rw [Ea,ZaU,List.length_map]
 rw [show ((fun s:Str=>s.length) ∘ ofL)=fun l:List Nat=>l.length from funext fun l=>gA l]
 exact this
theorem wW (z:Str):wds z≠[]:=by
 obtain ⟨h,t,e⟩:=gM 32 z.cps.toList
 rw [Ea,e];simp
theorem K6 {z w:Str} (hw:w∈wds z) {x:Nat} (hx:x∈w.cps.toList):x∈z.cps.toList:=by
 rw [Ea] at hw
 obtain ⟨r,hr,rfl⟩:=ZaP.mp hw
 exact oh 32 _ r hr x hx
theorem Q7 {l:List Nat}:∀ {x:Nat},x∈l->x≤l.sum:=by
 induction l with
 | nil=>intro x hx;cases hx
 | cons a l ih =>
  intro x hx
  rw [Zbg]
  rcases Zao.mp hx with e | q
  ·omega
  ·have:=ih q;omega
theorem qw {z w:Str} (hw:w∈wds z):w.length≤z.length:=by
 have h1:=Q7 (ZaP.mpr ⟨w,hw,rfl⟩:w.length∈(wds z).map (·.length))
 have h2:=lq z
 have h3:0 < (wds z).length:=Za1.mpr (wW z)
 omega
noncomputable def Okb (n:Nat) (z:Str):Prop:=10 ∉ z.cps.toList∧z.length≤n
theorem Okb.mono {n m:Nat}{z:Str} (h:Okb n z) (l:n≤m):Okb m z:=⟨h.1,Zad h.2 l⟩
theorem Okb.word {n:Nat}{z w:Str} (h:Okb n z) (hw:w∈wds z):Okb n w:=⟨fun q=>h.1 (K6 hw q),Zad (qw hw) h.2⟩
theorem Okb.join {n:Nat}{ws:List Str} (h:∀ w∈ws,10 ∉ w.cps.toList) (hl:(ws.map (·.length)).sum+ws.length≤n):Okb n (Txt.join ⟨#[32]⟩ ws):=by
 refine ⟨fun q=>?_,Zad (wC 32 ws) hl⟩
 rw [join_list] at q
 rcases yu q with e | ⟨r,hr,hx⟩
 ·cases e
 ·obtain ⟨w,hw,rfl⟩:=ZaP.mp hr
  exact h w hw hx
theorem rQ (z:Str) (hz:z.length≤sizeLine):eY [.str z]=some (.ok (.bl (cu z))):=by
 refine iM (x:=iC (startR [.str z] 1)) (ju fun QS hQ=>?_)
 unfold iC
 rw [show startR [PV.str z] 1=[some (.sh (.str z)),none] from rfl]
 walk_at "rd"
 refine fD (fun i ρ=>∃ v,ρ=[some (.sh (.str z)),v]∧(z.cps.toList.take i).all isL=true) ⟨none,rfl,rfl⟩ ?_ ?_
 ·rintro i x ρ hx ⟨v,rfl,ha⟩
  unfold MP.signs at hx
  rw [Zag] at hx
  cases ec:z.cps.toList[i]? with
  | none=>rw [ec] at hx;cases hx
  | some c =>
   rw [ec] at hx
   cases hx
   have tk:z.cps.toList.take (i+1)=z.cps.toList.take i++[c]:=by rw [ZbB,ec];rfl
   unfold mK
   walk_at "rd"
   refine ⟨isL c,by show some _=_;rw [wM],?_⟩
   cases hc:isL c with
   | true =>
    walk_at "rd"
    refine ⟨_,rfl,?_⟩
    rw [tk,List.all_append,ha,Zbm,hc]
    rfl
   | false =>
    walk_at "rd"
    unfold mJ
    walk_at "rd"
    refine hQ _ ?_
    unfold cu
    have:z.cps.toList.all isL=false:=by
     rw [List.all_eq_false]
     exact ⟨c,Zau ec,by rw [hc];decide⟩
    rw [this,Bool.and_false]
    rfl
 ·rintro ρ ⟨v,rfl,ha⟩
  have el:(MP.signs z).length=z.cps.toList.length:=by unfold MP.signs;rw [List.length_map]
  rw [el,List.take_length] at ha
  unfold mL
  walk_at "rd"
  refine ⟨hz,dG (fun h=>hQ _ ?_) fun h=>hQ _ ?_⟩
  ·unfold cu
   rw [ha,Bool.and_true,show decide (1≤z.length∧z.length≤8)=decide ((z.length:Int)≤8) from decide_eq_decide.mpr ⟨fun q=>by omega,fun q=>by omega⟩]
   rfl
  ·unfold cu
   rw [decide_eq_false (fun q=>h (by omega)),Bool.false_and]
   rfl
noncomputable def prs:List Str->List (Str×Str)
 | a::b::r=>(a,b)::prs r
 | _=>[]
theorem zO:∀ us:List Str,(prs us).length=us.length / 2
 | []=>rfl
 | [a]=>by simp [prs]
 | a::b::r=>by
  show (prs r).length+1=_
  rw [zO r,Zak,Zak]
  omega
theorem zP:∀ {us:List Str}{i:Nat},i < us.length / 2->∃ a b,(prs us)[i]?=some (a,b)∧us[2 * i]?=some a∧us[2 * i+1]?=some b
 | [],i,h=>by simp at h
 | [_],i,h=>by simp at h
 | a::b::r,0,_=>⟨a,b,rfl,rfl,rfl⟩
 | a::b::r,i+1,h=>by
  obtain ⟨x,y,h1,h2,h3⟩:=zP (us:=r) (i:=i) (by simp at h;omega)
  refine ⟨x,y,h1,?_,?_⟩
  ·rw [show 2 * (i+1)=2 * i+1+1 by omega];exact h2
  ·rw [show 2 * (i+1)+1=2 * i+1+1+1 by omega];exact h3
noncomputable def encD (l:List (Str×Str)):List (Key×PV):=l.map fun p=>((.inr p.1:Key),PV.str p.2)
noncomputable def rp:List (Str×Str)->Str×Str->List (Str×Str)
 | [],p=>[p]
 | q::l,p=>if q.1=p.1 then (q.1,p.2)::l else q::rp l p
theorem vf (p:Str×Str):∀ l:List (Str×Str),(rp l p).map (·.1)=if p.1∈l.map (·.1) then l.map (·.1) else l.map (·.1)++[p.1]
 | []=>rfl
 | q::l=>by
  unfold rp
  by_cases h:q.1=p.1
  ·rw [if_pos h,if_pos (by rw [Zah,h];exact List.mem_cons_self)];rfl
  ·rw [if_neg h,Zah,vf p l,Zah]
   by_cases h2:p.1∈l.map (·.1)
   ·rw [if_pos h2,if_pos (List.mem_cons_of_mem _ h2)]
   ·rw [if_neg h2,if_neg fun z=>(Zao.mp z).elim (fun e=>h e.symm) h2];rfl
theorem K7 (p:Str×Str):∀ {l:List (Str×Str)},(l.map (·.1)).Nodup->rA (encD l) (.inr p.1) (.str p.2)=encD (rp l p)
 | [],_=>rfl
 | q::l,nd=>by
  rw [Zah,List.nodup_cons] at nd
  show rA (((.inr q.1:Key),PV.str q.2)::encD l) _ _=_
  unfold rA rp
  by_cases h:q.1=p.1
  ·rw [if_pos (by rw [h]),if_pos h,if_neg]
   ·rfl
   ·rw [Bool.not_eq_true,List.any_eq_false]
    intro e he
    obtain ⟨x,hx,rfl⟩:=ZaP.mp he
    intro z
    have:x.1=p.1:=Sum.inr.inj (of_decide_eq_true z)
    exact nd.1 (ZaP.mpr ⟨x,hx,by rw [this,h]⟩)
  ·rw [if_neg fun z=>h (Sum.inr.inj z),if_neg h,K7 p nd.2];rfl
theorem O9 {l:List (Str×Str)}{p:Str×Str} (nd:(l.map (·.1)).Nodup):((rp l p).map (·.1)).Nodup:=by
 rw [vf]
 split
 ·exact nd
 ·rename_i h
  rw [List.nodup_append]
  exact ⟨nd,by simp,fun x hx y hy e=>h (by rw [ZaF.mp hy] at e;rw [←e];exact hx)⟩
theorem Eb {l:List (Str×Str)}{p:Str×Str}:(rp l p).length=if p.1∈l.map (·.1) then l.length else l.length+1:=by
 have:=congrArg List.length (vf p l)
 rw [List.length_map] at this
 rw [this]
 split <;> simp
theorem Gp:∀ (l l0:List (Str×Str)),(l0.map (·.1)).Nodup->l0.length+l.length≤5000->jC (.dk (encD l0)) (l.map fun p=>(PV.str p.1,PV.str p.2))=some (.dk (encD (l.foldl rp l0)))
 | [],l0,_,_=>rfl
 | p::l,l0,nd,hl=>by
  simp only [Zak] at hl
  rw [Zah]
  unfold jC
  rw [QV,if_pos (by unfold encD;rw [List.length_map];exact Nat.lt_of_le_of_lt (show l0.length≤5000 by omega) (by decide)),K7 p nd]
  exact Gp l (rp l0 p) (O9 nd) (by rw [Eb];split <;> omega)
theorem wX:∀ (l l0:List (Str×Str)),(l.foldl rp l0).length≤l0.length+l.length
 | [],l0=>Zaf _
 | p::l,l0=>by
  have:=wX l (rp l0 p)
  rw [Eb] at this
  simp only [ZbH,Zak]
  split at this <;> omega
theorem yw:∀ (l l0:List (Str×Str)),(l0.map (·.1)).Nodup->((l.foldl rp l0).length=l0.length+l.length↔((l0++l).map (·.1)).Nodup)
 | [],l0,nd=>by simpa using nd
 | p::l,l0,nd=>by
  have ih:=yw l (rp l0 p) (O9 nd)
  have le:=wX l (rp l0 p)
  rw [Eb] at ih le
  simp only [ZbH,Zak]
  by_cases h:p.1∈l0.map (·.1)
  ·rw [if_pos h] at le
   refine ⟨fun e=>by omega,fun e=>?_⟩
   rw [Zan,List.nodup_append] at e
   exact absurd rfl (e.2.2 p.1 h p.1 (by simp))
  ·rw [if_neg h] at ih
   rw [show l0.length+(l.length+1)=l0.length+1+l.length by omega,ih,Zan,vf,if_neg h,Zan,Zah,ZaA]
   rfl
noncomputable def Ii:Str:=Str.ofString "cover"
noncomputable def K8:Str:=Str.ofString "glaze"
theorem yx (us:List Str) (hl:us.length≤2000):jM [.lst (us.map .str)]=some (.ok (if us.length % 2=0∧1≤(prs us).length∧(prs us).length≤8∧((prs us).map (·.1)).Nodup then .tup ((prs us).map prP) else .non)):=by
 have big:∀ {n:Nat},n≤6000->n≤sizeLine:=fun h=>Zad h (by decide)
 have pl:=zO us
 refine iM (x:=nP (startR [.lst (us.map .str)] 2)) (ju fun QS hQ=>?_)
 unfold nP
 rw [show startR [PV.lst (us.map PV.str)] 2=[some (.sh (.lst (us.map PV.str))),none,none] from rfl]
 walk_at "rd"
 rw [List.length_map]
 have rg:rgn 0 ((us.length:Int) - 1) 2=(prs us).length:=by
  unfold rgn
  split <;> omega
 rw [rg]
 have es:(prs us).map prP=(List.range (prs us).length).map fun i=>prP ((prs us).getD i default):=by
  apply List.ext_getElem?
  intro i
  rw [Zag,Zag]
  by_cases h:i < (prs us).length
  ·rw [Zbw h]
   show _=some (prP ((prs us).getD i default))
   rw [ZaD,Zac h];rfl
  ·rw [ZaQ (by omega),ZaQ (by simpa using h)];rfl
 unfold vZ
 rw [wR (fun (i:Nat)=>PV.int (0+(i:Nat) * 2)) (fun _=>true) (fun i=>prP ((prs us).getD i default)) (List.range (prs us).length) fun i hi=>⟨_,rfl,rfl,fun _=>FT (by
  have il:i < (prs us).length:=Zbh.mp hi
  obtain ⟨a,b,g0,g1,g2⟩:=zP (us:=us) (i:=i) (by omega)
  have eg:(prs us).getD i default=(a,b):=by rw [ZaD,g0];rfl
  rw [eg]
  walk_at "rd"
  rw [show (0:Int)+(i:Int) * 2=((2 * i:Nat):Int) by omega,show ((2 * i:Nat):Int)+1=((2 * i+1:Nat):Int) by omega]
  exact ⟨_,lg g1,_,lg g2,big (by decide),rfl⟩)⟩,tv_some,List.filter_eq_self.mpr (fun _ _=>rfl),←es]
 rw [List.length_map,List.length_range]
 refine ⟨⟨by decide,by decide,by omega,by omega,by decide,by decide⟩,big (by omega),_,wU _,_,Gp (prs us) [] (by simp) (by simp;omega),by decide,?_⟩
 have fl:=wX (prs us) []
 have ff:=yw (prs us) [] (by simp)
 rw [List.nil_append] at ff
 generalize (prs us).foldl rp []=FD at fl ff
 have el:(encD FD).length=FD.length:=by unfold encD;rw [List.length_map]
 simp only [ZaR,Nat.zero_add] at fl ff
 have no:¬(us.length % 2=0∧1≤(prs us).length∧(prs us).length≤8∧((prs us).map (·.1)).Nodup)->To (nM [some (.sh (.lst (us.map .str))),some (.sh (.lst ((prs us).map prP))),some (.sh (.dk (encD FD)))]) (qD (fun ρ'=>To (nO ρ') QS) QS):=fun z=>by
  unfold nM
  walk_at "rd"
  exact hQ _ (by rw [if_neg z];rfl)
 rw [List.length_map]
 refine dG (fun h=>no fun z=>by omega) fun h=>dG (fun h1=>dG (fun h2=>no fun z=>by omega) fun h2=>⟨rfl,?_⟩) fun h1=>no fun z=>by omega
 rw [tv_opDLen,el]
 walk_at "rd"
 refine dG (fun h3=>no fun z=>?_) fun h3=>?_
 ·have:=ff.mpr z.2.2.2
  omega
 ·unfold nO
  walk_at "rd"
  refine hQ _ ?_
  rw [if_pos ⟨by omega,by omega,by omega,ff.mp (by omega)⟩]
  rfl
noncomputable def gzB (us:List Str):Prop:=us.length % 2=0∧1≤(prs us).length∧(prs us).length≤8∧((prs us).map (·.1)).Nodup
noncomputable instance (us:List Str):Decidable (gzB us):=by unfold gzB;exact inferInstance
noncomputable def jZ:List Str->Option Ink
 | a::n::us=>if cu n=true∧us.all cu=true then (if a=Ii∧us.length=1 then some (.cov n (us.getD 0 ⟨#[]⟩)) else if a=K8∧gzB us then some (.glz n (prs us)) else none) else none
 | _=>none
noncomputable def Nv:Option Ink->PV
 | some k=>di k
 | none=>.non
theorem Ec {ws:List Str} (h:ws.length < 3):jZ ws=none:=by
 match ws,h with
 | [],_=>rfl
 | [_],_=>rfl
 | [a,n],_ =>
  show (if _ then _ else _)=_
  split
  ·rw [if_neg (fun z=>by have:=z.2;simp at this),if_neg (fun z=>by have:=z.2.2.1;simp [prs] at this)]
  ·rfl
 | _::_::_::_,h=>simp at h;omega
theorem Ij (a n:Str) (us:List Str) (hl:us.length≤2000):jN [.lst ((a::n::us).map .str)]=some (.ok (if gzB us then di (.glz n (prs us)) else .non)):=by
 have big:∀ {n:Nat},n≤6000->n≤sizeLine:=fun h=>Zad h (by decide)
 refine iM (x:=iQ (startR [.lst ((a::n::us).map .str)] 1)) (ju fun QS hQ=>?_)
 unfold iQ
 walk_at "rd"
 have c1:o7 (PV.str a::PV.str n::us.map .str) (some 2) none=us.map .str:=uy PV.str (a::n::us) 2 (by simp)
 rw [c1,yx us hl]
 walk_at "rd"
 by_cases g:gzB us
 ·rw [show (if us.length % 2=0∧1≤(prs us).length∧(prs us).length≤8∧((prs us).map (·.1)).Nodup then PV.tup ((prs us).map prP) else .non)=PV.tup ((prs us).map prP) from if_pos g]
  rw [if_pos g] at hQ
  walk_at "rd"
  unfold tQ
  walk_at "rd"
  exact ⟨by decide,hQ _ rfl⟩
 ·rw [show (if us.length % 2=0∧1≤(prs us).length∧(prs us).length≤8∧((prs us).map (·.1)).Nodup then PV.tup ((prs us).map prP) else .non)=PV.non from if_neg g]
  rw [if_neg g] at hQ
  walk_at "rd"
  unfold nQ
  walk_at "rd"
  exact hQ _ rfl
theorem Ik (a:Str):jN [.lst [.str a]]=some (.ok .non):=by
 refine iM (x:=iQ (startR [.lst [.str a]] 1)) ?_
 unfold iQ
 walk_at "rd"
 rw [show o7 [PV.str a] (some 2) none=([]:List Str).map .str from rfl,show jM [.lst (([]:List Str).map .str)]=some (.ok .non) from by rw [yx [] (by simp),if_neg (fun z=>by have:=z.2.1;simp [prs] at this)]]
 walk_at "rd"
 unfold nQ
 walk_at "rd"
theorem Gq (z:Str) (hz:z.length≤2000):tU [.str z]=some (.ok (Nv (jZ (wds z)))):=by
 have big:∀ {n:Nat},n≤6000->n≤sizeLine:=fun h=>Zad h (by decide)
 refine iM (x:=tR (startR [.str z] 1)) (ju fun QS hQ=>?_)
 have hw:∀ w∈wds z,w.length≤2000:=fun w h=>Zad (qw h) hz
 have hl:(wds z).length≤2001:=by have:=lq z;omega
 have h0:=wW z
 unfold tR
 walk_at "rd"
 rw [spS,show Txt.split z ⟨#[32]⟩=wds z from rfl]
 generalize wds z=ws at *
 rw [zN PV.str (fun w=>.bl (cu w)) ws fun w h=>by
  walk_at "rd"
  rw [Gk w (Zad (hw w h) (by decide))]
  walk_at "rd"]
 walk_at "rd"
 have eb:jA (ws.map fun w=>PV.bl (cu w))=some (ws.map cu):=by
  have:=n6 (ws.map cu)
  rw [ZaU] at this
  exact this
 have ea:(ws.map cu).all id=ws.all cu:=by rw [List.all_map];rfl
 refine ⟨rfl,Zad hz (by decide),big (by omega),by rw [List.length_map];exact big (by omega),_,eb,?_⟩
 rw [ea]
 have none4:jZ ws=none->To (rK [some (.sh (.str z)),some (.sh (.lst (ws.map .str)))]) QS:=fun e=>by
  unfold rK
  walk_at "rd"
  exact hQ _ (by rw [e];rfl)
 cases hall:ws.all cu with
 | false =>
  rw [if_pos rfl]
  unfold wI
  walk_at "rd"
  refine hQ _ ?_
  have:jZ ws=none:=by
   match ws,hall with
   | [],_=>rfl
   | [_],_=>rfl
   | a::n::us,h =>
    show (if _ then _ else _)=_
    split
    ·rename_i q
     have na:cu a=false:=by
      rw [Zbm,Zbm,q.1,q.2] at h
      simpa using h
     rw [if_neg fun z=>by rw [z.1] at na;exact absurd na (by decide +kernel),if_neg fun z=>by rw [z.1] at na;exact absurd na (by decide +kernel)]
    ·rfl
  rw [this]
  rfl
 | true =>
  rw [if_neg (by decide)]
  match ws,h0 with
  | [],h=>exact absurd rfl h
  | [a],_ =>
   have five:To (jO [some (.sh (.str z)),some (.sh (.lst [.str a]))]) QS:=by
    unfold jO
    walk_at "rd"
    refine dG (fun h=>?_) fun h=>none4 rfl
    unfold rJ
    walk_at "rd"
    rw [Ik]
    walk_at "rd"
    exact hQ _ rfl
   unfold rM
   walk_at "rd"
   refine dG (fun h=>?_) fun h=>five
   rw [if_neg (by decide)]
   exact five
  | a::n::us,_ =>
   have q:cu n=true∧us.all cu=true:=by
    rw [Zbm,Zbm,Zbl,Zbl] at hall
    exact hall.2
   have e1:jZ (a::n::us)=(if a=Ii∧us.length=1 then some (.cov n (us.getD 0 ⟨#[]⟩)) else if a=K8∧gzB us then some (.glz n (prs us)) else none):=if_pos q
   have cg:¬K8=Ii:=by decide +kernel
   have five:¬(a=Ii∧us.length=1)->To (jO [some (.sh (.str z)),some (.sh (.lst (.str a::.str n::us.map .str)))]) QS:=fun nc=>by
    rw [if_neg nc] at e1
    unfold jO
    walk_at "rd"
    refine dG (fun h=>?_) fun h=>none4 (by rw [e1,if_neg fun z=>h z.1])
    unfold rJ
    walk_at "rd"
    rw [show PV.lst (.str a::.str n::us.map .str)=.lst ((a::n::us).map .str) from rfl,Ij a n us (by simp at hl;omega)]
    walk_at "rd"
    refine hQ _ ?_
    rw [e1]
    by_cases g:gzB us
    ·rw [if_pos g,if_pos ⟨h,g⟩];rfl
    ·rw [if_neg g,if_neg fun z=>g z.2];rfl
   unfold rM
   walk_at "rd"
   rw [List.length_map]
   refine dG (fun h=>dG (fun h3=>?_) fun h3=>five fun z=>h3 (by have:=z.2;omega)) fun h=>five fun z=>h z.1
   have u1:us.length=1:=by omega
   match us,u1 with
   | [c],_ =>
    unfold wJ
    walk_at "rd"
    refine ⟨by decide,hQ _ ?_⟩
    rw [e1,if_pos ⟨h,rfl⟩]
    rfl
theorem BV (n:Str) (l:List Str):inU (.str n) (.lst (l.map .str))=some (decide (n∈l)):=Gn n l
noncomputable def BW (ws:List Str) (names:List Str):PV:=match jZ ws with
 | some k=>if k.name∈names then .non else di k
 | none=>.non
theorem zQ (ws names:List Str) (hw:∀ w∈ws,w.length≤2000) (hl:ws.length≤2001) (h0:ws≠[]):gC [.lst (ws.map .str),.lst (names.map .str)]=some (.ok (BW ws names)):=by
 have big:∀ {n:Nat},n≤6000->n≤sizeLine:=fun h=>Zad h (by decide)
 refine iM (x:=gB (startR [.lst (ws.map .str),.lst (names.map .str)] 3)) (ju fun QS hQ=>?_)
 rw [show startR [PV.lst (ws.map .str),.lst (names.map .str)] 3=[some (.sh (.lst (ws.map .str))),some (.sh (.lst (names.map .str))),none,none,none] from rfl]
 match ws,h0 with
 | [],h=>exact absurd rfl h
 | a::vs,_ =>
 unfold gB
 walk_at "rd"
 have c1:o7 (PV.str a::vs.map .str) (some 1) none=vs.map .str:=uy PV.str (a::vs) 1 (by simp)
 rw [c1]
 refine fD (fun i ρ=>∃ v,ρ=[some (.sh (.lst (.str a::vs.map .str))),some (.sh (.lst (names.map .str))),v,none,none]∧(vs.take i).all cu=true) ⟨none,rfl,rfl⟩ ?_ ?_
 ·rintro i x ρ hx ⟨v,rfl,hv⟩
  rw [Zag] at hx
  cases ec:vs[i]? with
  | none=>rw [ec] at hx;cases hx
  | some w =>
   rw [ec] at hx
   cases hx
   have tk:vs.take (i+1)=vs.take i++[w]:=by rw [ZbB,ec];rfl
   unfold kE
   walk_at "rd"
   rw [rQ w (Zad (hw w (List.mem_cons_of_mem _ (Zau ec))) (by decide))]
   walk_at "rd"
   cases hc:cu w with
   | true =>
    walk_at "rd"
    refine ⟨_,rfl,?_⟩
    rw [tk,List.all_append,hv,Zbm,hc]
    rfl
   | false =>
    walk_at "rd"
    unfold km
    walk_at "rd"
    refine hQ _ ?_
    have:jZ (a::vs)=none:=by
     match vs,ec with
     | [],ec=>cases ec
     | n::us,ec =>
      refine if_neg fun z=>?_
      have:=ZaX.mp (show (n::us).all cu=true by rw [Zbm,z.1,z.2];rfl) w (Zau ec)
      rw [hc] at this
      cases this
    unfold BW
    rw [this]
    rfl
 ·rintro ρ ⟨v,rfl,hv⟩
  rw [List.length_map,List.take_length] at hv
  have three:BW (a::vs) names=.non->To (iD [some (.sh (.lst (.str a::vs.map .str))),some (.sh (.lst (names.map .str))),v,none,none]) (qD (fun ρ'=>To (gH ρ') QS) QS):=fun e=>by
   unfold iD
   walk_at "rd"
   exact hQ _ (by rw [e];rfl)
  unfold jY
  walk_at "rd"
  rw [List.length_map]
  refine dG (fun h3=>three ?_) fun h3=>?_
  ·unfold BW
   rw [Ec (by rw [Zak];omega)]
  match vs,h3 with
  | [],h=>exact absurd (by decide) h
  | n::us,h3 =>
  have q:cu n=true∧us.all cu=true:=by
   rw [Zbm,Zbl] at hv
   exact hv
  have e1:jZ (a::n::us)=(if a=Ii∧us.length=1 then some (.cov n (us.getD 0 ⟨#[]⟩)) else if a=K8∧gzB us then some (.glz n (prs us)) else none):=if_pos q
  refine ⟨.str n,lg (ws:=a::n::us) (i:=1) rfl,_,BV n names,?_⟩
  by_cases hin:n∈names
  ·rw [decide_eq_true hin,if_pos rfl]
   refine three ?_
   unfold BW
   rw [e1]
   split
   ·rename_i k ek
    have:k.name=n:=by
     split at ek
     ·cases ek;rfl
     ·split at ek
      ·cases ek;rfl
      ·cases ek
    rw [this,if_pos hin]
   ·rfl
  rw [decide_eq_false hin,if_neg (by decide)]
  have val:BW (a::n::us) names=Nv (jZ (a::n::us)):=by
   unfold BW
   cases ek:jZ (a::n::us) with
   | none=>rfl
   | some k =>
    have:k.name=n:=by
     rw [e1] at ek
     split at ek
     ·cases ek;rfl
     ·split at ek
      ·cases ek;rfl
      ·cases ek
    show (if k.name∈names then PV.non else di k)=di k
    rw [this,if_neg hin]
  rw [val] at hQ
  have ul:us.length≤2000:=by simp at hl;omega
  have eleven:¬(a=Ii∧us.length=1)->To (gG [some (.sh (.lst (.str a::.str n::us.map .str))),some (.sh (.lst (names.map .str))),v,none,none]) QS:=fun nc=>by
   rw [if_neg nc] at e1
   have pl:=zO us
   unfold gG
   walk_at "rd"
   rw [List.length_map]
   have rg:rgn 2 (((us.length+1+1:Nat):Int) - 1) 2=(prs us).length:=by
    unfold rgn
    split <;> omega
   rw [rg]
   unfold vZ
   refine ⟨⟨by decide,by decide,by omega,by omega,by decide,by decide⟩,?_⟩
   refine fD (fun i ρ=>∃ v4,ρ=[some (.sh (.lst (.str a::.str n::us.map .str))),some (.sh (.lst (names.map .str))),v,some (.ow (.lst (((prs us).take i).map prP))),v4]∧(((prs us).take i).map (·.1)).Nodup) ⟨none,rfl,by simp⟩ ?_ ?_
   ·rintro i x ρ hx ⟨v4,rfl,nd⟩
    rw [Zag] at hx
    have hi:i < (prs us).length:=by
     rcases Nat.lt_or_ge i (prs us).length with z | z
     ·exact z
     ·rw [ZaQ (by simpa using z)] at hx;cases hx
    rw [Zbw hi] at hx
    cases hx
    obtain ⟨x,y,g0,g1,g2⟩:=zP (us:=us) (i:=i) (by omega)
    have b1:atI (PV.str a::PV.str n::us.map PV.str) (2+(i:Int) * 2)=some (.str x):=by
     rw [show (2:Int)+(i:Int) * 2=((2 * i+1+1:Nat):Int) by omega]
     exact lg (ws:=a::n::us) g1
    have b2:atI (PV.str a::PV.str n::us.map PV.str) (2+(i:Int) * 2+1)=some (.str y):=by
     rw [show (2:Int)+(i:Int) * 2+1=((2 * i+1+1+1:Nat):Int) by omega]
     exact lg (ws:=a::n::us) g2
    have tk:(prs us).take (i+1)=(prs us).take i++[(x,y)]:=by rw [ZbB,g0];rfl
    unfold kW
    walk_at "rd"
    refine ⟨_,b1,?_⟩
    rw [zN prP (fun p=>.str p.1) _ fun p hp=>by
     walk_at "rd"
     exact ⟨_,rfl,rfl⟩]
    walk_at "rd"
    have im:inU (.str x) (.lst (((prs us).take i).map fun p=>PV.str p.1))=some (decide (x∈((prs us).take i).map (·.1))):=by
     have:=BV x (((prs us).take i).map (·.1))
     rw [ZaU] at this
     exact this
    refine ⟨by rw [List.length_map,Zat];exact big (by omega),_,im,?_⟩
    by_cases hd:x∈((prs us).take i).map (·.1)
    ·rw [decide_eq_true hd,if_pos rfl]
     unfold kJ
     walk_at "rd"
     refine hQ _ ?_
     rw [e1,if_neg fun z=>?_]
     ·rfl
     ·have nd2:(((prs us).take (i+1)).map (·.1)).Nodup:=z.2.2.2.2.sublist ((Zba _ _).map _)
      rw [tk,Zan,List.nodup_append] at nd2
      exact nd2.2.2 x hd x (by simp) rfl
    ·rw [decide_eq_false hd,if_neg (by decide)]
     unfold kO
     walk_at "rd"
     refine ⟨_,b1,_,b2,?_⟩
     rw [List.length_map,Zat,O8,←tk]
     refine ⟨by decide,Nat.lt_of_le_of_lt (show _≤2000 by omega) (by decide),_,rfl,?_⟩
     rw [tk,Zan,List.nodup_append]
     exact ⟨nd,by simp,fun u hu w hw e=>hd (by rw [show w=x by simpa using hw] at e;rw [←e];exact hu)⟩
   ·rintro ρ ⟨v4,rfl,nd⟩
    rw [List.length_map,List.length_range,List.take_length] at *
    have none9:¬(a=K8∧gzB us)->To (iG [some (.sh (.lst (.str a::.str n::us.map .str))),some (.sh (.lst (names.map .str))),v,some (.ow (.lst ((prs us).map prP))),v4]) QS:=fun z=>by
     unfold iG
     walk_at "rd"
     exact hQ _ (by rw [e1,if_neg z];rfl)
    unfold jX
    walk_at "rd"
    rw [List.length_map,List.length_map]
    refine dG (fun h=>⟨by decide,dG (fun h1=>dG (fun h2=>dG (fun h4=>?_) fun h4=>none9 fun z=>by have:=z.2.2.2.1;omega) fun h2=>none9 fun z=>by have:=z.2.2.1;omega) fun h1=>none9 fun z=>by have:=z.2.1;omega⟩) fun h=>none9 fun z=>h z.1
    unfold kY
    walk_at "rd"
    refine ⟨by decide,hQ _ ?_⟩
    rw [e1,if_pos ⟨h,by omega,by omega,by omega,nd⟩]
    rfl
  unfold gH
  walk_at "rd"
  rw [List.length_map]
  refine dG (fun h=>dG (fun h3=>?_) fun h3=>eleven fun z=>h3 (by have:=z.2;omega)) fun h=>eleven fun z=>h z.1
  have u1:us.length=1:=by omega
  match us,u1 with
  | [c],_ =>
   unfold kI
   walk_at "rd"
   refine ⟨by decide,hQ _ ?_⟩
   rw [e1,if_pos ⟨h,rfl⟩]
   rfl
noncomputable def zR:Str:=Str.ofString "paper"
noncomputable def j0:List Str->Option Str
 | [a,b]=>if a=zR∧cu b=true then some b else none
 | _=>none
noncomputable def Ny:Option Str->PV
 | some b=>.str b
 | none=>.non
theorem BX {ws:List Str} (h:ws.length≠2):j0 ws=none:=by
 match ws,h with
 | [],_=>rfl
 | [_],_=>rfl
 | [_,_],h=>exact absurd rfl h
 | _::_::_::_,_=>rfl
theorem yz (z:Str) (hz:z.length≤2000):nJ [.str z]=some (.ok (Ny (j0 (wds z)))):=by
 have big:∀ {n:Nat},n≤6000->n≤sizeLine:=fun h=>Zad h (by decide)
 refine iM (x:=nH (startR [.str z] 1)) (ju fun QS hQ=>?_)
 have hw:∀ w∈wds z,w.length≤2000:=fun w h=>Zad (qw h) hz
 have hl:(wds z).length≤2001:=by have:=lq z;omega
 unfold nH
 walk_at "rd"
 rw [spS,show Txt.split z ⟨#[32]⟩=wds z from rfl]
 generalize wds z=ws at *
 rw [List.length_map]
 have two:j0 ws=none->To (nG [some (.sh (.str z)),some (.sh (.lst (ws.map .str)))]) QS:=fun e=>by
  unfold nG
  walk_at "rd"
  exact hQ _ (by rw [e];rfl)
 refine ⟨rfl,Zad hz (by decide),big (by omega),dG (fun h=>?_) fun h=>two (BX fun z=>h (by omega))⟩
 match ws,(show ws.length=2 by omega) with
 | [a,b],_ =>
  walk_at "rd"
  refine dG (fun ha=>?_) fun ha=>two (if_neg fun z=>ha z.1)
  rw [Gk b (Zad (hw b (by simp)) (by decide))]
  walk_at "rd"
  cases hb:cu b with
  | false =>
   walk_at "rd"
   exact two (if_neg fun z=>by simp [hb] at z)
  | true =>
   walk_at "rd"
   unfold tO
   walk_at "rd"
   refine hQ _ ?_
   rw [show j0 [a,b]=some b from if_pos ⟨ha,hb⟩]
   rfl
noncomputable def run:List Str->List Ink->Nat ⊕ List Ink
 | [],ks=>.inr ks
 | t::ts,ks=>match jZ (wds t) with
  | some k=>if ks.length=8∨k.name∈ks.map Ink.name then .inl (ks.length+1) else run ts (ks++[k])
  | none=>.inl (ks.length+1)
theorem Ed:∀ {ts:List Str}{ks:List Ink}{m:Nat},run ts ks=.inl m->ks.length+1≤m∧m≤ks.length+ts.length
 | [],ks,m,h=>by cases h
 | t::ts,ks,m,h=>by
  unfold run at h
  split at h
  ·split at h
   ·cases h;simp
   ·have:=Ed h
    rw [List.length_append] at this
    simp at this ⊢
    omega
  ·cases h;simp
theorem Q8 {inks:List Ink}{name:Str} (h:name ∉ inks.map Ink.name):dX [.lst (inks.map di),.str name]=some (.ok .non):=by
 refine iM (x:=dW (startR [.lst (inks.map di),.str name] 2)) (ju fun QS hQ=>?_)
 unfold dW
 rw [show startR [.lst (inks.map di),.str name] 2=[some (.sh (.lst (inks.map di))),some (.sh (.str name)),none,none] from rfl]
 walk_at "rd"
 refine wB (fun j ρ=>∃ (v2 v3:Option Sl),ρ=[some (.sh (.lst (inks.map di))),some (.sh (.str name)),v2,v3]) ⟨none,none,rfl⟩ ?_ ?_
 ·rintro j x ρ hx ⟨v2,v3,rfl⟩
  rw [Zag] at hx
  cases e:inks[j]? with
  | none=>rw [e] at hx;cases hx
  | some k =>
   rw [e] at hx
   cases hx
   have no:¬k.name=name:=fun z=>h (ZaP.mpr ⟨k,Zau e,z⟩)
   have e1:∀ {Q:PV->Prop},Q (.str k.name)->Tv (bB (di k) (.int 1)) Q:=fun {Q} q=>by
    cases k <;> exact ⟨_,rfl,q⟩
   unfold gU
   walk_at "rd"
   refine e1 ?_
   walk_at "rd"
   rw [if_neg no]
   exact ⟨_,_,rfl⟩
 ·rintro ρ ⟨v2,v3,rfl⟩
  walk_at "rd"
  unfold j8
  walk_at "rd"
  exact hQ _ rfl
theorem Nz {inks:List Ink}{name:Str} (h:name∈inks.map Ink.name):∃ i:Int,dX [.lst (inks.map di),.str name]=some (.ok (.int i)):=by
 suffices q:∃ p,dX [.lst (inks.map di),.str name]=some (.ok p)∧∃ i:Int,p=.int i by
  obtain ⟨p,e,i,rfl⟩:=q
  exact ⟨i,e⟩
 refine uv (x:=dW (startR [.lst (inks.map di),.str name] 2)) (ju fun QS hQ=>?_)
 unfold dW
 rw [show startR [.lst (inks.map di),.str name] 2=[some (.sh (.lst (inks.map di))),some (.sh (.str name)),none,none] from rfl]
 walk_at "rd"
 refine wB (fun j ρ=>∃ (v2 v3:Option Sl),ρ=[some (.sh (.lst (inks.map di))),some (.sh (.str name)),v2,v3]∧name∈(inks.drop j).map Ink.name) ⟨none,none,rfl,h⟩ ?_ ?_
 ·rintro j x ρ hx ⟨v2,v3,rfl,hin⟩
  rw [Zag] at hx
  cases e:inks[j]? with
  | none=>rw [e] at hx;cases hx
  | some k =>
   rw [e] at hx
   cases hx
   have e1:∀ {Q:PV->Prop},Q (.str k.name)->Tv (bB (di k) (.int 1)) Q:=fun {Q} q=>by
    cases k <;> exact ⟨_,rfl,q⟩
   obtain ⟨hj,ej⟩:=Zap.mp e
   rw [ZaH hj,ej,Zah] at hin
   unfold gU
   walk_at "rd"
   refine e1 ?_
   walk_at "rd"
   refine dG (fun q=>?_) fun q=>⟨_,_,rfl,(Zao.mp hin).resolve_left fun z=>q z.symm⟩
   unfold j7
   walk_at "rd"
   exact hQ _ ⟨_,rfl,_,rfl⟩
 ·rintro ρ ⟨v2,v3,rfl,hin⟩
  rw [List.length_map,List.drop_length] at hin
  cases hin
theorem Il {a b:Nat}{s:Sn}{ρ:Rho}{z:PV} (I:Nat->Rho->Prop) {l:List PV}{k:Nat} (hk:k < l.length) (h0:I 0 ρ)
  (hs:∀ (i:Nat) x ρ,i < k->l[i]?=some x->I i ρ->To (s ((ρ.set a (some (.sh (.int ((i+1:Nat):Int))))).set b (some (.sh x)))) (turn (I (i+1)) fun _=>False))
  (hx:∀ x ρ,l[k]?=some x->I k ρ->s ((ρ.set a (some (.sh (.int ((k+1:Nat):Int))))).set b (some (.sh x)))=some (.ex z)):loop (gT 2 (gsCons (gN a) (gsCons (gN b) gsNil))) s (iJ l) ρ=some (.ex z):=by
 have get:∀ {i:Nat}{x:PV},(iJ l)[i]?=some x->∃ y,l[i]?=some y∧x=.tup [.int ((i+1:Nat):Int),y]:=fun {i x} e=>by
  unfold iJ at e
  rw [Zbf] at e
  cases h:l[i]? with
  | none=>rw [h] at e;cases e
  | some y=>rw [h] at e;cases e;exact ⟨y,rfl,rfl⟩
 refine Ni I (k:=k) (by simpa [iJ] using hk) h0 (fun i x ρ hi e hI=>?_) fun x ρ e hI=>?_
 ·obtain ⟨y,e2,rfl⟩:=get e
  exact ⟨_,rfl,hs i y ρ hi e2 hI⟩
 ·obtain ⟨y,e2,rfl⟩:=get e
  exact ⟨_,rfl,hx y ρ e2 hI⟩
theorem BZ {ts:List Str}{i:Nat}{t:Str}{ks:List Ink}{R:Nat ⊕ List Ink} (ht:ts[i]?=some t) (hr:run (ts.drop i) ks=R) (hn:R≠.inl (ks.length+1)):∃ k,jZ (wds t)=some k∧ks.length≠8∧k.name ∉ ks.map Ink.name∧run (ts.drop (i+1)) (ks++[k])=R:=by
 obtain ⟨hi,ei⟩:=Zap.mp ht
 rw [ZaH hi,ei] at hr
 unfold run at hr
 split at hr
 ·rename_i k ek
  split at hr
  ·exact absurd hr.symm hn
  ·rename_i q
   exact ⟨k,ek,fun z=>q (.inl z),fun z=>q (.inr z),hr⟩
 ·exact absurd hr.symm hn
theorem K9 {ts:List Str}{i:Nat}{t:Str}{ks:List Ink} (ht:ts[i]?=some t) (hr:run (ts.drop i) ks=.inl (ks.length+1)):jZ (wds t)=none∨∃ k,jZ (wds t)=some k∧(ks.length=8∨k.name∈ks.map Ink.name):=by
 obtain ⟨hi,ei⟩:=Zap.mp ht
 rw [ZaH hi,ei] at hr
 unfold run at hr
 split at hr
 ·rename_i k ek
  split at hr
  ·rename_i q
   exact .inr ⟨k,ek,q⟩
  ·have:=(Ed hr).1
   rw [List.length_append] at this
   simp at this
   omega
 ·rename_i e;exact .inl e
theorem Q9 (k:Ink):(di k).ji=false:=by cases k <;> rfl
theorem ix1 (k:Ink) {Q:PV->Prop} (q:Q (.str k.name)):Tv (bB (di k) (.int 1)) Q:=by cases k <;> exact ⟨_,rfl,q⟩
theorem yC {ts:List Str}{t:Str}{ks:List Ink}{k:Ink}{n:Int}{v4:Option Sl}{Q:Rho->Prop}{QS:Out->Prop} (hz:t.length≤2000) (ek:jZ (wds t)=some k) (h8:ks.length < 8) (hn:k.name ∉ ks.map Ink.name)
  (q:Q [some (.sh (.lst (ts.map .str))),some (.ow (.lst ((ks++[k]).map di))),some (.sh (.int n)),some (.sh (.str t)),some (.sh (di k))]) :
  To (gq [some (.sh (.lst (ts.map .str))),some (.ow (.lst (ks.map di))),some (.sh (.int n)),some (.sh (.str t)),v4]) (turn Q QS):=by
 refine Tr fun QS hQ=>?_
 unfold gq
 walk_at "rd"
 rw [Gq t hz,ek]
 walk_at "rd"
 rw [show Nv (some k)=di k from rfl,if_neg (by rw [Q9];decide),List.length_map,if_neg (by omega)]
 refine ix1 k ?_
 rw [Q8 hn,tv_some]
 refine ⟨rfl,?_⟩
 rw [if_neg (show ¬PV.non.ji=false by decide)]
 unfold qI
 walk_at "rd"
 refine ⟨by rw [List.length_map];exact dg (by omega),hQ _ ?_⟩
 rw [Zan] at q
 exact q
theorem Im {ts:List Str}{t:Str}{ks:List Ink}{n:Int}{v4:Option Sl} (hz:t.length≤2000) (h8:ks.length≤8) (h:jZ (wds t)=none∨∃ k,jZ (wds t)=some k∧(ks.length=8∨k.name∈ks.map Ink.name)) :
  gq [some (.sh (.lst (ts.map .str))),some (.ow (.lst (ks.map di))),some (.sh (.int n)),some (.sh (.str t)),v4]=some (.ex (.exc "NoBench" [("row",.int n)])):=by
 have one:∀ k:PV,lD [some (.sh (.lst (ts.map .str))),some (.ow (.lst (ks.map di))),some (.sh (.int n)),some (.sh (.str t)),some (.sh k)]=some (.ex (.exc "NoBench" [("row",.int n)])):=fun k=>by
  unfold lD
  refine wF ?_
  walk_at "rd"
  rfl
 unfold gq
 refine rG ?_
 walk_at "rd"
 rw [Gq t hz]
 walk_at "rd"
 rcases h with e | ⟨k,e,h⟩
 ·rw [e]
  refine wD (Gd ?_)
  walk_at "rd"
  exact one _
 ·rw [e]
  refine wD (Gd ?_)
  walk_at "rd"
  rw [show Nv (some k)=di k from rfl,if_neg (by rw [Q9];decide),List.length_map]
  refine dG (fun _=>one _) fun q=>?_
  refine ix1 k ?_
  obtain ⟨j,ej⟩:=Nz (h.resolve_left fun z=>q (by omega))
  rw [ej,tv_some]
  exact ⟨rfl,one _⟩
theorem NB {ts:List Str}{K:List Ink} (hz:∀ t∈ts,t.length≤2000) (hl:ts.length≤100) (hr:run ts []=.inr K):jj [.lst (ts.map .str)]=some (.ok (.lst (K.map di))):=by
 refine FQ (x:=fQ (startR [.lst (ts.map .str)] 4)) (ju fun QS hQ=>?_)
 unfold fQ
 rw [show startR [.lst (ts.map PV.str)] 4=[some (.sh (.lst (ts.map PV.str))),none,none,none,none] from rfl]
 walk_at "rd"
 rw [BR]
 refine Ig (fun j ρ=>∃ (ks:List Ink) (v2 v3 v4:Option Sl),ρ=[some (.sh (.lst (ts.map PV.str))),some (.ow (.lst (ks.map di))),v2,v3,v4]∧ks.length=j∧ks.length≤8∧run (ts.drop j) ks=.inr K) ⟨[],none,none,none,rfl,rfl,Za9 _,hr⟩ ?_ ?_
 ·rintro j x ρ hx ⟨ks,v2,v3,v4,rfl,kl,k8,hr⟩
  rw [Zag] at hx
  cases e:ts[j]? with
  | none=>rw [e] at hx;cases hx
  | some t =>
   rw [e] at hx
   cases hx
   obtain ⟨k,ek,e8,en,er⟩:=BZ e hr (by simp)
   exact yC (hz t (Zau e)) ek (by omega) en ⟨ks++[k],_,_,_,rfl,by rw [List.length_append];simp;omega,by rw [List.length_append];simp;omega,er⟩
 ·rintro ρ ⟨ks,v2,v3,v4,rfl,kl,k8,hr⟩
  rw [List.length_map,List.drop_length] at hr
  cases hr
  walk_at "rd"
  unfold qJ
  walk_at "rd"
  exact hQ _ rfl
theorem Io {ts:List Str}{m:Nat} (hz:∀ t∈ts,t.length≤2000) (hl:ts.length≤100) (hr:run ts []=.inl m):jj [.lst (ts.map .str)]=some (.ex (.exc "NoBench" [("row",.int m)])):=by
 have hm:=Ed hr
 simp only [ZaR] at hm
 show qz (fQ (startR [.lst (ts.map .str)] 4))=_
 rw [show fQ (startR [.lst (ts.map .str)] 4)=some (.ex (.exc "NoBench" [("row",.int m)])) from ?_]
 ·rfl
 unfold fQ
 rw [show startR [.lst (ts.map PV.str)] 4=[some (.sh (.lst (ts.map PV.str))),none,none,none,none] from rfl]
 refine rG ?_
 walk_at "rd"
 refine wD (QW ?_)
 walk_at "rd"
 rw [BR]
 have e8:∀ {j:Nat}{ks:List Ink},ks.length=j->run (ts.drop j) ks=.inl m->j≠m - 1->Sum.inl m≠(Sum.inl (ks.length+1):Nat ⊕ List Ink):=fun {j ks} kl _ hj e=>by
  have:=Sum.inl.inj e
  omega
 refine Il (fun j ρ=>∃ (ks:List Ink) (v2 v3 v4:Option Sl),ρ=[some (.sh (.lst (ts.map PV.str))),some (.ow (.lst (ks.map di))),v2,v3,v4]∧ks.length=j∧ks.length≤8∧run (ts.drop j) ks=.inl m) (k:=m - 1) (by rw [List.length_map];omega) ⟨[],none,none,none,rfl,rfl,Za9 _,hr⟩ ?_ ?_
 ·rintro j x ρ hj hx ⟨ks,v2,v3,v4,rfl,kl,k8,hr⟩
  rw [Zag] at hx
  cases e:ts[j]? with
  | none=>rw [e] at hx;cases hx
  | some t =>
   rw [e] at hx
   cases hx
   obtain ⟨k,ek,e9,en,er⟩:=BZ e hr (e8 kl hr (by omega))
   exact yC (hz t (Zau e)) ek (by omega) en ⟨ks++[k],_,_,_,rfl,by rw [List.length_append];simp;omega,by rw [List.length_append];simp;omega,er⟩
 ·rintro x ρ hx ⟨ks,v2,v3,v4,rfl,kl,k8,hr⟩
  rw [Zag] at hx
  cases e:ts[m - 1]? with
  | none=>rw [e] at hx;cases hx
  | some t =>
   rw [e] at hx
   cases hx
   rw [show m - 1+1=m by omega]
   refine Im (hz t (Zau e)) k8 (K9 e ?_)
   rw [hr,kl,show m - 1+1=m by omega]
theorem NK {f g:Fn PV}{ρ:Rho}{p z:PV} (h1:f ρ=some (.ok p)) (h2:g ρ=some (.ex z)):lw (aK f (aK g bO)) ρ=some (.ex z):=by
 unfold lw aK
 simp only [h1,h2,bnd]
theorem Ra {n:Nat}:∀ {zs:List Str},(∀ y∈zs,Okb n y)->(zs.map (·.length)).sum≤zs.length * n
 | [],_=>Za9 _
 | z::zs,hz=>by
  have h1:=(hz z (by simp)).2
  have h2:=Ra (zs:=zs) fun y h=>hz y (by simp [h])
  rw [Zah,Zbg,Zak,Nat.add_mul]
  omega
noncomputable def due:List Str->Nat ⊕ (Str×List Ink)
 | []=>.inl 0
 | r::ts=>match j0 (wds r) with
  | none=>.inl 0
  | some w=>if ts=[] then .inl 1 else match run ts [] with
   | .inl m=>.inl m
   | .inr K=>.inr (w,K)
theorem Rc {r:Str}{ts:List Str} (h:j0 (wds r)=none):due (r::ts)=.inl 0:=by simp only [due,h]
theorem Gr {r w:Str} (h:j0 (wds r)=some w):due [r]=.inl 1:=by simp only [due,h,if_pos]
theorem Cd {r w:Str}{ts:List Str}{m:Nat} (h:j0 (wds r)=some w) (h0:ts≠[]) (hr:run ts []=.inl m):due (r::ts)=.inl m:=by simp only [due,h,if_neg h0,hr]
theorem La {r w:Str}{ts:List Str}{K:List Ink} (h:j0 (wds r)=some w) (h0:ts≠[]) (hr:run ts []=.inr K):due (r::ts)=.inr (w,K):=by simp only [due,h,if_neg h0,hr]
theorem Lb {T r:Str}{ts:List Str}{z:PV} (sp:Txt.split T ⟨#[10]⟩=r::ts) (hT:T.length≤1000000) (hl:ts.length≤49) (hr:r.length≤2000)
  (h:∀ p,Ny (j0 (wds r))=p->bj (du (m1 cF (m2 uH (mVL 2) (mC .non))) jQ cC) fU [some (.sh (.str T)),some (.sh (.lst ((r::ts).map .str))),some (.sh p)]=some (.ex z)):dI [.str T]=some (.ex z):=by
 show fin (fu (startR [.str T] 2))=_
 rw [show fu (startR [.str T] 2)=some (.ex z) from ?_]
 ·rfl
 unfold fu
 rw [show startR [PV.str T] 2=[some (.sh (.str T)),none,none] from rfl]
 refine rG ?_
 walk_at "rd"
 rw [Nt,sp]
 refine ⟨by decide,Zad hT (by decide),Zad (m:=60) (by simp;omega) (by decide),rG ?_⟩
 walk_at "rd"
 rw [yz r hr,tv_some]
 exact h _ rfl
theorem Tw {T r:Str}{ts:List Str} (sp:Txt.split T ⟨#[10]⟩=r::ts) (hT:T.length≤1000000) (hl:ts.length≤49) (hr:r.length≤2000) (h:j0 (wds r)=none):dI [.str T]=some (.ex (.exc "NoBench" [("row",.int 0)])):=by
 refine Lb sp hT hl hr fun p e=>?_
 rw [h] at e
 subst e
 refine wD (Gd ?_)
 walk_at "rd"
 unfold jQ
 refine wF ?_
 walk_at "rd"
 rfl
theorem Rf {T r w:Str} (sp:Txt.split T ⟨#[10]⟩=[r]) (hT:T.length≤1000000) (hr:r.length≤2000) (h:j0 (wds r)=some w):dI [.str T]=some (.ex (.exc "NoBench" [("row",.int 1)])):=by
 refine Lb sp hT (by simp) hr fun p e=>?_
 rw [h] at e
 subst e
 refine rG ?_
 walk_at "rd"
 unfold fU
 refine wD (Gd ?_)
 walk_at "rd"
 unfold pO
 refine wF ?_
 walk_at "rd"
 rfl
theorem Tz (r:Str) (ts:List Str):o7 (PV.str r::ts.map PV.str) (some 1) none=ts.map PV.str:=by
 have c1:=uy PV.str (r::ts) 1 (by simp)
 rw [show ((1:Nat):Int)=1 from rfl,List.drop_succ_cons,Za3,Zah] at c1
 exact c1
theorem NP {T r w:Str}{ts:List Str}{m:Nat} (sp:Txt.split T ⟨#[10]⟩=r::ts) (hT:T.length≤1000000) (hl:ts.length≤49) (hr:r.length≤2000) (ht:∀ t∈ts,t.length≤2000) (h:j0 (wds r)=some w) (h0:ts≠[]) (hm:run ts []=.inl m):dI [.str T]=some (.ex (.exc "NoBench" [("row",.int m)])):=by
 have l0:0 < ts.length:=Za1.mpr h0
 refine Lb sp hT hl hr fun p e=>?_
 rw [h] at e
 subst e
 refine rG ?_
 walk_at "rd"
 rw [show Ny (some w)=.str w from rfl]
 walk_at "rd"
 unfold fU
 refine rG ?_
 walk_at "rd"
 rw [List.length_map,if_neg (by omega)]
 unfold jR
 refine QZ (NK rfl (Ge ?_))
 walk_at "rd"
 rw [Tz]
 exact Io ht (by omega) hm
theorem TF {T r w:Str}{ts:List Str}{K:List Ink} (sp:Txt.split T ⟨#[10]⟩=r::ts) (hT:T.length≤1000000) (hl:ts.length≤49) (hr:r.length≤2000) (ht:∀ t∈ts,t.length≤2000) (h:j0 (wds r)=some w) (h0:ts≠[]) (hm:run ts []=.inr K):dI [.str T]=some (.ok (fH w K)):=by
 have l0:0 < ts.length:=Za1.mpr h0
 refine iM (x:=fu (startR [.str T] 2)) (ju fun QS hQ=>?_)
 unfold fu
 rw [show startR [PV.str T] 2=[some (.sh (.str T)),none,none] from rfl]
 walk_at "rd"
 rw [Nt,sp]
 refine ⟨by decide,Zad hT (by decide),Zad (m:=60) (by simp;omega) (by decide),_,atI_0,?_⟩
 rw [yz r hr,tv_some,h,show Ny (some w)=.str w from rfl]
 walk_at "rd"
 unfold fU
 walk_at "rd"
 rw [List.length_map,if_neg (by omega)]
 unfold jR
 walk_at "rd"
 rw [Tz,NB ht (by omega) hm,tv_some]
 exact ⟨by decide,hQ _ rfl⟩
theorem Gs {rs:List Str} (h0:rs≠[]):∃ r ts,rs=r::ts∧((j0 (wds r)=none∧due rs=.inl 0)∨∃ w,j0 (wds r)=some w∧((ts=[]∧due rs=.inl 1)∨(ts≠[]∧((∃ m,run ts []=.inl m∧due rs=.inl m)∨∃ K,run ts []=.inr K∧due rs=.inr (w,K))))):=by
 match rs,h0 with
 | r::ts,_ =>
  refine ⟨r,ts,rfl,?_⟩
  cases e:j0 (wds r) with
  | none=>exact .inl ⟨rfl,Rc e⟩
  | some w =>
   refine .inr ⟨w,rfl,?_⟩
   by_cases h:ts=[]
   ·subst h;exact .inl ⟨rfl,Gr e⟩
   ·refine .inr ⟨h,?_⟩
    cases er:run ts [] with
    | inl m=>exact .inl ⟨m,rfl,Cd e h er⟩
    | inr K=>exact .inr ⟨K,rfl,La e h er⟩
theorem Ip {rs:List Str} (h0:rs≠[]) (hl:rs.length≤50) (hz:∀ y∈rs,Okb 2000 y):dI [.str (Txt.join ⟨#[10]⟩ rs)]=some (match due rs with
  | .inl m=>.ex (.exc "NoBench" [("row",.int m)])
  | .inr (w,K)=>.ok (fH w K)):=by
 have sp:=DQ 10 (by decide) rs h0 fun y hy=>(hz y hy).1
 have jl:=wC 10 rs
 have sl:=Ra hz
 generalize Txt.join ⟨#[10]⟩ rs=T at sp jl ⊢
 have hT:T.length≤1000000:=by omega
 obtain ⟨r,ts,rfl,h⟩:=Gs h0
 have hr:r.length≤2000:=(hz r (by simp)).2
 have ht:∀ t∈ts,t.length≤2000:=fun t h=>(hz t (by simp [h])).2
 have hl:ts.length≤49:=by simp at hl;omega
 rcases h with ⟨h,ed⟩ | ⟨w,h,h2⟩
 ·rw [ed];exact Tw sp hT hl hr h
 ·rcases h2 with ⟨rfl,ed⟩ | ⟨t0,⟨m,e,ed⟩ | ⟨K,e,ed⟩⟩
  ·rw [ed];exact Rf sp hT hr h
  ·rw [ed];exact NP sp hT hl hr ht h t0 e
  ·rw [ed];exact TF sp hT hl hr ht h t0 e
theorem NQ {E:List Str}{t:Str}{ks:List Ink}{n:Nat}{v1 v4:Option Sl}{Q:Rho->Prop}{QS:Out->Prop} (gE:atI (E.map PV.str) (n:Int)=some (.str t)) (hz:t.length≤2000) (hk:n=ks.length+1) (h8:ks.length≤8)
  (go:∀ k,jZ (wds t)=some k->ks.length≠8->k.name ∉ ks.map Ink.name->Q [some (.sh (.lst (E.map .str))),v1,some (.ow (.lst ((ks++[k]).map di))),some (.sh (.int n)),some (.sh (di k))])
  (st:(jZ (wds t)=none∨∃ k,jZ (wds t)=some k∧(ks.length=8∨k.name∈ks.map Ink.name))->QS (.rt (.tup [.non,.int n]))) :
  To (lL [some (.sh (.lst (E.map .str))),v1,some (.ow (.lst (ks.map di))),some (.sh (.int n)),v4]) (turn Q QS):=by
 have big:∀ {n:Nat},n≤6000->n≤sizeLine:=fun h=>Zad h (by decide)
 have wl:=lq t
 unfold lL
 walk_at "rd"
 refine ⟨_,gE,?_⟩
 walk_at "rd"
 rw [spS,show Txt.split t ⟨#[32]⟩=wds t from rfl,List.length_map,wR di (fun _=>true) (fun k=>PV.str k.name) ks fun k _=>⟨_,rfl,rfl,fun _=>FT (by
  walk_at "rd"
  exact ix1 k rfl)⟩,tv_some,List.filter_eq_self.mpr (fun _ _=>rfl)]
 refine ⟨by decide,big (by omega),big (by omega),big (by omega),?_⟩
 rw [show (ks.map fun k=>PV.str k.name)=(ks.map Ink.name).map PV.str by rw [ZaU];rfl,zQ (wds t) (ks.map Ink.name) (fun w h=>Zad (qw h) hz) (by omega) (wW t),tv_some]
 have two:∀ (p:PV) {R:Rho->Prop},(jZ (wds t)=none∨∃ k,jZ (wds t)=some k∧(ks.length=8∨k.name∈ks.map Ink.name))->To (lK [some (.sh (.lst (E.map .str))),v1,some (.ow (.lst (ks.map di))),some (.sh (.int n)),some (.sh p)]) (qD R (turn Q QS)):=fun p R h=>by
  unfold lK
  walk_at "rd"
  exact ⟨by decide,st h⟩
 unfold BW
 cases e:jZ (wds t) with
 | none =>
  simp only
  rw [if_pos (show PV.non.ji=true from rfl)]
  exact two _ (.inl e)
 | some k =>
  simp only
  by_cases hn:k.name∈ks.map Ink.name
  ·rw [if_pos hn,if_pos (show PV.non.ji=true from rfl)]
   exact two _ (.inr ⟨k,e,.inr hn⟩)
  ·rw [if_neg hn,if_neg (by rw [Q9];decide)]
   refine dG (fun q=>two _ (.inr ⟨k,e,.inl (by omega)⟩)) fun q=>?_
   unfold qP
   walk_at "rd"
   refine ⟨by rw [List.length_map];exact dg (by omega),?_⟩
   have:=go k e (by omega) hn
   rw [Zan] at this
   exact this
theorem NT {r w:Str}{ts:List Str} (ht:∀ t∈ts,t.length≤2000) (hl:ts.length≤49) {QS:Out->Prop} (h0:ts=[]->QS (.rt (.tup [.non,.int 1]))) (h1:∀ m,ts≠[]->run ts []=.inl m->QS (.rt (.tup [.non,.int m]))) (h2:∀ K,ts≠[]->run ts []=.inr K->QS (.rt (.tup [fH w K,.non]))) :
  To (je [some (.sh (.lst ((r::ts).map PV.str))),some (.sh (.lst [.str zR,.str w])),none,none,none]) QS:=by
 generalize hE:r::ts=E
 have lE:E.length=ts.length+1:=by rw [←hE];rfl
 unfold je
 walk_at "rd"
 rw [List.length_map]
 refine ⟨by omega,by omega,by omega,by omega,?_⟩
 refine fD (fun i ρ=>∃ (ks:List Ink) (v3 v4:Option Sl),ρ=[some (.sh (.lst (E.map PV.str))),some (.sh (.lst [.str zR,.str w])),some (.ow (.lst (ks.map di))),v3,v4]∧ks.length=i∧ks.length≤8∧run (ts.drop i) ks=run ts []) ⟨[],none,none,rfl,rfl,Za9 _,rfl⟩ ?_ ?_
 ·rintro i x ρ hx ⟨ks,v3,v4,rfl,kl,k8,hr⟩
  obtain ⟨hi,rfl⟩:=tZ hx
  have hi:i < ts.length:=by omega
  have g:ts[i]?=some ts[i]:=Zac hi
  have gE:atI (E.map PV.str) ((1+i:Nat):Int)=some (.str ts[i]):=by
   refine lg ?_
   rw [←hE,show 1+i=i+1 by omega,List.getElem?_cons_succ]
   exact g
  rw [show (1:Int)+(i:Int)=((1+i:Nat):Int) by omega]
  refine NQ gE (ht _ (List.getElem_mem hi)) (by omega) k8 (fun k ek e8 en=>?_) fun st=>?_
  ·refine ⟨ks++[k],_,_,rfl,by rw [List.length_append];simp;omega,by rw [List.length_append];simp;omega,?_⟩
   rw [←hr,ZaH hi,run,ek]
   simp only
   rw [if_neg fun z=>z.elim e8 en]
  ·have em:run ts []=.inl (1+i):=by
    rw [←hr,ZaH hi,run]
    rcases st with e | ⟨k,e,h⟩
    ·rw [e];simp only;congr 1;omega
    ·rw [e];simp only;rw [if_pos h];congr 1;omega
   exact h1 _ (fun z=>by rw [z] at hi;cases hi) em
 ·rintro ρ ⟨ks,v3,v4,rfl,kl,k8,hr⟩
  rw [dJ] at hr kl
  rw [ZbD (by omega)] at hr
  have hr:run ts []=.inr ks:=hr.symm
  have kl:ks.length=ts.length:=by omega
  rw [onNx_nx]
  unfold qT
  walk_at "rd"
  have en:eqF 32 (.lst (ks.map di)) (.lst [])=some (decide (ks=[])):=by cases ks <;> rfl
  refine ⟨_,en,?_⟩
  by_cases hk:ks=[]
  ·rw [decide_eq_true hk,if_pos rfl]
   subst hk
   unfold qQ
   walk_at "rd"
   exact ⟨by decide,h0 (List.eq_nil_of_length_eq_zero kl.symm)⟩
  ·rw [decide_eq_false hk,if_neg (by decide)]
   unfold qR
   rw [to_frz,show yW 2 [some (Sl.sh (.lst (E.map .str))),some (.sh (.lst [.str zR,.str w])),some (.ow (.lst (ks.map di))),v3,v4]=[some (Sl.sh (.lst (E.map .str))),some (.sh (.lst [.str zR,.str w])),some (.sh (.lst (ks.map di))),v3,v4] from rfl]
   walk_at "rd"
   exact ⟨by decide,by decide,h2 ks (fun z=>hk (List.eq_nil_of_length_eq_zero (by rw [kl,z];rfl))) hr⟩
theorem Ld {E:List Str}{r:Str} (gE:atI (E.map PV.str) 0=some (.str r)) (hr:r.length≤2000) {QS:Out->Prop} (hQ:QS (.rt (.tup [.non,.int 0]))) (h:j0 (wds r)=none):To (fW [some (.sh (.lst (E.map PV.str))),none,none,none,none]) QS:=by
 have big:∀ {n:Nat},n≤6000->n≤sizeLine:=fun h=>Zad h (by decide)
 have wl:=lq r
 have hw:∀ w∈wds r,w.length≤2000:=fun w h=>Zad (qw h) hr
 have one:∀ {v1 v2 v3 v4:Option Sl}{R:Rho->Prop},To (lJ [some (.sh (.lst (E.map PV.str))),v1,v2,v3,v4]) (qD R QS):=by
  intro v1 v2 v3 v4 R
  unfold lJ
  walk_at "rd"
  exact ⟨by decide,hQ⟩
 unfold fW
 walk_at "rd"
 refine ⟨_,gE,?_⟩
 walk_at "rd"
 rw [spS,show Txt.split r ⟨#[32]⟩=wds r from rfl,List.length_map]
 generalize wds r=ws at *
 refine ⟨by decide,big (by omega),big (by omega),dG (fun _=>one) fun q=>?_⟩
 match ws,(show ws.length=2 by omega) with
 | [a,b],_ =>
  refine ⟨_,atI_0,_,eqF_str 31 a _,?_⟩
  by_cases ea:a=Str.ofString "paper"
  ·rw [decide_eq_true ea,if_neg (by decide)]
   refine ⟨_,lg (i:=1) rfl,?_⟩
   rw [rQ b (big (Zad (hw b (by simp)) (by decide)))]
   walk_at "rd"
   cases hb:cu b with
   | false=>exact one
   | true=>exact absurd h (by rw [show j0 [a,b]=some b from if_pos ⟨ea,hb⟩];simp)
  ·rw [decide_eq_false ea,if_pos rfl]
   exact one
theorem Ir {E:List Str}{r w:Str} (gE:atI (E.map PV.str) 0=some (.str r)) (hr:r.length≤2000) {QS:Out->Prop} (h:j0 (wds r)=some w)
  (hQ:To (je [some (.sh (.lst (E.map PV.str))),some (.sh (.lst [.str zR,.str w])),none,none,none]) QS):To (fW [some (.sh (.lst (E.map PV.str))),none,none,none,none]) QS:=by
 have big:∀ {n:Nat},n≤6000->n≤sizeLine:=fun h=>Zad h (by decide)
 have wl:=lq r
 have hw:∀ w∈wds r,w.length≤2000:=fun w h=>Zad (qw h) hr
 unfold fW
 walk_at "rd"
 refine ⟨_,gE,?_⟩
 walk_at "rd"
 rw [spS,show Txt.split r ⟨#[32]⟩=wds r from rfl,List.length_map]
 generalize wds r=ws at *
 refine ⟨by decide,big (by omega),big (by omega),?_⟩
 have l2:ws.length=2:=Classical.byContradiction fun z=>by rw [BX z] at h;cases h
 match ws,l2 with
 | [a,b],_ =>
  by_cases q:a=zR∧cu b=true
  ·rw [show j0 [a,b]=some b from if_pos q] at h
   obtain ⟨rfl,hb⟩:=q
   cases h
   rw [if_neg (by simp)]
   refine ⟨_,atI_0,_,eqF_str 31 zR _,?_⟩
   rw [decide_eq_true (show zR=Str.ofString "paper" from rfl),if_neg (by decide)]
   refine ⟨_,lg (i:=1) rfl,?_⟩
   rw [rQ w (big (Zad (hw w (by simp)) (by decide))),hb]
   walk_at "rd"
   exact hQ
  ·rw [show j0 [a,b]=none from if_neg q] at h
   cases h
theorem Le {rs:List Str} (h0:rs≠[]) (hl:rs.length≤50) (hz:∀ y∈rs,Okb 2000 y):kZ [.lst (rs.map .str)]=some (.ok (match due rs with
  | .inl m=>.tup [.non,.int m]
  | .inr (w,K)=>.tup [fH w K,.non])):=by
 refine iM (x:=fW (startR [.lst (rs.map .str)] 4)) (ju fun QS hQ=>?_)
 rw [show startR [.lst (rs.map PV.str)] 4=[some (.sh (.lst (rs.map PV.str))),none,none,none,none] from rfl]
 obtain ⟨r,ts,rfl,h⟩:=Gs h0
 have hr:r.length≤2000:=(hz r (by simp)).2
 have ht:∀ t∈ts,t.length≤2000:=fun t h=>(hz t (by simp [h])).2
 have hl:ts.length≤49:=by simp at hl;omega
 rcases h with ⟨h,ed⟩ | ⟨w,h,h2⟩
 ·rw [ed] at hQ;exact Ld (E:=r::ts) atI_0 hr (hQ _ rfl) h
 ·refine Ir (E:=r::ts) atI_0 hr h (NT ht hl (fun e=>hQ _ ?_) (fun m e er=>hQ _ ?_) fun K e er=>hQ _ ?_)
  ·subst e;rw [Gr h];rfl
  ·rw [Cd h e er];rfl
  ·rw [La h e er];rfl
theorem mO (x:Int) {m:Nat} (h:0 < m):∃ k:Nat,x % (m:Int)=(k:Int)∧k < m:=by
 have h0:=Zaw x (show (m:Int)≠0 by omega)
 have h1:=Zav x (show (0:Int) < (m:Int) by omega)
 exact ⟨(x % (m:Int)).toNat,by omega,by omega⟩
theorem mQ {zs:List Str}{k:Nat} (hk:k < zs.length):atI (zs.map PV.str) (k:Int)=some (.str (zs.getD k ⟨#[]⟩)):=by
 rw [FZ,Ga (by omega) (show zs[((k:Int)).toNat]?=some zs[k] from by rw [Int.toNat_natCast];exact Zac hk)]
 rw [ZaD,Zac hk];rfl
theorem mR {zs:List Str}{k:Nat} (hk:k < zs.length):zs.getD k ⟨#[]⟩∈zs:=by
 rw [ZaD,Zac hk];exact List.getElem_mem hk
theorem Ef (c t:Int) (t0:0≤t) (t1:t≤10):∃ n:Int,gr [.int c,.int t]=some (.ok (.int n)):=by
 suffices h:∃ p,gr [.int c,.int t]=some (.ok p)∧∃ n:Int,p=.int n by
  obtain ⟨p,e,n,rfl⟩:=h
  exact ⟨n,e⟩
 refine uv (x:=jc (startR [.int c,.int t] 1)) (ju fun QS hQ=>?_)
 unfold jc
 rw [show startR [PV.int c,.int t] 1=[some (.sh (.int c)),some (.sh (.int t)),none] from rfl]
 walk_at "rd"
 refine ⟨by decide,by decide,by decide,dG (fun h=>?_) fun h=>?_⟩
 ·unfold oE
  walk_at "rd"
  exact hQ _ ⟨_,rfl,c,rfl⟩
 ·unfold oH
  walk_at "rd"
  refine ⟨.inl ⟨by decide,by decide⟩,by omega,by omega,?_⟩
  refine fD (fun i ρ=>∃ (z:Int) (v2:Option Sl),ρ=[some (.sh (.int z)),some (.sh (.int t)),v2]) ⟨c,none,rfl⟩ ?_ ?_
  ·rintro i x ρ hx ⟨z,v2,rfl⟩
   unfold oF
   walk_at "rd"
   exact ⟨by decide,by decide,by decide,by decide,by decide +kernel,_,_,rfl⟩
  ·rintro ρ ⟨z,v2,rfl⟩
   unfold oG
   walk_at "rd"
   exact ⟨by decide,by decide,by decide,hQ _ ⟨_,rfl,_,rfl⟩⟩
theorem wY:∀ (ws:List Str) (k:Nat) (x:Str),((ws.set k x).map (·.length)).sum≤(ws.map (·.length)).sum+x.length
 | [],k,x=>by simp
 | w::ws,0,x=>by simp;omega
 | w::ws,k+1,x=>by
  have:=wY ws k x
  simp at this ⊢
  omega
theorem zT (ws:List Str) (k:Nat):((ws.take k).map (·.length)).sum+((ws.drop k).map (·.length)).sum=(ws.map (·.length)).sum:=by
 rw [←List.sum_append,←Zan,ZaL]
theorem Iu (ws:List Str) (k:Nat):((ws.drop (k+1)).map (·.length)).sum≤((ws.drop k).map (·.length)).sum:=by
 have:=zT (ws.drop k) 1
 rw [List.drop_drop] at this
 omega
structure Ww (n:Nat) (ws:List Str):Prop where
 no:∀ w∈ws,10 ∉ w.cps.toList
 le:(ws.map (·.length)).sum+ws.length≤2 * n+2
theorem Rg {n k:Nat} (h:k < n):ixN n (k:Int)=some k:=by
 have:=P0 (n:=n) (i:=(k:Int)) (by omega) (by omega)
 simpa using this
noncomputable def wZ:List Str:=[Str.ofString "",Str.ofString "paper",Str.ofString "cover",Str.ofString "glaze",Str.ofString "Abc",Str.ofString "abcdefghi",Str.ofString "abcdefgh",Str.ofString "a\tb",Str.ofString "a1",Str.ofString "aB",Str.ofString "1",Str.ofString "covers",Str.ofString "z-z"]
theorem Iv:∀ w∈wZ,10 ∉ w.cps.toList∧w.length≤9:=by decide +kernel
theorem Iw {rs:List Str}{n:Nat} (h0:rs≠[]) (hl:rs.length≤1000) (hz:∀ y∈rs,Okb n y) (hn:9≤n) (hn2:n≤900) (ns:List Int) (h8:ns.length=8):∃ w:Str,iR [.lst (rs.map .str),.lst (ns.map .int)]=some (.ok (.str w))∧Okb n w:=by
 suffices h:∃ p,iR [.lst (rs.map .str),.lst (ns.map .int)]=some (.ok p)∧∃ w:Str,p=.str w∧Okb n w by
  obtain ⟨p,e,w,rfl,h⟩:=h
  exact ⟨w,e,h⟩
 have at1:∀ i:Int,0≤i->i < 8->atI (ns.map PV.int) i=some (.int (ns.getD i.toNat 0)):=fun i h0 h1=>gK h0 (by omega)
 refine uv (x:=nZ (startR [.lst (rs.map .str),.lst (ns.map .int)] 2)) (ju fun QS hQ=>?_)
 unfold nZ
 rw [show startR [PV.lst (rs.map .str),.lst (ns.map .int)] 2=[some (.sh (.lst (rs.map .str))),some (.sh (.lst (ns.map .int))),none,none] from rfl]
 walk_at "rd"
 have r0:0 < rs.length:=Za1.mpr h0
 refine ⟨_,at1 4 (by decide) (by decide),?_⟩
 walk_at "rd"
 rw [List.length_map]
 obtain ⟨k,ek,hk⟩:=mO (ns.getD 4 0) r0
 rw [ek]
 refine ⟨by omega,_,mQ hk,?_⟩
 have oz:=hz _ (mR hk)
 generalize rs.getD k ⟨#[]⟩=z at oz
 walk_at "rd"
 rw [spS,show Txt.split z ⟨#[32]⟩=wds z from rfl]
 have wl:=lq z
 have z2:=oz.2
 have big:∀ {n:Nat},n≤6000->n≤sizeLine:=fun h=>Zad h (by decide)
 refine ⟨rfl,big (by omega),big (by omega),by decide,_,at1 6 (by decide) (by decide),?_⟩
 rw [show [PV.str (Str.ofString ""),PV.str (Str.ofString "paper"),PV.str (Str.ofString "cover"),PV.str (Str.ofString "glaze"),PV.str (Str.ofString "Abc"),PV.str (Str.ofString "abcdefghi"),PV.str (Str.ofString "abcdefgh"),PV.str (Str.ofString "a\tb"),PV.str (Str.ofString "a1"),PV.str (Str.ofString "aB"),PV.str (Str.ofString "1"),PV.str (Str.ofString "covers"),PV.str (Str.ofString "z-z")]=wZ.map PV.str from rfl]
 generalize hO:wZ.map PV.str=O
 walk_at "rd"
 refine ⟨by decide,dG (fun h=>?_) fun h=>?_⟩
 ·unfold tX
  walk_at "rd"
  refine ⟨_,at1 5 (by decide) (by decide),?_⟩
  walk_at "rd"
  rw [List.length_map]
  have w0:0 < (wds z).length:=Za1.mpr (wW z)
  obtain ⟨j,ej,hj⟩:=mO (ns.getD 5 0) w0
  rw [ej]
  refine ⟨by omega,_,mQ hj,?_⟩
  exact hQ _ ⟨_,rfl,_,rfl,oz.word (mR hj)⟩
 ·unfold tY
  walk_at "rd"
  refine ⟨_,at1 6 (by decide) (by decide),?_⟩
  walk_at "rd"
  obtain ⟨j,ej,hj⟩:=mO (ns.getD 6 0 / 2) (show 0 < wZ.length by decide)
  rw [show (13:Int)=((wZ.length:Nat):Int) from rfl,ej,←hO]
  refine ⟨by decide,by decide,by decide,_,mQ hj,?_⟩
  have q:=Iv _ (mR hj)
  exact hQ _ ⟨_,rfl,_,rfl,q.1,by omega⟩
noncomputable def lts:Str:=Str.ofString "qzjxvkwyp"
theorem NZ:lts.length=9:=by decide +kernel
theorem Eg {k:Nat} (hk:k < 9):∃ c,atI lts.cps.toList (k:Int)=some c∧c≠10:=by
 rcases (show k=0∨k=1∨k=2∨k=3∨k=4∨k=5∨k=6∨k=7∨k=8 by omega) with rfl | rfl | rfl | rfl | rfl | rfl | rfl | rfl | rfl <;> exact ⟨_,rfl,by decide⟩
theorem Okb.one {c:Nat} (h:c≠10):Okb 1 ⟨#[c]⟩:=⟨fun q=>h (by simpa using q:10=c).symm,Zaf _⟩
theorem Okb.add {a b:Nat}{x y:Str} (h:Okb a x) (h2:Okb b y):Okb (a+b) (x++y):=by
 refine ⟨fun q=>?_,?_⟩
 ·have q:10∈(x.cps++y.cps).toList:=q
  rw [Zbx] at q
  exact (Zae.mp q).elim h.1 h2.1
 ·show (x.cps++y.cps).size≤_
  rw [Array.size_append]
  exact Nat.add_le_add h.2 h2.2
theorem N5:Okb 6 (Str.ofString "cover "):=by constructor <;> decide +kernel
theorem N6:Okb 2 (Str.ofString "zz"):=by constructor <;> decide +kernel
theorem TJ:Okb 4 (Str.ofString "zzz "):=by constructor <;> decide +kernel
theorem N7:Okb 14 (Str.ofString "glaze zzqzzqz "):=by constructor <;> decide +kernel
theorem Rh:Okb 7 (Str.ofString " a b b "):=by constructor <;> decide +kernel
theorem Ug:Okb 2 (Str.ofString " a"):=by constructor <;> decide +kernel
theorem Uh:Okb 5 (Str.ofString "glaze"):=by constructor <;> decide +kernel
theorem Ui:Okb 7 (Str.ofString "zzqzzqz"):=by constructor <;> decide +kernel
theorem Ri {i:Nat}{fi fe:Fn PV}{ρ:Rho}{l:List PV}{QS:Out->Prop} (h:ρ[i]?=some (some (.ow (.lst l)))) (q:Tv (fi ρ) fun k=>∃ n,k=.int n∧Tv (fe ρ) fun p=>0≤n∧n < 2 ^ 62∧l.length < sizeLine∧QS (.nx (ρ.set i (some (.ow (.lst (l.take n.toNat++p::l.drop n.toNat))))))):To (Kg i fi fe ρ) QS:=by
 have ho:ownAt i ρ=some (.lst l):=by unfold ownAt;rw [h]
 unfold Kg
 rw [ho]
 simp only [to_bnd]
 obtain ⟨k,e,q⟩:=q
 refine ⟨k,e,?_⟩
 obtain ⟨n,rfl,q⟩:=q
 simp only [to_bnd]
 obtain ⟨p,e2,h1,h2,h3,q⟩:=q
 refine ⟨p,e2,?_⟩
 show To (if _ then _ else _) QS
 rw [if_pos ⟨h1,h2,h3⟩,to_nx]
 exact q
theorem N8 {rs:List Str}{n:Nat} (h0:rs≠[]) (hl:rs.length≤12) (hz:∀ y∈rs,Okb n y) (hn:100≤n) (hn2:n≤900) (y:Int) (ns:List Int) (h8:ns.length=8):∃ zs:List Str,gw [.lst (rs.map .str),.int y,.lst (ns.map .int)]=some (.ok (.lst (zs.map .str)))∧zs≠[]∧zs.length≤30∧∀ y∈zs,Okb n y:=by
 suffices h:∃ p,gw [.lst (rs.map .str),.int y,.lst (ns.map .int)]=some (.ok p)∧∃ zs:List Str,p=.lst (zs.map .str)∧zs≠[]∧zs.length≤30∧∀ y∈zs,Okb n y by
  obtain ⟨p,e,w,rfl,h⟩:=h
  exact ⟨w,e,h⟩
 have big:∀ {n:Nat},n≤6000->n≤sizeLine:=fun h=>Zad h (by decide)
 have at1:∀ i:Int,0≤i->i < 8->atI (ns.map PV.int) i=some (.int (ns.getD i.toNat 0)):=fun i h0 h1=>gK h0 (by omega)
 have lt:∀ x:Int,∃ c,atI lts.cps.toList (x % 9)=some c∧c≠10:=fun x=>by
  obtain ⟨k,ek,hk⟩:=mO x (show 0 < 9 by decide)
  rw [show x % 9=(k:Int) from ek]
  exact Eg hk
 have r0:0 < rs.length:=Za1.mpr h0
 have ll:lts.length≤sizeLine:=by rw [NZ];decide
 obtain ⟨c4,e4,g4⟩:=lt (ns.getD 4 0)
 refine u9 (x:=jd (startR [.lst (rs.map .str),.int y,.lst (ns.map .int)] 5)) (ju fun QS hQ=>?_)
 have snoc:∀ {zs:List Str}{w:Str},(∀ y∈zs,Okb n y)->Okb n w->∀ y∈zs++[w],Okb n y:=fun {zs w} h1 h2 y hy=>by
  rcases Zae.mp hy with q | q
  ·exact h1 y q
  ·rw [ZaF.mp q];exact h2
 have seven:∀ (v5 v6 v7:Option Sl) (zs:List Str),zs≠[]->zs.length≤30->(∀ y∈zs,Okb n y)->To (jo [some (.sh (.lst (rs.map .str))),some (.sh (.int y)),some (.sh (.lst (ns.map .int))),some (.sh (.str lts)),some (.ow (.lst (zs.map .str))),v5,v6,v7]) QS:=fun v5 v6 v7 zs q1 q2 q3=>by
  unfold jo
  walk_at "rd"
  exact hQ _ ⟨_,rfl,zs,rfl,q1,q2,q3⟩
 have eight:∀ (v5 v6 v7:Option Sl) (zs:List Str),zs≠[]->zs.length≤29->(∀ y∈zs,Okb n y)->To (jq [some (.sh (.lst (rs.map .str))),some (.sh (.int y)),some (.sh (.lst (ns.map .int))),some (.sh (.str lts)),some (.ow (.lst (zs.map .str))),v5,v6,v7]) QS:=fun v5 v6 v7 zs q1 q2 q3=>by
  unfold jq
  walk_at "rd"
  refine dG (fun e=>?_) fun e=>seven v5 v6 v7 zs q1 (by omega) q3
  unfold oZ
  walk_at "rd"
  refine ⟨_,at1 4 (by decide) (by decide),_,at1 5 (by decide) (by decide),?_⟩
  walk_at "rd"
  obtain ⟨c,ec,gc⟩:=lt (ns.getD 4 0+ns.getD 5 0 % 2)
  refine ⟨by decide,by decide,ll,c,ec,_,at1 4 (by decide) (by decide),?_⟩
  walk_at "rd"
  have w:=(((N7.add (.one g4)).add Rh).add (.one gc)).add Ug
  have w3:=((N7.add (.one g4)).add Rh).add (.one gc)
  have w2:=(N7.add (.one g4)).add Rh
  have w1:=N7.add (.one g4)
  refine ⟨by decide,ll,c4,e4,big (Zad w1.2 (by decide)),big (Zad w2.2 (by decide)),big (Zad w3.2 (by decide)),big (Zad w.2 (by decide)),by rw [List.length_map];exact dg (by omega),?_⟩
  have:=seven v5 v6 (some (.sh (.str ⟨#[c]⟩))) _ (by simp) (by rw [List.length_append];simp;omega) (snoc q3 (w.mono (by omega)))
  exact this
 have nine:∀ (v5 v6 v7:Option Sl) (zs:List Str),zs≠[]->zs.length≤28->(∀ y∈zs,Okb n y)->To (jr [some (.sh (.lst (rs.map .str))),some (.sh (.int y)),some (.sh (.lst (ns.map .int))),some (.sh (.str lts)),some (.ow (.lst (zs.map .str))),v5,v6,v7]) QS:=fun v5 v6 v7 zs q1 q2 q3=>by
  unfold jr
  walk_at "rd"
  refine dG (fun e=>?_) fun e=>eight v5 v6 v7 zs q1 (by omega) q3
  unfold oY
  walk_at "rd"
  refine ⟨by decide,_,at1 3 (by decide) (by decide),?_⟩
  walk_at "rd"
  obtain ⟨m,em,hm⟩:=mO (ns.getD 3 0) (show 0 < 2 by decide)
  rw [show ns.getD 3 0 % 2=(m:Int) from em]
  obtain ⟨c5,e5,g5⟩:=lt (ns.getD 5 0)
  refine ⟨by decide,by omega,by omega,?_⟩
  refine fD (fun i ρ=>∃ (ws:List Str) (v5:Option Sl),ρ=[some (.sh (.lst (rs.map .str))),some (.sh (.int y)),some (.sh (.lst (ns.map .int))),some (.sh (.str lts)),some (.ow (.lst (zs.map .str))),v5,some (.sh (.lst (ws.map .str))),v7]∧(∀ w∈ws,10 ∉ w.cps.toList)∧ws.length=2+2 * i∧(ws.map (·.length)).sum≤12+3 * i) ⟨[Str.ofString "glaze",Str.ofString "zzqzzqz"],v5,rfl,fun w hw=>?_,rfl,by decide +kernel⟩ ?_ ?_
  ·rcases Zao.mp hw with q | q
   ·rw [q];exact Uh.1
   ·rw [ZaF.mp q];exact Ui.1
  ·rintro i x ρ hx ⟨ws,v5,rfl,hw,wl,wsum⟩
   obtain ⟨hi,rfl⟩:=tZ hx
   have hi:i < 9:=by omega
   rw [show (0:Int)+(i:Int)=(i:Int) by omega]
   obtain ⟨ci,ei,gi⟩:=Eg hi
   have w1:=(Okb.one gi).add (.one g4)
   unfold oW
   walk_at "rd"
   refine ⟨ll,ci,ei,_,at1 4 (by decide) (by decide),?_⟩
   walk_at "rd"
   refine ⟨by decide,ll,c4,e4,big (Zad w1.2 (by decide)),_,at1 5 (by decide) (by decide),?_⟩
   walk_at "rd"
   refine ⟨by decide,ll,c5,e5,by decide,by rw [List.length_map];exact big (by omega),ws++[⟨#[ci]⟩++⟨#[c4]⟩,⟨#[c5]⟩],_,by rw [Zan];rfl,fun w hw'=>?_,by rw [List.length_append];simp;omega,?_⟩
   ·rcases Zae.mp hw' with q | q
    ·exact hw w q
    ·rcases Zao.mp q with q | q
     ·rw [q];exact w1.1
     ·rw [ZaF.mp q];exact (Okb.one g5).1
   ·have:=w1.2
    have h5:(⟨#[c5]⟩:Str).length=1:=rfl
    rw [Zan,List.sum_append]
    simp only [Zah,List.map_nil,Zbg,List.sum_nil]
    omega
  ·rintro ρ ⟨ws,v5,rfl,hw,wl,wsum⟩
   rw [dJ] at wl wsum
   walk_at "rd"
   unfold oX
   refine Ri rfl ?_
   walk_at "rd"
   refine ⟨_,at1 1 (by decide) (by decide),?_⟩
   walk_at "rd"
   rw [List.length_map]
   obtain ⟨j,ej,hj⟩:=mO (ns.getD 1 0) r0
   rw [ej,iT]
   have jl:=Okb.join (n:=61) hw (by omega)
   rw [spS]
   refine ⟨by omega,_,rfl,?_,by omega,by omega,by rw [List.length_map];exact dg (by omega),?_⟩
   ·show _+ws.length * 1≤_
    omega
   ·generalize Txt.join ⟨#[32]⟩ ws=J at jl
    generalize (1+(j:Int)).toNat=q
    have:=eight v5 (some (.sh (.lst (ws.map .str)))) v7 (zs.take q++J::zs.drop q) (by simp) (by rw [List.length_append,Zak,Zat,ZaB];omega) fun y hy=>?_
    ·rw [Zan,Zah,List.map_take,List.map_drop] at this
     exact this
    ·rcases Zae.mp hy with z | z
     ·exact q3 y (Zaz z)
     ·rcases Zao.mp z with z | z
      ·rw [z];exact jl.mono (by omega)
      ·exact q3 y (ZaJ z)
 unfold jd
 rw [show startR [.lst (rs.map PV.str),.int y,.lst (ns.map .int)] 5=[some (.sh (.lst (rs.map .str))),some (.sh (.int y)),some (.sh (.lst (ns.map .int))),none,none,none,none,none] from rfl]
 walk_at "rd"
 refine dG (fun e=>?_) fun e=>nine none none none rs h0 (by omega) hz
 unfold oV
 walk_at "rd"
 refine ⟨_,at1 3 (by decide) (by decide),?_⟩
 walk_at "rd"
 rw [List.length_map]
 obtain ⟨m,em,hm⟩:=mO (ns.getD 3 0) (show 0 < 2 by decide)
 rw [show ns.getD 3 0 % 2=(m:Int) from em]
 refine ⟨by decide,by omega,by omega,?_⟩
 refine fD (fun i ρ=>∃ (zs:List Str) (v5:Option Sl),ρ=[some (.sh (.lst (rs.map .str))),some (.sh (.int y)),some (.sh (.lst (ns.map .int))),some (.sh (.str lts)),some (.ow (.lst (zs.map .str))),v5,none,none]∧zs≠[]∧zs.length=rs.length+i∧∀ y∈zs,Okb n y) ⟨rs,none,rfl,h0,rfl,hz⟩ ?_ ?_
 ·rintro i x ρ hx ⟨zs,v5,rfl,z0,zl,hz⟩
  obtain ⟨hi,rfl⟩:=tZ hx
  have hi:i < 9:=by omega
  rw [show (0:Int)+(i:Int)=(i:Int) by omega]
  obtain ⟨ci,ei,gi⟩:=Eg hi
  have w:=(((N5.add N6).add (.one gi)).add TJ).add (.one g4)
  have w3:=((N5.add N6).add (.one gi)).add TJ
  have w2:=(N5.add N6).add (.one gi)
  have w1:=N5.add N6
  unfold oU
  walk_at "rd"
  refine ⟨big (Zad w1.2 (by decide)),ll,ci,ei,big (Zad w2.2 (by decide)),big (Zad w3.2 (by decide)),_,at1 4 (by decide) (by decide),?_⟩
  walk_at "rd"
  refine ⟨by decide,ll,c4,e4,big (Zad w.2 (by decide)),by rw [List.length_map];exact dg (by omega),_,_,rfl,by simp,by rw [List.length_append,zl];rfl,snoc hz (w.mono (by omega))⟩
 ·rintro ρ ⟨zs,v5,rfl,z0,zl,hz⟩
  rw [dJ] at zl
  rw [onNx_nx]
  exact nine v5 none none zs z0 (by omega) hz
noncomputable def tls:List Str:=[Str.ofString " ",Str.ofString "\t",Str.ofString "  ",Str.ofString "\t "]
theorem Rj:∀ w∈tls,10 ∉ w.cps.toList∧w.length≤2:=by decide +kernel
theorem zU {zs:List Str}{n k:Nat}{w:Str} (h:∀ y∈zs,Okb n y) (hw:Okb n w):∀ y∈zs.set k w,Okb n y:=fun y hy=>by
 rcases List.mem_or_eq_of_mem_set hy with q | q
 ·exact h y q
 ·rw [q];exact hw
theorem Gu {zs:List Str}{k:Nat} (h:k < zs.length):ixN (zs.map PV.str).length (k:Int)=some k:=by rw [List.length_map];exact Rg h
theorem Gv (zs:List Str) (k:Nat) (w:Str):(zs.map PV.str).set k (.str w)=(zs.set k w).map PV.str:=List.map_set.symm
theorem iU (l:List Str) (k:Nat) (hk:k≤l.length):o7 (l.map PV.str) none (some (k:Int))=(l.take k).map PV.str:=by
 unfold o7
 rw [HT.pB,HT.sr,List.length_map,Zbk hk,Za3,Nat.sub_zero,List.map_take]
theorem mU (l:List Str) (k:Nat) (hk:k≤l.length):o7 (l.map PV.str) (some (k:Int)) none=(l.drop k).map PV.str:=by
 unfold o7
 rw [HT.pB,HT.sr,List.length_map,Zbk hk,ZaO (by simp),List.map_drop]
theorem Iz {rs:List Str}{n:Nat} (h2:2≤rs.length) (hl:rs.length≤9) (hz:∀ y∈rs,Okb n y) (hn:100≤n) (hn2:n≤400) (c:Int):∃ zs:List Str,fV [.lst (rs.map .str),.int c]=some (.ok (.lst (zs.map .str)))∧zs≠[]∧zs.length≤30∧∀ y∈zs,Okb (2 * n+2) y:=by
 suffices h:∃ p,fV [.lst (rs.map .str),.int c]=some (.ok p)∧∃ zs:List Str,p=.lst (zs.map .str)∧zs≠[]∧zs.length≤30∧∀ y∈zs,Okb (2 * n+2) y by
  obtain ⟨p,e,w,rfl,h⟩:=h
  exact ⟨w,e,h⟩
 have big:∀ {n:Nat},n≤6000->n≤sizeLine:=fun h=>Zad h (by decide)
 have h0:rs≠[]:=fun z=>by rw [z] at h2;cases h2
 obtain ⟨ns,es,h8,hp⟩:=qu (c+17) 8 (by decide) (by decide)
 have h8:ns.length=8:=by omega
 have at1:∀ i:Int,0≤i->i < 8->atI (ns.map PV.int) i=some (.int (ns.getD i.toNat 0)):=fun i h0 h1=>gK h0 (by omega)
 obtain ⟨od,eo,oo⟩:=Iw h0 (by omega) hz (by omega) (by omega) ns h8
 have r0:0 < rs.length:=by omega
 obtain ⟨a,ea,ha⟩:=mO (ns.getD 1 0) r0
 obtain ⟨b,eb,hb⟩:=mO (ns.getD 2 0) r0
 have oz:=hz _ (mR ha)
 have gz:=mQ ha
 have ob:=hz _ (mR hb)
 have gb:=mQ hb
 generalize rs.getD a ⟨#[]⟩=z at oz gz
 generalize rs.getD b ⟨#[]⟩=zb at ob gb
 have w0:0 < (wds z).length:=Za1.mpr (wW z)
 have wl:=lq z
 have z2:=oz.2
 obtain ⟨pl,ep,hpl⟩:=mO (ns.getD 3 0) w0
 have mono:∀ y∈rs,Okb (2 * n+2) y:=fun y hy=>(hz y hy).mono (by omega)
 have mz:Okb (2 * n+2) z:=oz.mono (by omega)
 have mb:Okb (2 * n+2) zb:=ob.mono (by omega)
 refine u9 (x:=iB (startR [.lst (rs.map .str),.int c] 7)) (ju fun QS hQ=>?_)
 generalize hy:ns.getD 0 0 % 16=y
 have snoc:∀ {zs:List Str}{w:Str},(∀ y∈zs,Okb (2 * n+2) y)->Okb (2 * n+2) w->∀ y∈zs++[w],Okb (2 * n+2) y:=fun {zs w} h1 h2 y hy=>by
  rcases Zae.mp hy with q | q
  ·exact h1 y q
  ·rw [ZaF.mp q];exact h2
 have nil:Okb (2 * n+2) (Str.ofString ""):=⟨by decide,Zad (by decide) (Za9 _)⟩
 have s11:∀ (v6 v7:Option Sl) (zs:List Str),zs≠[]->zs.length≤rs.length+1->(∀ y∈zs,Okb (2 * n+2) y)->To (gZ [some (.sh (.lst (rs.map .str))),some (.sh (.int c)),some (.sh (.lst (ns.map .int))),some (.sh (.int y)),some (.sh (.int (a:Int))),some (.sh (.int (b:Int))),v6,v7,some (.ow (.lst (zs.map .str)))]) QS:=fun v6 v7 zs q1 q2 q3=>by
  obtain ⟨us,eu,u0,ul,hu⟩:=N8 q1 (by omega) q3 (by omega) (by omega) y ns h8
  unfold gZ
  rw [to_frz,show yW 8 [some (.sh (.lst (rs.map PV.str))),some (.sh (.int c)),some (.sh (.lst (ns.map .int))),some (.sh (.int y)),some (.sh (.int (a:Int))),some (.sh (.int (b:Int))),v6,v7,some (.ow (.lst (zs.map .str)))]=[some (.sh (.lst (rs.map PV.str))),some (.sh (.int c)),some (.sh (.lst (ns.map .int))),some (.sh (.int y)),some (.sh (.int (a:Int))),some (.sh (.int (b:Int))),v6,v7,some (.sh (.lst (zs.map .str)))] from rfl]
  walk_at "rd"
  rw [eu]
  walk_at "rd"
  exact hQ _ ⟨_,rfl,us,rfl,u0,ul,hu⟩
 have s12:∀ (v6 v7:Option Sl) (zs:List Str),zs≠[]->zs.length≤rs.length+1->(y=14->zs.length=rs.length)->(∀ y∈zs,Okb (2 * n+2) y)->To (g8 [some (.sh (.lst (rs.map .str))),some (.sh (.int c)),some (.sh (.lst (ns.map .int))),some (.sh (.int y)),some (.sh (.int (a:Int))),some (.sh (.int (b:Int))),v6,v7,some (.ow (.lst (zs.map .str)))]) QS:=fun v6 v7 zs q1 q2 q4 q3=>by
  unfold g8
  walk_at "rd"
  refine dG (fun e=>?_) fun e=>s11 v6 v7 zs q1 q2 q3
  have el:=q4 e
  unfold kj
  walk_at "rd"
  refine ⟨_,gz,by decide,_,at1 5 (by decide) (by decide),?_⟩
  obtain ⟨j,ej,hj⟩:=mO (ns.getD 5 0) (show 0 < tls.length by decide)
  have q:=Rj _ (mR hj)
  have g:=mQ hj
  generalize tls.getD j ⟨#[]⟩=tl at q g
  walk_at "rd"
  rw [show (4:Int)=((tls.length:Nat):Int) from rfl,ej]
  have ok:Okb (n+2) (z++tl):=oz.add ⟨q.1,q.2⟩
  refine ⟨by decide,_,g,?_⟩
  walk_at "rd"
  refine ⟨big (by have:=q.2;omega),_,Gu (by omega),?_⟩
  rw [Gv]
  exact s11 v6 v7 _ (fun e=>by rw [List.set_eq_nil_iff] at e;exact q1 e) (by rw [ZbF];omega) (zU q3 (ok.mono (by omega)))
 have s13:∀ (v6 v7:Option Sl) (zs:List Str),zs≠[]->zs.length≤rs.length+1->(y=9∨y=14->zs.length=rs.length)->(∀ y∈zs,Okb (2 * n+2) y)->To (ie [some (.sh (.lst (rs.map .str))),some (.sh (.int c)),some (.sh (.lst (ns.map .int))),some (.sh (.int y)),some (.sh (.int (a:Int))),some (.sh (.int (b:Int))),v6,v7,some (.ow (.lst (zs.map .str)))]) QS:=fun v6 v7 zs q1 q2 q4 q3=>by
  unfold ie
  walk_at "rd"
  refine dG (fun e=>?_) fun e=>s12 v6 v7 zs q1 q2 (fun e=>q4 (.inr e)) q3
  have el:=q4 (.inl e)
  unfold mH
  walk_at "rd"
  refine ⟨by rw [List.length_map];exact dg (by omega),?_⟩
  exact s12 v6 v7 (zs++[Str.ofString ""]) (by simp) (by rw [List.length_append];simp;omega) (fun e'=>by omega) (snoc q3 nil)
 have s14:∀ (v6 v7:Option Sl) (zs:List Str),zs≠[]->zs.length≤rs.length+1->(9≤y->zs.length=rs.length)->(∀ y∈zs,Okb (2 * n+2) y)->To (ig [some (.sh (.lst (rs.map .str))),some (.sh (.int c)),some (.sh (.lst (ns.map .int))),some (.sh (.int y)),some (.sh (.int (a:Int))),some (.sh (.int (b:Int))),v6,v7,some (.ow (.lst (zs.map .str)))]) QS:=fun v6 v7 zs q1 q2 q4 q3=>by
  unfold ig
  walk_at "rd"
  refine dG (fun e=>?_) fun e=>s13 v6 v7 zs q1 q2 (fun e=>q4 (by omega)) q3
  have el:=q4 (by omega)
  unfold mG
  walk_at "rd"
  refine ⟨_,at1 3 (by decide) (by decide),?_⟩
  walk_at "rd"
  obtain ⟨m,em,hm⟩:=mO (ns.getD 3 0) (show 0 < 2 by decide)
  rw [show ns.getD 3 0 % 2=(m:Int) from em]
  have c1:=iU zs (1+m) (by omega)
  rw [show ((1+m:Nat):Int)=1+(m:Int) by omega] at c1
  rw [c1]
  refine ⟨by decide,?_⟩
  exact s13 v6 v7 (zs.take (1+m)) (fun e=>by have:=congrArg List.length e;rw [Zat,ZaR] at this;omega) (by rw [Zat];omega) (fun e'=>by omega) fun y hy=>q3 y (Zaz hy)
 have s15:∀ (v6 v7:Option Sl) (zs:List Str),zs≠[]->zs.length≤rs.length+1->(8≤y->zs.length=rs.length)->(∀ y∈zs,Okb (2 * n+2) y)->To (ik [some (.sh (.lst (rs.map .str))),some (.sh (.int c)),some (.sh (.lst (ns.map .int))),some (.sh (.int y)),some (.sh (.int (a:Int))),some (.sh (.int (b:Int))),v6,v7,some (.ow (.lst (zs.map .str)))]) QS:=fun v6 v7 zs q1 q2 q4 q3=>by
  unfold ik
  walk_at "rd"
  refine dG (fun e=>?_) fun e=>s14 v6 v7 zs q1 q2 (fun e=>q4 (by omega)) q3
  have el:=q4 (by omega)
  unfold mF
  walk_at "rd"
  have c1:=iU zs (a+1) (by omega)
  rw [show ((a+1:Nat):Int)=(a:Int)+1 by omega] at c1
  rw [c1]
  exact s14 v6 v7 (zs.take (a+1)) (fun e=>by have:=congrArg List.length e;rw [Zat,ZaR] at this;omega) (by rw [Zat];omega) (fun e'=>by omega) fun y hy=>q3 y (Zaz hy)
 have s16:∀ (v6 v7:Option Sl) (zs:List Str),zs≠[]->zs.length≤rs.length+1->(7≤y->zs.length=rs.length)->(∀ y∈zs,Okb (2 * n+2) y)->To (ir [some (.sh (.lst (rs.map .str))),some (.sh (.int c)),some (.sh (.lst (ns.map .int))),some (.sh (.int y)),some (.sh (.int (a:Int))),some (.sh (.int (b:Int))),v6,v7,some (.ow (.lst (zs.map .str)))]) QS:=fun v6 v7 zs q1 q2 q4 q3=>by
  unfold ir
  walk_at "rd"
  refine dG (fun e=>?_) fun e=>s15 v6 v7 zs q1 q2 (fun e=>q4 (by omega)) q3
  have el:=q4 (by omega)
  unfold mD
  walk_at "rd"
  refine ⟨_,gb,by decide,?_⟩
  rw [iU zs a (by omega),mU zs a (by omega),show (zs.take a).map PV.str++[PV.str zb]++(zs.drop a).map PV.str=(zs.take a++[zb]++zs.drop a).map PV.str from by rw [Zan,Zan];rfl]
  simp only [List.length_map,List.length_append,Zat,ZaB,Zak,ZaR]
  refine ⟨big (by omega),big (by omega),s15 v6 v7 (zs.take a++[zb]++zs.drop a) (by simp) ?_ (fun q=>by omega) fun y hy=>?_⟩
  ·rw [List.length_append,List.length_append,Zat,ZaB];simp;omega
  ·rcases Zae.mp hy with q | q
   ·exact snoc (fun y hy=>q3 y (Zaz hy)) mb y q
   ·exact q3 y (ZaJ q)
 have s17:∀ (v6 v7:Option Sl) (zs:List Str),zs.length=rs.length->(∀ y∈zs,Okb (2 * n+2) y)->To (iu [some (.sh (.lst (rs.map .str))),some (.sh (.int c)),some (.sh (.lst (ns.map .int))),some (.sh (.int y)),some (.sh (.int (a:Int))),some (.sh (.int (b:Int))),v6,v7,some (.ow (.lst (zs.map .str)))]) QS:=fun v6 v7 zs el q3=>by
  have q1:zs≠[]:=fun e=>by rw [e] at el;simp at el;omega
  unfold iu
  walk_at "rd"
  refine dG (fun e=>?_) fun e=>s16 v6 v7 zs q1 (by omega) (fun _=>el) q3
  unfold my
  walk_at "rd"
  have c2:=mU zs (a+1) (by omega)
  rw [show ((a+1:Nat):Int)=(a:Int)+1 by omega] at c2
  rw [iU zs a (by omega),c2,show (zs.take a).map PV.str++(zs.drop (a+1)).map PV.str=(zs.take a++zs.drop (a+1)).map PV.str from by rw [Zan]]
  simp only [List.length_map,Zat,ZaB]
  have l1:(zs.take a++zs.drop (a+1)).length=zs.length - 1:=by rw [List.length_append,Zat,ZaB];omega
  refine ⟨big (by omega),s16 v6 v7 (zs.take a++zs.drop (a+1)) (fun e=>by rw [e] at l1;simp at l1;omega) (by omega) (fun q=>by omega) fun y hy=>?_⟩
  rcases Zae.mp hy with q | q
  ·exact q3 y (Zaz q)
  ·exact q3 y (ZaJ q)
 have s18:∀ (v7:Option Sl) (ws:List Str),Ww n ws->To (iw [some (.sh (.lst (rs.map .str))),some (.sh (.int c)),some (.sh (.lst (ns.map .int))),some (.sh (.int y)),some (.sh (.int (a:Int))),some (.sh (.int (b:Int))),some (.ow (.lst (ws.map .str))),v7,none]) QS:=fun v7 ws hw=>by
  have jl:=Okb.join hw.no hw.le
  have wle:=hw.le
  have c1:=iU rs a (by omega)
  have c2:=mU rs (a+1) (by omega)
  rw [show ((a+1:Nat):Int)=(a:Int)+1 by omega] at c2
  unfold iw
  walk_at "rd"
  rw [c1,c2,iT]
  refine ⟨_,rfl,?_⟩
  rw [spS] at *
  generalize hJ:Txt.join ⟨#[32]⟩ ws=J at *
  have em:(rs.take a).map PV.str++[PV.str J]++(rs.drop (a+1)).map PV.str=(rs.take a++[J]++rs.drop (a+1)).map PV.str:=by rw [Zan,Zan];rfl
  rw [em]
  have ml:(rs.take a++[J]++rs.drop (a+1)).length=rs.length:=by
   rw [List.length_append,List.length_append,Zat,ZaB];simp;omega
  have mo:∀ y∈rs.take a++[J]++rs.drop (a+1),Okb (2 * n+2) y:=fun y hy=>by
   rcases Zae.mp hy with q | q
   ·exact snoc (fun y hy=>mono y (Zaz hy)) jl y q
   ·exact mono y (ZaJ q)
  generalize rs.take a++[J]++rs.drop (a+1)=M at ml mo
  simp only [List.length_map,List.length_append,Zat,ZaB,Zak,ZaR]
  refine ⟨?_,by decide,big (by omega),big (by omega),dG (fun e=>?_) fun e=>s17 _ v7 M ml mo⟩
  ·show _+ws.length * 1≤_
   omega
  ·unfold mq
   walk_at "rd"
   refine ⟨_,gb,_,Gu (by omega),?_⟩
   rw [Gv]
   refine ⟨_,gz,_,Gu (by rw [ZbF];omega),?_⟩
   rw [Gv]
   exact s17 _ v7 _ (by rw [ZbF,ZbF];exact ml) (zU (zU mo mb) mz)
 have s19:∀ (v7:Option Sl) (ws:List Str),Ww n ws->(y=4->ws=wds z)->To (iy [some (.sh (.lst (rs.map .str))),some (.sh (.int c)),some (.sh (.lst (ns.map .int))),some (.sh (.int y)),some (.sh (.int (a:Int))),some (.sh (.int (b:Int))),some (.ow (.lst (ws.map .str))),v7,none]) QS:=fun v7 ws hw e7=>by
  unfold iy
  walk_at "rd"
  refine dG (fun e=>?_) fun e=>s18 v7 ws hw
  have e7:=e7 e
  subst e7
  unfold mj
  walk_at "rd"
  refine ⟨_,at1 3 (by decide) (by decide),?_⟩
  walk_at "rd"
  rw [List.length_map,eo]
  obtain ⟨p2,ep2,hp2⟩:=mO (ns.getD 3 0) (show 0 < (wds z).length+1 by omega)
  rw [show ns.getD 3 0 % (((wds z).length:Int)+1)=(p2:Int) from ep2]
  walk_at "rd"
  rw [iU (wds z) p2 (by omega),mU (wds z) p2 (by omega),show ((wds z).take p2).map PV.str++[PV.str od]++((wds z).drop p2).map PV.str=((wds z).take p2++[od]++(wds z).drop p2).map PV.str from by rw [Zan,Zan];rfl]
  simp only [List.length_map,List.length_append,Zat,ZaB,Zak,ZaR]
  refine ⟨by omega,by decide,big (by omega),big (by omega),s18 _ _ ⟨fun w hw=>?_,?_⟩⟩
  ·rcases Zae.mp hw with q | q
   ·rcases Zae.mp q with q | q
    ·exact (oz.word (Zaz q)).1
    ·rw [ZaF.mp q];exact oo.1
   ·exact (oz.word (ZaJ q)).1
  ·have s:=zT (wds z) p2
   have ol:=oo.2
   rw [Zan,Zan,List.sum_append,List.sum_append,List.length_append,List.length_append,Zat,ZaB]
   simp only [Zah,List.map_nil,Zbg,List.sum_nil,Zak,ZaR]
   omega
 have s20:∀ (ws:List Str),Ww n ws->(y=3∨y=4->ws=wds z)->To (iz [some (.sh (.lst (rs.map .str))),some (.sh (.int c)),some (.sh (.lst (ns.map .int))),some (.sh (.int y)),some (.sh (.int (a:Int))),some (.sh (.int (b:Int))),some (.ow (.lst (ws.map .str))),some (.sh (.int (pl:Int))),none]) QS:=fun ws hw e7=>by
  unfold iz
  walk_at "rd"
  refine dG (fun e=>?_) fun e=>s19 _ ws hw fun e'=>e7 (.inr e')
  have e7:=e7 (.inl e)
  subst e7
  unfold lZ
  walk_at "rd"
  have c4:=mU (wds z) (pl+1) (by omega)
  rw [show ((pl+1:Nat):Int)=(pl:Int)+1 by omega] at c4
  rw [iU (wds z) pl (by omega),c4,show ((wds z).take pl).map PV.str++((wds z).drop (pl+1)).map PV.str=((wds z).take pl++(wds z).drop (pl+1)).map PV.str from by rw [Zan]]
  simp only [List.length_map,Zat,ZaB]
  refine ⟨big (by omega),s19 _ _ ⟨fun w hw=>?_,?_⟩ fun e'=>by omega⟩
  ·rcases Zae.mp hw with q | q
   ·exact (oz.word (Zaz q)).1
   ·exact (oz.word (ZaJ q)).1
  ·have s:=zT (wds z) pl
   have s2:=Iu (wds z) pl
   rw [Zan,List.sum_append,List.length_append,Zat,ZaB]
   omega
 have ww0:Ww n (wds z):=⟨fun w hw=>(oz.word hw).1,by omega⟩
 unfold iB
 rw [show startR [PV.lst (rs.map .str),.int c] 7=[some (.sh (.lst (rs.map .str))),some (.sh (.int c)),none,none,none,none,none,none,none] from rfl]
 walk_at "rd"
 rw [es]
 walk_at "rd"
 refine ⟨_,at1 0 (by decide) (by decide),?_⟩
 walk_at "rd"
 rw [show ns.getD 0 0 % 16=y from hy]
 refine ⟨by decide,_,at1 1 (by decide) (by decide),?_⟩
 walk_at "rd"
 rw [List.length_map,ea]
 refine ⟨by omega,_,at1 2 (by decide) (by decide),?_⟩
 walk_at "rd"
 rw [eb]
 refine ⟨by omega,_,gz,?_⟩
 walk_at "rd"
 rw [spS,show Txt.split z ⟨#[32]⟩=wds z from rfl]
 refine ⟨rfl,big (by omega),big (by omega),_,at1 3 (by decide) (by decide),?_⟩
 walk_at "rd"
 rw [List.length_map,ep]
 refine ⟨by omega,dG (fun e=>?_) fun e=>s20 _ ww0 fun _=>rfl⟩
 unfold lY
 walk_at "rd"
 rw [eo]
 walk_at "rd"
 refine ⟨_,Gu hpl,?_⟩
 rw [Gv]
 refine s20 _ ⟨fun w hw=>?_,?_⟩ fun q=>by omega
 ·rcases List.mem_or_eq_of_mem_set hw with q | q
  ·exact (oz.word q).1
  ·rw [q];exact oo.1
 ·have s:=wY (wds z) pl od
  have ol:=oo.2
  rw [ZbF]
  omega
theorem Eh {k:Int}:jE [.exc "NoBench" [("row",.int k)]]=some (.ok (.bl false)):=by
 refine iM (x:=jD (startR [.exc "NoBench" [("row",.int k)]] 0)) ?_
 unfold jD
 walk_at "rd"
 refine ⟨false,rfl,?_⟩
 walk_at "rd"
 unfold p7
 walk_at "rd"
 exact ⟨false,rfl,rfl⟩
theorem IK {paper:Str}{inks:List Ink} (h:jf paper inks):∀ y∈(Str.ofString "paper "++paper)::inks.map rP,Okb 200 y:=by
 have words:∀ ws:List Str,(∀ w∈ws,cu w=true)->10 ∉ (Txt.join ⟨#[32]⟩ ws).cps.toList:=fun ws hws z=>by
  rw [join_list] at z
  rcases yu z with q | ⟨r,hr,q⟩
  ·cases q
  ·obtain ⟨w,hw',rfl⟩:=ZaP.mp hr
   have:=Nu (hws w hw') 10 q
   omega
 intro y hy
 rcases Zao.mp hy with e | e
 ·subst e
  refine ⟨words [Str.ofString "paper",paper] fun w hw'=>?_,?_⟩
  ·rcases Zao.mp hw' with q | q
   ·rw [q];exact Q6
   ·simp at q;rw [q];exact h.DY
  ·have p8:=(wQ h.DY).2
   have pl6:(Str.ofString "paper ").length=6:=by decide +kernel
   have pl:(Str.ofString "paper "++paper).length=6+paper.length:=by rw [←pl6];show (_++_:Array Nat).size=_;rw [Array.size_append];rfl
   omega
 ·obtain ⟨k,hk,rfl⟩:=ZaP.mp e
  exact ⟨words _ (h.words k hk).1,K5 (h.words k hk).1 (h.words k hk).2⟩
theorem law_main (ns:List Int) (hn:ns.length≤63):yt [.lst (ns.map .int)]=some (.ok (.bl true)):=by
 refine iM (x:=Gj (startR [.lst (ns.map .int)] 6)) (ju fun QS hQ=>?_)
 obtain ⟨c1,ec⟩:=rO ns 1 (by decide)
 obtain ⟨paper,inks,eb,ok⟩:=Ib ns hn
 have i1:1≤inks.length:=Za1.mpr ok.l0
 have i8:=ok.l8
 have er:=Ie ok
 obtain ⟨cc,ew⟩:=Ef c1 1 (by decide) (by decide)
 have oks:=IK ok
 have l1:((Str.ofString "paper "++paper)::inks.map rP).length=inks.length+1:=by rw [Zak,List.length_map]
 generalize (Str.ofString "paper "++paper)::inks.map rP=rs at er oks l1
 obtain ⟨ys,ey,y0,yl,hy⟩:=Iz (by omega) (by omega) oks (by decide) (by decide) cc
 have hy:∀ y∈ys,Okb 2000 y:=fun y h=>(hy y h).mono (by decide)
 have sl:=Ra hy
 have jn:(ys.map (·.length)).sum+ys.length * 1≤16777216:=by omega
 have er2:=Le y0 (by omega) hy
 have rb:=Ip y0 (by omega) hy
 unfold Gj
 rw [show startR [PV.lst (ns.map .int)] 6=[some (.sh (.lst (ns.map .int))),none,none,none,none,none,none] from rfl]
 walk_at "rd"
 rw [eb]
 walk_at "rd"
 rw [er]
 walk_at "rd"
 rw [ec]
 walk_at "rd"
 rw [ew]
 walk_at "rd"
 rw [ey]
 walk_at "rd"
 rw [er2]
 cases hd:due ys with
 | inl m =>
  rw [hd] at rb
  simp only at rb ⊢
  walk_at "rd"
  refine Q3 (z:=.exc "NoBench" [("row",.int m)]) (QX (Ge ?_)) ?_
  ·walk_at "rd"
   rw [iT]
   exact ⟨_,rfl,jn,by rw [Nt];exact rb⟩
  ·rw [Q4 rfl]
   unfold Gf
   walk_at "rd"
   unfold zK
   walk_at "rd"
   unfold Gi
   walk_at "rd"
   refine ⟨true,rfl,?_⟩
   walk_at "rd"
   refine ⟨true,rfl,?_⟩
   walk_at "rd"
   rw [Eh]
   walk_at "rd"
   unfold Gh
   walk_at "rd"
   refine ⟨_,rfl,?_⟩
   walk_at "rd"
   refine ⟨_,rfl,?_⟩
   walk_at "rd"
   refine ⟨_,rfl,?_⟩
   walk_at "rd"
   exact hQ _ (by rw [decide_eq_true trivial];rfl)
 | inr wK =>
  obtain ⟨w,K⟩:=wK
  rw [hd] at rb
  simp only at rb ⊢
  walk_at "rd"
  refine Q0 ?_
  walk_at "rd"
  rw [iT]
  refine ⟨_,rfl,jn,?_⟩
  rw [Nt,rb]
  walk_at "rd"
  unfold zK
  walk_at "rd"
  unfold Gg
  walk_at "rd"
  rw [if_pos (show (fH w K).ji=false from rfl)]
  refine ⟨true,rfl,?_⟩
  rw [if_pos rfl]
  exact ⟨true,DW 27 w K,hQ _ rfl⟩
noncomputable def top (i:Nat):Stmt:=PySem.Challenge.pw_lostblock_k10_whole_bench_rows_refused.main.body.getD i (.Pass ⟨0,0,0,0⟩)
structure Txt (mg:Str->Option Value):Prop where
 tt:True
 b_ValueError:mg "ValueError"=none
 b_all:mg "all"=none
 b_bool:mg "bool"=none
 b_dict:mg "dict"=none
 b_enumerate:mg "enumerate"=none
 b_int:mg "int"=none
 b_isinstance:mg "isinstance"=none
 b_len:mg "len"=none
 b_list:mg "list"=none
 b_range:mg "range"=none
 b_str:mg "str"=none
 b_tuple:mg "tuple"=none
 c_COVER:∃ t,mg "COVER"=some (.str "cover" t)
 c_GLAZE:∃ t,mg "GLAZE"=some (.str "glaze" t)
 c_LETTERS:∃ t,mg "LETTERS"=some (.str "abcdefghijklmnopqrstuvwxyz" t)
 c_LONGEST_WORD:∃ t,mg "LONGEST_WORD"=some (.int 8 t)
 c_MOST_INKS:∃ t,mg "MOST_INKS"=some (.int 8 t)
 c_MOST_PAIRS:∃ t,mg "MOST_PAIRS"=some (.int 8 t)
 c_PAPER:∃ t,mg "PAPER"=some (.str "paper" t)
structure Ads where
 (x_NoBench x_NoSet x_NoPicture x_NoStack x_Kept x_NoDeed x_NoPlan x_TooMany x_NoName x_Twice x_Order x_Wrong x_NoStroke x_NoRow x_BlockError:Addr)
structure Xt (K:PySem.W.Frag) (mg:Str->Option Value) (d:Ads):Prop where
 u_NoBench:Nb K mg "NoBench" ["row"] d.x_NoBench
 n_NoBench:PySem.W.nsIn K mainGlobals "NoBench"=some (some (.ref d.x_NoBench))
 g_NoBench:mg "NoBench"=some (.ref d.x_NoBench)
 n_NoSet:PySem.W.nsIn K mainGlobals "NoSet"=some (some (.ref d.x_NoSet))
 g_NoSet:mg "NoSet"=some (.ref d.x_NoSet)
 n_NoPicture:PySem.W.nsIn K mainGlobals "NoPicture"=some (some (.ref d.x_NoPicture))
 g_NoPicture:mg "NoPicture"=some (.ref d.x_NoPicture)
 n_NoStack:PySem.W.nsIn K mainGlobals "NoStack"=some (some (.ref d.x_NoStack))
 g_NoStack:mg "NoStack"=some (.ref d.x_NoStack)
 n_Kept:PySem.W.nsIn K mainGlobals "Kept"=some (some (.ref d.x_Kept))
 g_Kept:mg "Kept"=some (.ref d.x_Kept)
 n_NoDeed:PySem.W.nsIn K mainGlobals "NoDeed"=some (some (.ref d.x_NoDeed))
 g_NoDeed:mg "NoDeed"=some (.ref d.x_NoDeed)
 n_NoPlan:PySem.W.nsIn K mainGlobals "NoPlan"=some (some (.ref d.x_NoPlan))
 g_NoPlan:mg "NoPlan"=some (.ref d.x_NoPlan)
 n_TooMany:PySem.W.nsIn K mainGlobals "TooMany"=some (some (.ref d.x_TooMany))
 g_TooMany:mg "TooMany"=some (.ref d.x_TooMany)
 n_NoName:PySem.W.nsIn K mainGlobals "NoName"=some (some (.ref d.x_NoName))
 g_NoName:mg "NoName"=some (.ref d.x_NoName)
 n_Twice:PySem.W.nsIn K mainGlobals "Twice"=some (some (.ref d.x_Twice))
 g_Twice:mg "Twice"=some (.ref d.x_Twice)
 n_Order:PySem.W.nsIn K mainGlobals "Order"=some (some (.ref d.x_Order))
 g_Order:mg "Order"=some (.ref d.x_Order)
 n_Wrong:PySem.W.nsIn K mainGlobals "Wrong"=some (some (.ref d.x_Wrong))
 g_Wrong:mg "Wrong"=some (.ref d.x_Wrong)
 n_NoStroke:PySem.W.nsIn K mainGlobals "NoStroke"=some (some (.ref d.x_NoStroke))
 g_NoStroke:mg "NoStroke"=some (.ref d.x_NoStroke)
 n_NoRow:PySem.W.nsIn K mainGlobals "NoRow"=some (some (.ref d.x_NoRow))
 g_NoRow:mg "NoRow"=some (.ref d.x_NoRow)
 n_BlockError:PySem.W.nsIn K mainGlobals "BlockError"=some (some (.ref d.x_BlockError))
 g_BlockError:mg "BlockError"=some (.ref d.x_BlockError)
 ca_BlockError:Catch K d.x_BlockError
 s_NoBench_BlockError:PySem.W.subIn K (.ref d.x_NoBench) (.ref d.x_BlockError)=some true
 no_NoBench:PySem.W.kitOne K (.type "NoneType") (.ref d.x_NoBench)=some false
 k_NoBench_NoBench:PySem.W.kitOne K (.ref d.x_NoBench) (.ref d.x_NoBench)=some true
 nob_ValueError:PySem.W.kitOne K (.type "NoneType") (.type "ValueError")=some false
 kb_NoBench_ValueError:PySem.W.kitOne K (.ref d.x_NoBench) (.type "ValueError")=some true
 not0:PySem.W.kitAny K (.type "NoneType") ([d.x_NoSet,d.x_NoPicture,d.x_NoStack,d.x_Kept,d.x_NoDeed,d.x_NoPlan,d.x_TooMany].map Value.ref)=some false
 kt0_NoBench:PySem.W.kitAny K (.ref d.x_NoBench) ([d.x_NoSet,d.x_NoPicture,d.x_NoStack,d.x_Kept,d.x_NoDeed,d.x_NoPlan,d.x_TooMany].map Value.ref)=some false
 not1:PySem.W.kitAny K (.type "NoneType") ([d.x_NoName,d.x_Twice,d.x_Order,d.x_Wrong,d.x_NoStroke,d.x_NoRow].map Value.ref)=some false
 kt1_NoBench:PySem.W.kitAny K (.ref d.x_NoBench) ([d.x_NoName,d.x_Twice,d.x_Order,d.x_Wrong,d.x_NoStroke,d.x_NoRow].map Value.ref)=some false
section
seal PE PA PS PSs PG PGs PI PPs MJ MT MA MAL MO MS MG MGs MI
variable {P:Program}{w:World}{K:PySem.W.Frag}{mg:Str->Option Value}{base:Heap}
theorem uz {d:Ads} (Z:Xt K mg d):∀ c b,lB c=some b->O6 K c "BlockError" b:=by
 intro c b h
 unfold lB at h
 by_cases h_NoBench:c="NoBench"
 ·subst h_NoBench
  rw [if_pos rfl] at h
  cases h
  exact ⟨_,_,Z.n_NoBench,Z.n_BlockError,Z.s_NoBench_BlockError⟩
 rw [if_neg h_NoBench] at h
 cases h
theorem xu {d:Ads} (Z:Xt K mg d):∀ c b,rH c=some b->QL K c (.ref d.x_NoBench) b:=by
 intro c b h
 unfold rH at h
 by_cases h_NoBench:c="NoBench"
 ·subst h_NoBench
  rw [if_pos rfl] at h
  cases h
  exact ⟨_,Z.n_NoBench,Z.u_NoBench.xi,Z.k_NoBench_NoBench⟩
 rw [if_neg h_NoBench] at h
 cases h
theorem uA {d:Ads} (Z:Xt K mg d):∀ c b,lC c=some b->QL K c (.type "ValueError") b:=by
 intro c b h
 unfold lC at h
 by_cases h_NoBench:c="NoBench"
 ·subst h_NoBench
  rw [if_pos rfl] at h
  cases h
  exact ⟨_,Z.n_NoBench,Z.u_NoBench.xi,Z.kb_NoBench_ValueError⟩
 rw [if_neg h_NoBench] at h
 cases h
theorem Rm {d:Ads} (Z:Xt K mg d):∀ c b,kt0 c=some b->Kz K c [d.x_NoSet,d.x_NoPicture,d.x_NoStack,d.x_Kept,d.x_NoDeed,d.x_NoPlan,d.x_TooMany] b:=by
 intro c b h
 unfold kt0 at h
 by_cases h_NoBench:c="NoBench"
 ·subst h_NoBench
  rw [if_pos rfl] at h
  cases h
  exact ⟨_,Z.n_NoBench,Z.u_NoBench.xi,Z.kt0_NoBench⟩
 rw [if_neg h_NoBench] at h
 cases h
theorem Ro {d:Ads} (Z:Xt K mg d):∀ c b,kt1 c=some b->Kz K c [d.x_NoName,d.x_Twice,d.x_Order,d.x_Wrong,d.x_NoStroke,d.x_NoRow] b:=by
 intro c b h
 unfold kt1 at h
 by_cases h_NoBench:c="NoBench"
 ·subst h_NoBench
  rw [if_pos rfl] at h
  cases h
  exact ⟨_,Z.n_NoBench,Z.u_NoBench.xi,Z.kt1_NoBench⟩
 rw [if_neg h_NoBench] at h
 cases h
theorem uB {d:Ads} (Z:Xt K mg d):∀ c,wH c=true->∃ Ca,PySem.W.nsIn K mainGlobals c=some (some (.ref Ca))∧XI K Ca∧PySem.W.findIn K (.ref Ca) "row"=some none:=by
 intro c h
 unfold wH at h
 by_cases h_NoBench:c="NoBench"
 ·subst h_NoBench
  exact ⟨_,Z.n_NoBench,Z.u_NoBench.xi,Z.u_NoBench.fl _ (by simp)⟩
 simp_all
theorem zV:bZ ["self","row"] ["self","row"] (aL (inClass (top 3) 0)):=⟨rfl,rfl,rfl,by decide +kernel,rfl,by decide +kernel,by decide +kernel⟩
theorem zW {C f:Addr}{cd:ClassData}{fd:FuncData} (F:Fun K "__init__" "NoBench.__init__" (inClass (top 3) 0) f fd) (Y:XCls K C cd) (n0:PySem.W.findIn K (.ref C) "row"=some none):lr P w K mg base CX0 1 f fd ["self","row"] (spI C ["row"]):=by
 refine F.ok zV (fun vs H Q E h=>M7 h) (fun cdv A outer s H vs Q E hr h=>?_)
 exact ⟨_,(aG (Th (pv 0) (pv 1) rfl)),HD Y n0 h⟩
theorem Ei:bZ ["text"] ["text"] (aL (top 21)):=⟨rfl,rfl,rfl,by decide +kernel,rfl,by decide +kernel,by decide +kernel⟩
theorem Ej (T:Txt mg) (D:bY K mg "is_word" (top 21) ["text"]) {d:Ads} (Z:Xt K mg d):FnAt P w K mg base "is_word" 1 ["text"] (spM K XR0 jF):=by
 refine D.ok Ei (fun vs H Q E h=>d9 h fun ps r e=>match ps,e with | [_],_=>rfl) (fun f cdv A outer s H vs Q E hr h=>?_)
 refine ⟨_,(aA (cB (PW.pt (pq (pA (mX (aZ tu rfl T.b_isinstance (by decide +kernel) (aj (pv 0) (aj (Al rfl T.b_str (n:="str") (by decide +kernel)) aC))))) (qW (pA (vB pI pI au (aZ bF rfl T.b_len (by decide +kernel) (aj (pv 0) aC)) (Jj rfl T.c_LONGEST_WORD))))))
    (aG (bI Ep))
    bz)
   (aG (bI (aZ (Ak rfl) rfl T.b_all (by decide +kernel) (aj (ql ["sign"] [none] rfl (iZ (pv 0)) (fun _ _ _ _ _=>(jH (i:=0) (by decide +kernel) rfl rfl)) (fun _ _ _ _ _=>qY) (fun _ _ _ _ _=>(uW (Mu hr) (pvl 0) (xR (glc rfl) T.c_LETTERS) (by with_unfolding_all rfl)))) aC))))),eV (b:=qt) (k:=1) (n:=0) rfl (fun ps r e=>match ps,e with | [_],e=>⟨rfl,e⟩) h fun io H0 F0 hio=>?_⟩
 exact (aJ (cD (pF (pG (m6 (zp aH.up Ms (aQ 0) Ff))) (pG (aW (sO Ax Ax ao (bV dF (aQ 0)) ao))))
    (bT Fe)
    bA)
   (bT (bV Ox (cU (uZ (m8 (ak 0)) (aN 0) (nj 0) q9 (aq aH.up Qm (aQ 0) (bf bx)))))))
theorem uO:bZ ["row","words"] ["row"] (aL (top 26)):=⟨rfl,rfl,rfl,by decide +kernel,rfl,by decide +kernel,by decide +kernel⟩
theorem Ce (T:Txt mg) (D:bY K mg "paper_of" (top 26) ["row"]) {d:Ads} (Z:Xt K mg d) (G_is_word:FnAt P w K mg base "is_word" 1 ["text"] (spM K XR0 jF)):FnAt P w K mg base "paper_of" 2 ["row"] (spM K XR0 nJ):=by
 refine D.ok uO (fun vs H Q E h=>d9 h fun ps r e=>match ps,e with | [_],_=>rfl) (fun f cdv A outer s H vs Q E hr h=>?_)
 refine ⟨_,(aA (bc (i:=1) uO.nd rfl (Or.inl rfl) (eQ PySem.F.plainAttrs_str ZaV ZaW jK (pv 0) (aj bD aC)))
   (aA (cB (PW.pt (ph (aY (cz hr) (aZ bF rfl T.b_len (by decide +kernel) (aj (pv 1) aC)) au (bC _)) (ph (aY (cz hr) (aU aM (pv 1) au (fun _ _=>rfl)) (xR rfl T.c_PAPER) (bC _)) (qj (mX (bN G_is_word (hr.mono (by decide)) rfl (aj (aU aM (pv 1) au (fun _ _=>rfl)) aC)))))))
    (aG (bI (aU aM (pv 1) au (fun _ _=>rfl))))
    bz)
   (aG (bI dN)))),eV (b:=nH) (k:=1) (n:=1) rfl (fun ps r e=>match ps,e with | [_],e=>⟨rfl,e⟩) h fun io H0 F0 hio=>?_⟩
 exact (aJ (bJ (cL (jL (ak 0) bx)) (aN 1))
   (aJ (cD (pD (aW (aq aH.up fO (bf (bV dF (aQ 1))) (bf ao))) (pD (aW (aq aH.up fO (bf (aq aF.up bG (ak 1) ao)) (bf bx))) (m6 (d8 (az (aq aF.up bG (ak 1) ao) aR)))))
    (bT (aq aF.up bG (ak 1) ao))
    bA)
   (bT dR)))
theorem qe:bZ ["words","pairs","unders"] ["words"] (aL (top 27)):=⟨rfl,rfl,rfl,by decide +kernel,rfl,by decide +kernel,by decide +kernel⟩
theorem Ci (T:Txt mg) (D:bY K mg "pairs_of" (top 27) ["words"]) {d:Ads} (Z:Xt K mg d):FnAt P w K mg base "pairs_of" 1 ["words"] (spM K XR0 jM):=by
 refine D.ok qe (fun vs H Q E h=>d9 h fun ps r e=>match ps,e with | [_],_=>rfl) (fun f cdv A outer s H vs Q E hr h=>?_)
 refine ⟨_,(aA (LC (i:=1) ["place","words"] [none,some 0] rfl qe.nd rfl rfl (yd rfl T.b_range (aj au (aj (aP yL (aZ bF rfl T.b_len (by decide +kernel) (aj (pv 0) aC)) au) (aj au aC)))) (fun _ _ _ _ _=>(jH (i:=0) (by decide +kernel) rfl rfl)) (fun _ _ _ _ _=>qY) (fun _ _ _ _ _=>(fG (aj (aU qp (pvf 1) (pvl 0) (fun _ _=>rfl)) (aj (aU qp (pvf 1) (aP JM (pvl 0) au) (fun _ _=>rfl)) aC)))))
   (aA (bc (i:=2) qe.nd rfl (Or.inl rfl) (lN (Dl hr rfl) rfl T.b_dict (by decide +kernel) (aj (pv 1) aC)))
   (aA (cB (PW.pt (pq (aY (cz hr) (aP bM (aZ bF rfl T.b_len (by decide +kernel) (aj (pv 0) aC)) au) au (bC _)) (pq (pA (vB pI pI au (aZ bF rfl T.b_len (by decide +kernel) (aj (pv 1) aC)) (Jj rfl T.c_MOST_PAIRS))) (qW (aY ug (aZ Hr rfl T.b_len (by decide +kernel) (aj (pv 2) aC)) (aZ bF rfl T.b_len (by decide +kernel) (aj (pv 1) aC)) (bC _))))))
    (aG (bI dN))
    bz)
   (aG (bI (lN lu rfl T.b_tuple (by decide +kernel) (aj (pv 1) aC))))))),eV (b:=nP) (k:=1) (n:=2) rfl (fun ps r e=>match ps,e with | [_],e=>⟨rfl,e⟩) h fun io H0 F0 hio=>?_⟩
 exact (aJ (bJ (cL (uZ (Fx (az ao (az (aq aF.up Fp (bV dF (aQ 0)) ao) (az ao aR)))) (aN 0) (nj 0) q9 (fZ (az (aq aF.up bG (ak 1) (ak 0)) (az (aq aF.up bG (ak 1) (aq aF.up cG (ak 0) ao)) aR))))) (aN 1))
   (aJ (bJ (cL (JK (Mx fun _ _ _=>My) (bH 1))) (aN 2))
   (aJ (cD (pF (aW (aq aH.up fO (bf (aq aF.up cJ (bV dF (aQ 0)) ao)) (bf ao))) (pF (pG (aW (sO Ax Ax ao (bV dF (aQ 1)) ao))) (aW (aq aF.up Hm (bV Qs (Hq 2)) (bV dF (aQ 1))))))
    (bT dR)
    bA)
   (bT (bV JL (bH 1))))))
theorem uP:bZ ["words","pairs"] ["words"] (aL (top 28)):=⟨rfl,rfl,rfl,by decide +kernel,rfl,by decide +kernel,by decide +kernel⟩
theorem Cj (T:Txt mg) (D:bY K mg "glaze_of" (top 28) ["words"]) {d:Ads} (Z:Xt K mg d) (G_pairs_of:FnAt P w K mg base "pairs_of" 1 ["words"] (spM K XR0 jM)):FnAt P w K mg base "glaze_of" 2 ["words"] (spM K XR0 jN):=by
 refine D.ok uP (fun vs H Q E h=>d9 h fun ps r e=>match ps,e with | [_],_=>rfl) (fun f cdv A outer s H vs Q E hr h=>?_)
 refine ⟨_,(aA (bc (i:=1) uP.nd rfl (Or.inl rfl) (bN G_pairs_of (hr.mono (by decide)) rfl (aj (cO d7 (pv 0) (cR au) dw) aC)))
   (aA (cB (aY vA (pv 1) dN (bC _))
    (aG (bI dN))
    bz)
   (aG (bI (fG (aj (xR rfl T.c_GLAZE) (aj (aU aM (pv 0) au (fun _ _=>rfl)) (aj (pv 1) aC)))))))),eV (b:=iQ) (k:=1) (n:=1) rfl (fun ps r e=>match ps,e with | [_],e=>⟨rfl,e⟩) h fun io H0 F0 hio=>?_⟩
 exact (aJ (bJ (d8 (az (cL (fP (bH 0) (cV ao) dC)) aR)) (aN 1))
   (aJ (cD (aW (aq aH.up Az (aQ 1) dR))
    (bT dR)
    bA)
   (bT (fZ (az bx (az (aq aF.up bG (ak 0) ao) (az (ak 1) aR)))))))
theorem yD:bZ ["row","words"] ["row"] (aL (top 29)):=⟨rfl,rfl,rfl,by decide +kernel,rfl,by decide +kernel,by decide +kernel⟩
theorem IV (T:Txt mg) (D:bY K mg "ink_of" (top 29) ["row"]) {d:Ads} (Z:Xt K mg d) (G_is_word:FnAt P w K mg base "is_word" 1 ["text"] (spM K XR0 jF)) (G_glaze_of:FnAt P w K mg base "glaze_of" 2 ["words"] (spM K XR0 jN)):FnAt P w K mg base "ink_of" 3 ["row"] (spM K XR0 tU):=by
 refine D.ok yD (fun vs H Q E h=>d9 h fun ps r e=>match ps,e with | [_],_=>rfl) (fun f cdv A outer s H vs Q E hr h=>?_)
 refine ⟨_,(aA (bc (i:=1) yD.nd rfl (Or.inl rfl) (eQ PySem.F.plainAttrs_str ZaV ZaW jK (pv 0) (aj bD aC)))
   (aA (cB (pA (mX (aZ (Ak rfl) rfl T.b_all (by decide +kernel) (aj (ql ["word"] [none] rfl (iZ (pv 1)) (fun _ _ _ _ _=>(jH (i:=0) (by decide +kernel) rfl rfl)) (fun _ _ _ _ _=>qY) (fun _ _ _ _ _=>(bN G_is_word (hr.mono (by decide)) (glc rfl) (aj (pvl 0) aC)))) aC))))
    (aG (bI dN))
    bz)
   (aA (cB (PW.pt (ph (aY (cz hr) (aU aM (pv 1) au (fun _ _=>rfl)) (xR rfl T.c_COVER) (bC _)) (qj (aY (cz hr) (aZ bF rfl T.b_len (by decide +kernel) (aj (pv 1) aC)) au (bC _)))))
    (aG (bI (fG (aj (xR rfl T.c_COVER) (aj (aU aM (pv 1) au (fun _ _=>rfl)) (aj (aU aM (pv 1) au (fun _ _=>rfl)) aC))))))
    bz)
   (aA (cB (aY (cz hr) (aU aM (pv 1) au (fun _ _=>rfl)) (xR rfl T.c_GLAZE) (bC _))
    (aG (bI (bN G_glaze_of (hr.mono (by decide)) rfl (aj (pv 1) aC))))
    bz)
   (aG (bI dN)))))),eV (b:=tR) (k:=1) (n:=1) rfl (fun ps r e=>match ps,e with | [_],e=>⟨rfl,e⟩) h fun io H0 F0 hio=>?_⟩
 exact (aJ (bJ (cL (jL (ak 0) bx)) (aN 1))
   (aJ (cD (pG (m6 (bV Ox (cU (uZ (m8 (ak 1)) (aN 0) (nj 0) q9 (d8 (az (ak 0) aR)))))))
    (bT dR)
    bA)
   (aJ (cD (pD (aW (aq aH.up fO (bf (aq aF.up bG (ak 1) ao)) (bf bx))) (aW (aq aH.up fO (bf (bV dF (aQ 1))) (bf ao))))
    (bT (fZ (az bx (az (aq aF.up bG (ak 1) ao) (az (aq aF.up bG (ak 1) ao) aR)))))
    bA)
   (aJ (cD (aW (aq aH.up fO (bf (aq aF.up bG (ak 1) ao)) (bf bx)))
    (bT (d8 (az (ak 1) aR)))
    bA)
   (bT dR)))))
theorem iV:bZ ["inks","name","number","ink"] ["inks","name"] (aL (top 30)):=⟨rfl,rfl,rfl,by decide +kernel,rfl,by decide +kernel,by decide +kernel⟩
theorem uC (T:Txt mg) (D:bY K mg "number_of_ink" (top 30) ["inks","name"]) {d:Ads} (Z:Xt K mg d):FnAt P w K mg base "number_of_ink" 1 ["inks","name"] (spM K XR0 dX):=by
 refine D.ok iV (fun vs H Q E h=>d9 h fun ps r e=>match ps,e with | [_,_],_=>rfl) (fun f cdv A outer s H vs Q E hr h=>?_)
 refine ⟨_,(aA (fY ZaM rfl (Ey rfl T.b_enumerate (aj (pv 0) aC)) (vh (n:=2) rfl (gj (cQ (i:=2) iV.nd rfl (Or.inl rfl)) (gj (cQ (i:=3) iV.nd rfl (Or.inl rfl)) rY)))
    (aG (cB (aY (cz hr) (aU aM (pv 3) au (fun _ _=>rfl)) (pv 1) (bC _))
     (aG (bI (pv 2)))
     bz)))
   (aG (bI dN))),eV (b:=dW) (k:=2) (n:=2) rfl (fun ps r e=>match ps,e with | [_,_],e=>⟨rfl,e⟩) h fun io H0 F0 hio=>?_⟩
 exact (aJ (gf (Fw (az (ak 0) aR)) (vL (gm (aN 2) (gm (aN 3) sU)))
    (cD (aW (aq aH.up fO (bf (aq aF.up bG (ak 3) ao)) (aQ 1)))
     (bT (ak 2))
     bA))
   (bT dR))
theorem iH:bZ ["rows","inks","number","row","ink"] ["rows"] (aL (top 31)):=⟨rfl,rfl,rfl,by decide +kernel,rfl,by decide +kernel,by decide +kernel⟩
theorem zX (T:Txt mg) (D:bY K mg "read_inks" (top 31) ["rows"]) {d:Ads} (Z:Xt K mg d) (G_ink_of:FnAt P w K mg base "ink_of" 3 ["row"] (spM K XR0 tU)) (G_number_of_ink:FnAt P w K mg base "number_of_ink" 1 ["inks","name"] (spM K XR0 dX)):wz P w K mg base "read_inks" 4 ["rows"] (spO K (XRS K) jj):=by
 refine bY.okX D iH (fun vs H Q E h=>qm h fun ps r e=>match ps,e with | [_],_=>rfl) (fun f cdv A outer s H vs Q E hr h=>?_)
 refine ⟨_,(aA (bc (i:=1) iH.nd rfl (Or.inl rfl) (eF aC))
   (aA (fY MN rfl (Ka rfl T.b_enumerate (aj (pv 0) aC)) (vh (n:=2) rfl (gj (cQ (i:=2) iH.nd rfl (Or.inl rfl)) (gj (cQ (i:=3) iH.nd rfl (Or.inl rfl)) rY)))
    (aA (bc (i:=4) iH.nd rfl (Or.inl rfl) (bN G_ink_of (hr.mono (by decide)) rfl (aj (pv 3) aC)))
    (aA (cB (PW.pt (pq (aY vA (pv 4) dN (bC _)) (pq (aY (cz hr) (aZ bF rfl T.b_len (by decide +kernel) (aj (pv 1) aC)) (Jj rfl T.c_MOST_INKS) (bC _)) (qW (aY Es (bN G_number_of_ink (hr.mono (by decide)) rfl (aj (pv 1) (aj (aU aM (pv 4) au (fun _ _=>rfl)) aC))) dN (bC _))))))
     (aG (uq (k:=0) Z.u_NoBench (hr.mono (by decide)) rfl uo (aj (pv 2) aC)))
     bz)
    (aG (dZ (eQ Zar Zas PySem.F.type_list_append cX (pv 1) (aj (pv 4) aC)))))))
   (aG (bI (pv 1))))),Ks (b:=fQ) (k:=1) (n:=4) rfl (fun ps r e=>match ps,e with | [_],e=>⟨rfl,e⟩) h fun io H0 F0 hio=>?_⟩
 exact (aJ (dH (i:=1) trivial (eG aR))
   (aJ (gf (Kc (az (ak 0) aR)) (vL (gm (aN 2) (gm (aN 3) sU)))
    (aJ (bJ (Bu (az (ak 3) aR)) (aN 4))
    (aJ (cD (pF (aW (aq aH.up Az (aQ 4) dR)) (pF (aW (aq aH.up fO (bf (bV dF (aQ 1))) (bf ao))) (aW (aq aH.up JC (bf (HF (Ao (aQ 1) (Ao (bf (aq aF.up bG (ak 4) ao)) LR)))) dR))))
     (ur rfl Z.u_NoBench (by decide) (az (ak 2) aR))
     bA)
    (gF (ak 4)))))
   (lO 1 hio)))
theorem lM:bZ ["text","rows","paper"] ["text"] (aL (top 32)):=⟨rfl,rfl,rfl,by decide +kernel,rfl,by decide +kernel,by decide +kernel⟩
theorem xx (T:Txt mg) (D:bY K mg "read_bench" (top 32) ["text"]) {d:Ads} (Z:Xt K mg d) (G_paper_of:FnAt P w K mg base "paper_of" 2 ["row"] (spM K XR0 nJ)) (G_read_inks:wz P w K mg base "read_inks" 4 ["rows"] (spO K (XRS K) jj)):wz P w K mg base "read_bench" 5 ["text"] (spM K (XRS K) dI):=by
 refine bY.okX D lM (fun vs H Q E h=>d9 h fun ps r e=>match ps,e with | [_],_=>rfl) (fun f cdv A outer s H vs Q E hr h=>?_)
 refine ⟨_,(aA (bc (i:=1) lM.nd rfl (Or.inl rfl) (eQ PySem.F.plainAttrs_str ZaV ZaW jK (pv 0) (aj bD aC)))
   (aA (bc (i:=2) lM.nd rfl (Or.inl rfl) (bN G_paper_of (hr.mono (by decide)) rfl (aj (aU aM (pv 1) au (fun _ _=>rfl)) aC)))
   (aA (cB (aY vA (pv 2) dN (bC _))
    (aG (uq (k:=0) Z.u_NoBench (hr.mono (by decide)) rfl uo (aj au aC)))
    bz)
   (aA (cB (aY (cz hr) (aZ bF rfl T.b_len (by decide +kernel) (aj (pv 1) aC)) au (bC _))
    (aG (uq (k:=0) Z.u_NoBench (hr.mono (by decide)) rfl uo (aj au aC)))
    bz)
   (aG (bI (fG (aj (pv 2) (aj (Ku Kl G_read_inks (hr.mono (by decide)) rfl (aj (cO d7 (pv 1) (cR au) dw) aC)) aC))))))))),M8 (b:=fu) (k:=1) (n:=2) rfl (fun ps r e=>match ps,e with | [_],e=>⟨rfl,e⟩) h fun io H0 F0 hio=>?_⟩
 exact (aJ (bJ (cL (jL (ak 0) bx)) (aN 1))
   (aJ (bJ (Bu (az (aq aF.up bG (ak 1) ao) aR)) (aN 2))
   (aJ (cD (aW (aq aH.up Az (aQ 2) dR))
    (ur rfl Z.u_NoBench (by decide) (az ao aR))
    bA)
   (aJ (cD (aW (aq aH.up fO (bf (bV dF (aQ 1))) (bf ao)))
    (ur rfl Z.u_NoBench (by decide) (az ao aR))
    bA)
   (bT (fZ (az (ak 2) (az (cL (jz (az (cL (fP (bH 1) (cV ao) dC)) aR))) aR))))))))
theorem zY:bZ ["_law_script","_law_k"] ["_law_script","_law_k"] (aL (top 34)):=⟨rfl,rfl,rfl,by decide +kernel,rfl,by decide +kernel,by decide +kernel⟩
theorem zZ (T:Txt mg) (D:bY K mg "_law_cell_at" (top 34) ["_law_script","_law_k"]) {d:Ads} (Z:Xt K mg d):FnAt P w K mg base "_law_cell_at" 1 ["_law_script","_law_k"] (spM K XR0 dq):=by
 refine D.ok zY (fun vs H Q E h=>d9 h fun ps r e=>match ps,e with | [_,_],_=>rfl) (fun f cdv A outer s H vs Q E hr h=>?_)
 refine ⟨_,(aA (cB (aY ug (pv 1) (aZ bF rfl T.b_len (by decide +kernel) (aj (pv 0) aC)) (bC _))
    (aG (bI (aU aM (pv 0) (pv 1) (fun _ _=>rfl))))
    bz)
   (aG (bI au))),eV (b:=jT) (k:=2) (n:=0) rfl (fun ps r e=>match ps,e with | [_,_],e=>⟨rfl,e⟩) h fun io H0 F0 hio=>?_⟩
 exact (aJ (cD (aW (aq aF.up Hm (ak 1) (bV dF (aQ 0))))
    (bT (aq aF.up bG (ak 0) (ak 1)))
    bA)
   (bT ao))
theorem qg:bZ ["_law_cell","_law_turn","_law_k"] ["_law_cell","_law_turn"] (aL (top 35)):=⟨rfl,rfl,rfl,by decide +kernel,rfl,by decide +kernel,by decide +kernel⟩
theorem Ck (T:Txt mg) (D:bY K mg "_law_window" (top 35) ["_law_cell","_law_turn"]) {d:Ads} (Z:Xt K mg d):FnAt P w K mg base "_law_window" 1 ["_law_cell","_law_turn"] (spM K XR0 gr):=by
 refine D.ok qg (fun vs H Q E h=>d9 h fun ps r e=>match ps,e with | [_,_],_=>rfl) (fun f cdv A outer s H vs Q E hr h=>?_)
 refine ⟨_,(aA (cB (aY ug (pv 0) (aP vy au au) (bC _))
    (aG (bI (pv 0)))
    bz)
   (aA (fY ZaM rfl (iI rfl T.b_range (aj (aP j4 au (pv 1)) aC)) (cQ (i:=2) qg.nd rfl (Or.inl rfl))
    (aG (bc (i:=0) qg.nd rfl (Or.inl rfl) (aP JZ (pv 0) (aP vy au au)))))
   (aG (bI (aP bw (aP vy au au) (pv 0)))))),eV (b:=jc) (k:=2) (n:=1) rfl (fun ps r e=>match ps,e with | [_,_],e=>⟨rfl,e⟩) h fun io H0 F0 hio=>?_⟩
 exact (aJ (cD (aW (aq aF.up Hm (ak 0) (aq aF.up Aw ao ao)))
    (bT (ak 0))
    bA)
   (aJ (gf (ni (az (aq aF.up uI ao (ak 1)) aR)) (aN 2)
    (bJ (aq aF.up Qu (ak 0) (aq aF.up Aw ao ao)) (aN 0)))
   (bT (aq aF.up cG (aq aF.up Aw ao ao) (ak 0)))))
theorem eE:bZ ["_law_cell","_law_many","_law_found","_law_number","_law_k"] ["_law_cell","_law_many"] (aL (top 36)):=⟨rfl,rfl,rfl,by decide +kernel,rfl,by decide +kernel,by decide +kernel⟩
theorem Cm (T:Txt mg) (D:bY K mg "_law_stream" (top 36) ["_law_cell","_law_many"]) {d:Ads} (Z:Xt K mg d):FnAt P w K mg base "_law_stream" 1 ["_law_cell","_law_many"] (spO K XR0 cN):=by
 refine D.ok eE (fun vs H Q E h=>qm h fun ps r e=>match ps,e with | [_,_],_=>rfl) (fun f cdv A outer s H vs Q E hr h=>?_)
 refine ⟨_,(aA (bc (i:=2) eE.nd rfl (Or.inl rfl) (eF aC))
   (aA (cB (aY RM (pv 0) (aP vy au au) (bC _))
    (aA (bc (i:=3) eE.nd rfl (Or.inl rfl) (aP yL (pv 0) (aP vy au au)))
    (aA (fY ZaM rfl (iI rfl T.b_range (aj (pv 1) aC)) (cQ (i:=4) eE.nd rfl (Or.inl rfl))
     (aA (dZ (eQ Zar Zas PySem.F.type_list_append cX (pv 2) (aj (aP bM (pv 3) au) aC)))
     (aG (bc (i:=3) eE.nd rfl (Or.inl rfl) (aP uV (pv 3) au)))))
    (aG (bI (pv 2)))))
    bz)
   (aA (bc (i:=3) eE.nd rfl (Or.inl rfl) (aP bw (aP bM (pv 0) au) au))
   (aA (fY ZaM rfl (iI rfl T.b_range (aj (pv 1) aC)) (cQ (i:=4) eE.nd rfl (Or.inl rfl))
    (aA (bc (i:=3) eE.nd rfl (Or.inl rfl) (aP bw (aP bw (aP bw (aP j4 (pv 3) (pv 3)) (aP j4 au (pv 3))) (aP j4 au (pv 4))) au))
    (aA (bc (i:=3) eE.nd rfl (Or.inl rfl) (aP bM (pv 3) au))
    (aG (dZ (eQ Zar Zas PySem.F.type_list_append cX (pv 2) (aj (aP uV (pv 3) au) aC)))))))
   (aG (bI (pv 2))))))),tG (b:=lF) (k:=2) (n:=3) rfl (fun ps r e=>match ps,e with | [_,_],e=>⟨rfl,e⟩) h fun io H0 F0 hio=>?_⟩
 exact (aJ (dH (i:=2) trivial (eG aR))
   (aJ (cD (aW (aq aF.up T9 (ak 0) (aq aF.up Aw ao ao)))
    (aJ (bJ (aq aF.up Fp (ak 0) (aq aF.up Aw ao ao)) (aN 3))
    (aJ (gf (ni (az (ak 1) aR)) (aN 4)
     (aJ (gF (aq aF.up cJ (ak 3) ao))
     (bJ (aq aF.up Fq (ak 3) ao) (aN 3))))
    (lO 2 hio)))
    bA)
   (aJ (bJ (aq aF.up cG (aq aF.up cJ (ak 0) ao) ao) (aN 3))
   (aJ (gf (ni (az (ak 1) aR)) (aN 4)
    (aJ (bJ (aq aF.up cG (aq aF.up cG (aq aF.up cG (aq aF.up uI (ak 3) (ak 3)) (aq aF.up uI ao (ak 3))) (aq aF.up uI ao (ak 4))) ao) (aN 3))
    (aJ (bJ (aq aF.up cJ (ak 3) ao) (aN 3))
    (gF (aq aF.up Fq (ak 3) ao)))))
   (lO 2 hio)))))
theorem fB:bZ ["_law_cell","_law_many","_law_letters","_law_some","_law_base","_law_at","_law_words_here","_law_k","_law_number","_law_two"] ["_law_cell","_law_many"] (aL (top 37)):=⟨rfl,rfl,rfl,by decide +kernel,rfl,by decide +kernel,by decide +kernel⟩
theorem Ek (T:Txt mg) (D:bY K mg "_law_words" (top 37) ["_law_cell","_law_many"]) {d:Ads} (Z:Xt K mg d) (G__law_stream:FnAt P w K mg base "_law_stream" 1 ["_law_cell","_law_many"] (spO K XR0 cN)):FnAt P w K mg base "_law_words" 2 ["_law_cell","_law_many"] (spO K XR0 gW):=by
 refine D.ok fB (fun vs H Q E h=>qm h fun ps r e=>match ps,e with | [_,_],_=>rfl) (fun f cdv A outer s H vs Q E hr h=>?_)
 refine ⟨_,(aA (bc (i:=2) fB.nd rfl (Or.inr rfl) bD)
   (aA (bc (i:=3) fB.nd rfl (Or.inl rfl) (bN G__law_stream (hr.mono (by decide)) rfl (aj (pv 0) (aj au aC))))
   (aA (bc (i:=4) fB.nd rfl (Or.inl rfl) (eQ PySem.F.plainAttrs_str PySem.F.slot_str_join PySem.F.type_str_join sE bD (aj (ql ["_law_one","_law_letters"] [none,some 2] rfl (iZ (cO d7 (pv 3) dw (cR (aP bM (aU aM (pv 3) au (fun _ _=>rfl)) au)))) (fun _ _ _ _ _=>(jH (i:=0) (by decide +kernel) rfl rfl)) (fun _ _ _ _ _=>qY) (fun _ _ _ _ _=>(aU qp (pvf 1) (aP bM (pvl 0) au) (fun _ _=>rfl)))) aC)))
   (aA (bc (i:=5) fB.nd rfl (Or.inl rfl) (aP bM (aU aM (pv 3) au (fun _ _=>rfl)) (aP bw (aZ bF rfl T.b_len (by decide +kernel) (aj (pv 4) aC)) au)))
   (aA (bc (i:=6) fB.nd rfl (Or.inl rfl) (eF aC))
   (aA (fY ZaM rfl (iI rfl T.b_range (aj (pv 1) aC)) (cQ (i:=7) fB.nd rfl (Or.inl rfl))
    (aA (bc (i:=8) fB.nd rfl (Or.inl rfl) (aP bM (aP bw (aU aM (pv 3) au (fun _ _=>rfl)) (aP j4 (aP bw au (aP bM (aU aM (pv 3) au (fun _ _=>rfl)) au)) (pv 7))) au))
    (aA (bc (i:=9) fB.nd rfl (Or.inl rfl) (aP bw (aU aM (pv 2) (aP bM (aP j4 (pv 8) au) au) (fun _ _=>rfl)) (aU aM (pv 2) (pv 8) (fun _ _=>rfl))))
    (aG (cB (aY (cz hr) (aP bM (aU aM (pv 3) au (fun _ _=>rfl)) au) au (bC _))
     (aG (dZ (eQ Zar Zas PySem.F.type_list_append cX (pv 6) (aj (aP bw (aP bw (cO CQ (pv 4) dw (cR (pv 5))) (pv 9)) (cO CQ (pv 4) (cR (pv 5)) dw)) aC))))
     (aG (cB (aY (cz hr) (aP bM (aU aM (pv 3) au (fun _ _=>rfl)) au) au (bC _))
      (aG (dZ (eQ Zar Zas PySem.F.type_list_append cX (pv 6) (aj (aP bw (pv 9) (cO CQ (pv 4) dw (cR (aP bM (pv 7) (aP bw (aZ bF rfl T.b_len (by decide +kernel) (aj (pv 4) aC)) au))))) aC))))
      (aG (dZ (eQ Zar Zas PySem.F.type_list_append cX (pv 6) (aj (aP bw (aU aM (pv 2) (pv 8) (fun _ _=>rfl)) (pv 4)) aC)))))))))))
   (aG (bI (pv 6))))))))),tG (b:=nR) (k:=2) (n:=8) rfl (fun ps r e=>match ps,e with | [_,_],e=>⟨rfl,e⟩) h fun io H0 F0 hio=>?_⟩
 exact (aJ (bJ bx (aN 2))
   (aJ (bJ (cL (jz (az (ak 0) (az ao aR)))) (aN 3))
   (aJ (bJ (tD bx (cU (uZ (m8 (cL (fP (bH 3) dC (cV (aq aF.up cJ (aq aF.up bG (ak 3) ao) ao))))) (aN 0) (nj 0) q9 (aq aF.up bG (ak 1) (aq aF.up cJ (ak 0) ao))))) (aN 4))
   (aJ (bJ (aq aF.up cJ (aq aF.up bG (ak 3) ao) (aq aF.up cG (bV dF (aQ 4)) ao)) (aN 5))
   (aJ (dH (i:=6) trivial (eG aR))
   (aJ (gf (ni (az (ak 1) aR)) (aN 7)
    (aJ (bJ (aq aF.up cJ (aq aF.up cG (aq aF.up bG (ak 3) ao) (aq aF.up uI (aq aF.up cG ao (aq aF.up cJ (aq aF.up bG (ak 3) ao) ao)) (ak 7))) ao) (aN 8))
    (aJ (bJ (aq aF.up cG (aq aF.up bG (ak 2) (aq aF.up cJ (aq aF.up uI (ak 8) ao) ao)) (aq aF.up bG (ak 2) (ak 8))) (aN 9))
    (cD (aW (aq aH.up fO (bf (aq aF.up cJ (aq aF.up bG (ak 3) ao) ao)) (bf ao)))
     (gF (aq aF.up cG (aq aF.up cG (De (ak 4) dC (cV (ak 5))) (ak 9)) (De (ak 4) (cV (ak 5)) dC)))
     (cD (aW (aq aH.up fO (bf (aq aF.up cJ (aq aF.up bG (ak 3) ao) ao)) (bf ao)))
      (gF (aq aF.up cG (ak 9) (De (ak 4) dC (cV (aq aF.up cJ (ak 7) (aq aF.up cG (bV dF (aQ 4)) ao))))))
      (gF (aq aF.up cG (aq aF.up bG (ak 2) (ak 8)) (ak 4))))))))
   (lO 6 hio)))))))
theorem yE:bZ ["_law_pairs","_law_colours","_law_some","_law_under"] ["_law_pairs","_law_colours","_law_some"] (aL (top 38)):=⟨rfl,rfl,rfl,by decide +kernel,rfl,by decide +kernel,by decide +kernel⟩
theorem IW (T:Txt mg) (D:bY K mg "_law_pair" (top 38) ["_law_pairs","_law_colours","_law_some"]) {d:Ads} (Z:Xt K mg d):FnAt P w K mg base "_law_pair" 1 ["_law_pairs","_law_colours","_law_some"] (JP K 0 jk):=by
 refine D.ok yE (fun vs H Q E h=>JR h fun ps r e=>match ps,e with | [_,_,_],_=>rfl) (fun f cdv A outer s H vs Q E hr h=>?_)
 refine ⟨_,(aA (bc (i:=3) yE.nd rfl (Or.inl rfl) (aU aM (pv 1) (aP bM (aU aM (pv 2) au (fun _ _=>rfl)) (aZ bF rfl T.b_len (by decide +kernel) (aj (pv 1) aC))) (fun _ _=>rfl)))
   (aG (cB (PW.pt (ph (aY ug (aZ bF rfl T.b_len (by decide +kernel) (aj (pv 0) aC)) au (bC _)) (qj (aY (xV hr) (pv 3) (ql ["_law_pair_here"] [none] rfl (iZ (pv 0)) (fun _ _ _ _ _=>(jH (i:=0) (by decide +kernel) rfl rfl)) (fun _ _ _ _ _=>qY) (fun _ _ _ _ _=>(aU qp (pvl 0) au (fun _ _=>rfl)))) (by with_unfolding_all rfl)))))
    (aG (dZ (eQ Zar Zas PySem.F.type_list_append cX (pv 0) (aj (fG (aj (pv 3) (aj (aU aM (pv 1) (aP bM (aU aM (pv 2) au (fun _ _=>rfl)) (aZ bF rfl T.b_len (by decide +kernel) (aj (pv 1) aC))) (fun _ _=>rfl)) aC))) aC))))
    bz))),JQ (b:=pY) (k:=3) (n:=1) rfl (fun ps r e=>match ps,e with | [_,_,_],e=>⟨rfl,e⟩) h fun ioa H0 F0=>?_⟩
 exact (aJ (bJ (aq aF.up bG (ak 1) (aq aF.up cJ (aq aF.up bG (ak 2) ao) (bV dF (aQ 1)))) (aN 3))
   (cD (pD (aW (aq aF.up Hm (bV dF (aQ 0)) ao)) (aW (aq aH.up Ft (aQ 3) (bf (cL (sZ (vP (bH 0)) (aN 0) (nj 0) q9 (aq aF.up bG (ak 0) ao)))))))
    (gF (fZ (az (ak 3) (az (aq aF.up bG (ak 1) (aq aF.up cJ (aq aF.up bG (ak 2) ao) (bV dF (aQ 1)))) aR))))
    bA))
theorem qi:bZ ["_law_name","_law_cells","_law_colours","_law_pairs","_law_k","_law_cell","_law_some"] ["_law_name","_law_cells","_law_colours"] (aL (top 39)):=⟨rfl,rfl,rfl,by decide +kernel,rfl,by decide +kernel,by decide +kernel⟩
theorem Lf (T:Txt mg) (D:bY K mg "_law_ink" (top 39) ["_law_name","_law_cells","_law_colours"]) {d:Ads} (Z:Xt K mg d) (G__law_stream:FnAt P w K mg base "_law_stream" 1 ["_law_cell","_law_many"] (spO K XR0 cN)) (G__law_pair:FnAt P w K mg base "_law_pair" 1 ["_law_pairs","_law_colours","_law_some"] (JP K 0 jk)):FnAt P w K mg base "_law_ink" 2 ["_law_name","_law_cells","_law_colours"] (spM K XR0 jU):=by
 refine D.ok qi (fun vs H Q E h=>d9 h fun ps r e=>match ps,e with | [_,_,_],_=>rfl) (fun f cdv A outer s H vs Q E hr h=>?_)
 refine ⟨_,(aA (bc (i:=3) qi.nd rfl (Or.inl rfl) (eF aC))
   (aA (fY ZaM rfl (Ey rfl T.b_enumerate (aj (pv 1) aC)) (vh (n:=2) rfl (gj (cQ (i:=4) qi.nd rfl (Or.inl rfl)) (gj (cQ (i:=5) qi.nd rfl (Or.inl rfl)) rY)))
    (aA (bc (i:=6) qi.nd rfl (Or.inl rfl) (bN G__law_stream (hr.mono (by decide)) rfl (aj (aP bw (pv 5) (aP j4 au (pv 4))) (aj au aC))))
    (aA (cB (PW.pt (ph (aY (cz hr) (pv 4) au (bC _)) (qj (aY (cz hr) (aP bM (aU aM (pv 6) au (fun _ _=>rfl)) au) au (bC _)))))
     (aG (bI (fG (aj bD (aj (pv 0) (aj (aU aM (pv 2) (aP bM (aU aM (pv 6) au (fun _ _=>rfl)) (aZ bF rfl T.b_len (by decide +kernel) (aj (pv 2) aC))) (fun _ _=>rfl)) aC))))))
     bz)
    (aG (dZ (bN G__law_pair (hr.mono (by decide)) rfl (aj (pv 3) (aj (pv 2) (aj (pv 6) aC)))))))))
   (aG (bI (fG (aj bD (aj (pv 0) (aj (lN lu rfl T.b_tuple (by decide +kernel) (aj (pv 3) aC)) aC)))))))),eV (b:=rN) (k:=3) (n:=4) rfl (fun ps r e=>match ps,e with | [_,_,_],e=>⟨rfl,e⟩) h fun io H0 F0 hio=>?_⟩
 exact (aJ (dH (i:=3) trivial (eG aR))
   (aJ (gf (Fw (az (ak 1) aR)) (vL (gm (aN 4) (gm (aN 5) sU)))
    (aJ (bJ (cL (jz (az (aq aF.up cG (ak 5) (aq aF.up uI ao (ak 4))) (az ao aR)))) (aN 6))
    (aJ (cD (pD (aW (aq aH.up fO (aQ 4) (bf ao))) (aW (aq aH.up fO (bf (aq aF.up cJ (aq aF.up bG (ak 6) ao) ao)) (bf ao))))
     (bT (fZ (az bx (az (ak 0) (az (aq aF.up bG (ak 2) (aq aF.up cJ (aq aF.up bG (ak 6) ao) (bV dF (aQ 2)))) aR)))))
     bA)
    (S8 (JS (az (ak 2) (az (ak 6) aR)))))))
   (bT (fZ (az bx (az (ak 0) (az (bV JL (bH 3)) aR)))))))
theorem eO:bZ ["_law_script","_law_first","_law_words_here","_law_many","_law_colours","_law_inks","_law_k","_law_name","_law_cells"] ["_law_script"] (aL (top 40)):=⟨rfl,rfl,rfl,by decide +kernel,rfl,by decide +kernel,by decide +kernel⟩
theorem El (T:Txt mg) (D:bY K mg "_law_bench" (top 40) ["_law_script"]) {d:Ads} (Z:Xt K mg d) (G__law_stream:FnAt P w K mg base "_law_stream" 1 ["_law_cell","_law_many"] (spO K XR0 cN)) (G__law_cell_at:FnAt P w K mg base "_law_cell_at" 1 ["_law_script","_law_k"] (spM K XR0 dq)) (G__law_words:FnAt P w K mg base "_law_words" 2 ["_law_cell","_law_many"] (spO K XR0 gW)) (G__law_ink:FnAt P w K mg base "_law_ink" 2 ["_law_name","_law_cells","_law_colours"] (spM K XR0 jU)):FnAt P w K mg base "_law_bench" 3 ["_law_script"] (spM K XR0 gY):=by
 refine D.ok eO (fun vs H Q E h=>d9 h fun ps r e=>match ps,e with | [_],_=>rfl) (fun f cdv A outer s H vs Q E hr h=>?_)
 refine ⟨_,(aA (bc (i:=1) eO.nd rfl (Or.inl rfl) (bN G__law_stream (hr.mono (by decide)) rfl (aj (bN G__law_cell_at (hr.mono (by decide)) rfl (aj (pv 0) (aj au aC))) (aj au aC))))
   (aA (bc (i:=2) eO.nd rfl (Or.inl rfl) (bN G__law_words (hr.mono (by decide)) rfl (aj (bN G__law_cell_at (hr.mono (by decide)) rfl (aj (pv 0) (aj au aC))) (aj au aC))))
   (aA (bc (i:=3) eO.nd rfl (Or.inl rfl) (aP bw au (aP bM (aU aM (pv 1) au (fun _ _=>rfl)) au)))
   (aA (bc (i:=4) eO.nd rfl (Or.inl rfl) (cO d7 (pv 2) dw (cR (aU aM (eF (aj (aP bw au (aP bM (aU aM (pv 1) au (fun _ _=>rfl)) au)) (aj au aC))) (aP bM (aP uV (aU aM (pv 1) au (fun _ _=>rfl)) au) au) (fun _ _=>rfl)))))
   (aA (bc (i:=5) eO.nd rfl (Or.inl rfl) (eF aC))
   (aA (fY ZaM rfl (iI rfl T.b_range (aj (pv 3) aC)) (cQ (i:=6) eO.nd rfl (Or.inl rfl))
    (aA (bc (i:=7) eO.nd rfl (Or.inl rfl) (aU aM (pv 2) (aP bM (aP bw (aU aM (pv 1) au (fun _ _=>rfl)) (aP j4 (aP bw au (aP bM (aU aM (pv 1) au (fun _ _=>rfl)) au)) (pv 6))) au) (fun _ _=>rfl)))
    (aA (bc (i:=8) eO.nd rfl (Or.inl rfl) (Hg (pv 0) (cR (aP bw au (pv 6))) (cR au) (cR (pv 3))))
    (aA (cB (aY (cz hr) (pv 8) (eF aC) (bC _))
     (aG (bc (i:=8) eO.nd rfl (Or.inl rfl) (eF (aj (aP bw (aU aM (pv 1) au (fun _ _=>rfl)) (pv 6)) aC))))
     bz)
    (aG (dZ (eQ Zar Zas PySem.F.type_list_append cX (pv 5) (aj (bN G__law_ink (hr.mono (by decide)) rfl (aj (pv 7) (aj (pv 8) (aj (pv 4) aC)))) aC))))))))
   (aG (bI (fG (aj (aU aM (pv 4) (aP bM (aU aM (pv 1) au (fun _ _=>rfl)) (aZ bF rfl T.b_len (by decide +kernel) (aj (pv 4) aC))) (fun _ _=>rfl)) (aj (pv 5) aC))))))))))),eV (b:=nY) (k:=1) (n:=8) rfl (fun ps r e=>match ps,e with | [_],e=>⟨rfl,e⟩) h fun io H0 F0 hio=>?_⟩
 exact (aJ (bJ (cL (jz (az (d8 (az (ak 0) (az ao aR))) (az ao aR)))) (aN 1))
   (aJ (bJ (cL (jz (az (d8 (az (ak 0) (az ao aR))) (az ao aR)))) (aN 2))
   (aJ (bJ (aq aF.up cG ao (aq aF.up cJ (aq aF.up bG (ak 1) ao) ao)) (aN 3))
   (aJ (bJ (cL (fP (bH 2) dC (cV (aq aV.up Ow (cU (eG (az (aq aF.up cG ao (aq aF.up cJ (aq aF.up bG (ak 1) ao) ao)) (az ao aR)))) (aq aF.up cJ (aq aF.up Fq (aq aF.up bG (ak 1) ao) ao) ao))))) (aN 4))
   (aJ (dH (i:=5) trivial (eG aR))
   (aJ (gf (ni (az (ak 3) aR)) (aN 6)
    (aJ (bJ (aq aF.up bG (ak 2) (aq aF.up cJ (aq aF.up cG (aq aF.up bG (ak 1) ao) (aq aF.up uI (aq aF.up cG ao (aq aF.up cJ (aq aF.up bG (ak 1) ao) ao)) (ak 6))) ao)) (aN 7))
    (aJ (bJ (cL (Qp (bH 0) (cV (aq aF.up cG ao (ak 6))) (cV ao) (cV (ak 3)))) (aN 8))
    (aJ (cD (aW (aq aH.up fO (aQ 8) (bf (cL (eG aR)))))
     (bJ (cL (eG (az (aq aF.up cG (aq aF.up bG (ak 1) ao) (ak 6)) aR))) (aN 8))
     bA)
    (gF (d8 (az (ak 7) (az (ak 8) (az (ak 4) aR)))))))))
   (CW 5 hio (bT (fZ (az (aq aF.up bG (ak 4) (aq aF.up cJ (aq aF.up bG (ak 1) ao) (bV dF (aQ 4)))) (az (ak 5) aR)))))))))))
theorem iW:bZ ["_law_bench_here","_law_rows_here","_law_ink_here","_law_words_here","_law_under","_law_over"] ["_law_bench_here"] (aL (top 41)):=⟨rfl,rfl,rfl,by decide +kernel,rfl,by decide +kernel,by decide +kernel⟩
theorem Ja (T:Txt mg) (D:bY K mg "_law_rows" (top 41) ["_law_bench_here"]) {d:Ads} (Z:Xt K mg d):FnAt P w K mg base "_law_rows" 1 ["_law_bench_here"] (spO K XR0 kh):=by
 refine D.ok iW (fun vs H Q E h=>qm h fun ps r e=>match ps,e with | [_],_=>rfl) (fun f cdv A outer s H vs Q E hr h=>?_)
 refine ⟨_,(aA (bc (i:=1) iW.nd rfl (Or.inl rfl) (eF (aj (aP bw bD (aU aM (pv 0) au (fun _ _=>rfl))) aC)))
   (aA (fY ZaM rfl (iZ (aU aM (pv 0) au (fun _ _=>rfl))) (cQ (i:=2) iW.nd rfl (Or.inl rfl))
    (aA (bc (i:=3) iW.nd rfl (Or.inl rfl) (eF (aj (aU aM (pv 2) au (fun _ _=>rfl)) (aj (aU aM (pv 2) au (fun _ _=>rfl)) aC))))
    (aA (cB (aY (cz hr) (aU aM (pv 2) au (fun _ _=>rfl)) bD (bC _))
     (aG (dZ (eQ Zar Zas PySem.F.type_list_append cX (pv 3) (aj (aU aM (pv 2) au (fun _ _=>rfl)) aC))))
     (aG (fY ZaM rfl (iZ (aU aM (pv 2) au (fun _ _=>rfl))) (vh (n:=2) rfl (gj (cQ (i:=4) iW.nd rfl (Or.inl rfl)) (gj (cQ (i:=5) iW.nd rfl (Or.inl rfl)) rY)))
      (aG (bc (i:=3) iW.nd rfl (Or.inl rfl) (aP iY (pv 3) (eF (aj (pv 4) (aj (pv 5) aC)))))))))
    (aG (dZ (eQ Zar Zas PySem.F.type_list_append cX (pv 1) (aj (eQ PySem.F.plainAttrs_str PySem.F.slot_str_join PySem.F.type_str_join sE bD (aj (pv 3) aC)) aC)))))))
   (aG (bI (pv 1))))),tG (b:=j9) (k:=1) (n:=5) rfl (fun ps r e=>match ps,e with | [_],e=>⟨rfl,e⟩) h fun io H0 F0 hio=>?_⟩
 exact (aJ (dH (i:=1) trivial (eG (az (aq aF.up cG bx (aq aF.up bG (ak 0) ao)) aR)))
   (aJ (gf (m8 (aq aF.up bG (ak 0) ao)) (aN 2)
    (aJ (dH (i:=3) trivial (eG (az (aq aF.up bG (ak 2) ao) (az (aq aF.up bG (ak 2) ao) aR))))
    (aJ (cD (aW (aq aH.up fO (bf (aq aF.up bG (ak 2) ao)) (bf bx)))
     (gF (aq aF.up bG (ak 2) ao))
     (gf (m8 (aq aF.up bG (ak 2) ao)) (vL (gm (aN 4) (gm (aN 5) sU)))
      (dH (i:=3) trivial (qG aV.up qH (bH 3) (cU (eG (az (ak 4) (az (ak 5) aR))))))))
    (gF (tD bx (bH 3))))))
   (lO 1 hio)))
theorem w5:bZ ["_law_rows_here","_law_some","_law_words_here","_law_odd_here"] ["_law_rows_here","_law_some"] (aL (top 42)):=⟨rfl,rfl,rfl,by decide +kernel,rfl,by decide +kernel,by decide +kernel⟩
theorem Lg (T:Txt mg) (D:bY K mg "_law_odd" (top 42) ["_law_rows_here","_law_some"]) {d:Ads} (Z:Xt K mg d):FnAt P w K mg base "_law_odd" 1 ["_law_rows_here","_law_some"] (spM K XR0 iR):=by
 refine D.ok w5 (fun vs H Q E h=>d9 h fun ps r e=>match ps,e with | [_,_],_=>rfl) (fun f cdv A outer s H vs Q E hr h=>?_)
 refine ⟨_,(aA (bc (i:=2) w5.nd rfl (Or.inl rfl) (eQ PySem.F.plainAttrs_str ZaV ZaW jK (aU aM (pv 0) (aP bM (aU aM (pv 1) au (fun _ _=>rfl)) (aZ bF rfl T.b_len (by decide +kernel) (aj (pv 0) aC))) (fun _ _=>rfl)) (aj bD aC)))
   (aA (bc (i:=3) w5.nd rfl (Or.inl rfl) (eF (aj bD (aj bD (aj bD (aj bD (aj bD (aj bD (aj bD (aj bD (aj bD (aj bD (aj bD (aj bD (aj bD aC)))))))))))))))
   (aA (cB (aY (cz hr) (aP bM (aU aM (pv 1) au (fun _ _=>rfl)) au) au (bC _))
    (aG (bI (aU aM (pv 2) (aP bM (aU aM (pv 1) au (fun _ _=>rfl)) (aZ bF rfl T.b_len (by decide +kernel) (aj (pv 2) aC))) (fun _ _=>rfl))))
    bz)
   (aG (bI (aU aM (pv 3) (aP bM (aP uV (aU aM (pv 1) au (fun _ _=>rfl)) au) au) (fun _ _=>rfl))))))),eV (b:=nZ) (k:=2) (n:=2) rfl (fun ps r e=>match ps,e with | [_,_],e=>⟨rfl,e⟩) h fun io H0 F0 hio=>?_⟩
 exact (aJ (bJ (cL (jL (aq aF.up bG (ak 0) (aq aF.up cJ (aq aF.up bG (ak 1) ao) (bV dF (aQ 0)))) bx)) (aN 2))
   (aJ (bJ (cL (eG (az bx (az bx (az bx (az bx (az bx (az bx (az bx (az bx (az bx (az bx (az bx (az bx (az bx aR))))))))))))))) (aN 3))
   (aJ (cD (aW (aq aH.up fO (bf (aq aF.up cJ (aq aF.up bG (ak 1) ao) ao)) (bf ao)))
    (bT (aq aF.up bG (ak 2) (aq aF.up cJ (aq aF.up bG (ak 1) ao) (bV dF (aQ 2)))))
    bA)
   (bT (aq aF.up bG (ak 3) (aq aF.up cJ (aq aF.up Fq (aq aF.up bG (ak 1) ao) ao) ao))))))
theorem fj:bZ ["_law_rows_here","_law_way","_law_some","_law_letters","_law_made","_law_k","_law_words_here","_law_two"] ["_law_rows_here","_law_way","_law_some"] (aL (top 43)):=⟨rfl,rfl,rfl,by decide +kernel,rfl,by decide +kernel,by decide +kernel⟩
theorem Cp (T:Txt mg) (D:bY K mg "_law_put_on" (top 43) ["_law_rows_here","_law_way","_law_some"]) {d:Ads} (Z:Xt K mg d):FnAt P w K mg base "_law_put_on" 1 ["_law_rows_here","_law_way","_law_some"] (spO K XR0 gw):=by
 refine D.ok fj (fun vs H Q E h=>qm h fun ps r e=>match ps,e with | [_,_,_],_=>rfl) (fun f cdv A outer s H vs Q E hr h=>?_)
 refine ⟨_,(aA (bc (i:=3) fj.nd rfl (Or.inl rfl) bD)
   (aA (bc (i:=4) fj.nd rfl (Or.inl rfl) (lN yQ rfl T.b_list (by decide +kernel) (aj (pv 0) aC)))
   (aA (cB (aY (cz hr) (pv 1) au (bC _))
    (aG (fY ZaM rfl (iI rfl T.b_range (aj (aP yL (aP bw au (aP bM (aU aM (pv 2) au (fun _ _=>rfl)) au)) (aZ bF rfl T.b_len (by decide +kernel) (aj (pv 0) aC))) aC)) (cQ (i:=5) fj.nd rfl (Or.inl rfl))
     (aG (dZ (eQ Zar Zas PySem.F.type_list_append cX (pv 4) (aj (aP bw (aP bw (aP bw (aP bw bD bD) (aU aM (pv 3) (pv 5) (fun _ _=>rfl))) bD) (aU aM (pv 3) (aP bM (aU aM (pv 2) au (fun _ _=>rfl)) au) (fun _ _=>rfl))) aC))))))
    bz)
   (aA (cB (aY (cz hr) (pv 1) au (bC _))
    (aA (bc (i:=6) fj.nd rfl (Or.inl rfl) (eF (aj bD (aj bD aC))))
    (aA (fY ZaM rfl (iI rfl T.b_range (aj (aP bw au (aP bM (aU aM (pv 2) au (fun _ _=>rfl)) au)) aC)) (cQ (i:=5) fj.nd rfl (Or.inl rfl))
     (aG (bc (i:=6) fj.nd rfl (Or.inl rfl) (aP iY (pv 6) (eF (aj (aP bw (aU aM (pv 3) (pv 5) (fun _ _=>rfl)) (aU aM (pv 3) (aP bM (aU aM (pv 2) au (fun _ _=>rfl)) au) (fun _ _=>rfl))) (aj (aU aM (pv 3) (aP bM (aU aM (pv 2) au (fun _ _=>rfl)) au) (fun _ _=>rfl)) aC)))))))
    (aG (dZ (eQ Zar PySem.F.slot_list_insert PySem.F.type_list_insert Hy (pv 4) (aj (aP bw au (aP bM (aU aM (pv 2) au (fun _ _=>rfl)) (aZ bF rfl T.b_len (by decide +kernel) (aj (pv 0) aC)))) (aj (eQ PySem.F.plainAttrs_str PySem.F.slot_str_join PySem.F.type_str_join sE bD (aj (pv 6) aC)) aC)))))))
    bz)
   (aA (cB (aY (cz hr) (pv 1) au (bC _))
    (aA (bc (i:=7) fj.nd rfl (Or.inl rfl) (aU aM (pv 3) (aP bM (aP bw (aU aM (pv 2) au (fun _ _=>rfl)) (aP bM (aU aM (pv 2) au (fun _ _=>rfl)) au)) au) (fun _ _=>rfl)))
    (aG (dZ (eQ Zar Zas PySem.F.type_list_append cX (pv 4) (aj (aP bw (aP bw (aP bw (aP bw bD (aU aM (pv 3) (aP bM (aU aM (pv 2) au (fun _ _=>rfl)) au) (fun _ _=>rfl))) bD) (pv 7)) bD) aC)))))
    bz)
   (aG (bI (pv 4)))))))),tG (b:=jd) (k:=3) (n:=5) rfl (fun ps r e=>match ps,e with | [_,_,_],e=>⟨rfl,e⟩) h fun io H0 F0 hio=>?_⟩
 exact (aJ (bJ bx (aN 3))
   (aJ (dH (i:=4) trivial (JK Qo (bH 0)))
   (aJ (cD (aW (aq aH.up fO (aQ 1) (bf ao)))
    (gf (ni (az (aq aF.up Fp (aq aF.up cG ao (aq aF.up cJ (aq aF.up bG (ak 2) ao) ao)) (bV dF (aQ 0))) aR)) (aN 5)
     (gF (aq aF.up cG (aq aF.up cG (aq aF.up cG (aq aF.up cG bx bx) (aq aF.up bG (ak 3) (ak 5))) bx) (aq aF.up bG (ak 3) (aq aF.up cJ (aq aF.up bG (ak 2) ao) ao)))))
    bA)
   (aJ (cD (aW (aq aH.up fO (aQ 1) (bf ao)))
    (aJ (bJ (cL (eG (az bx (az bx aR)))) (aN 6))
    (aJ (gf (ni (az (aq aF.up cG ao (aq aF.up cJ (aq aF.up bG (ak 2) ao) ao)) aR)) (aN 5)
     (bJ (cL (qG aV.up qH (bH 6) (cU (eG (az (aq aF.up cG (aq aF.up bG (ak 3) (ak 5)) (aq aF.up bG (ak 3) (aq aF.up cJ (aq aF.up bG (ak 2) ao) ao))) (az (aq aF.up bG (ak 3) (aq aF.up cJ (aq aF.up bG (ak 2) ao) ao)) aR)))))) (aN 6)))
    (Qz (aq aF.up cG ao (aq aF.up cJ (aq aF.up bG (ak 2) ao) (bV dF (aQ 0)))) (tD bx (bH 6)))))
    bA)
   (aJ (cD (aW (aq aH.up fO (aQ 1) (bf ao)))
    (aJ (bJ (aq aF.up bG (ak 3) (aq aF.up cJ (aq aF.up cG (aq aF.up bG (ak 2) ao) (aq aF.up cJ (aq aF.up bG (ak 2) ao) ao)) ao)) (aN 7))
    (gF (aq aF.up cG (aq aF.up cG (aq aF.up cG (aq aF.up cG bx (aq aF.up bG (ak 3) (aq aF.up cJ (aq aF.up bG (ak 2) ao) ao))) bx) (ak 7)) bx)))
    bA)
   (lO 4 hio))))))
theorem bW:bZ ["_law_rows_here","_law_cell","_law_some","_law_way","_law_at","_law_other_here","_law_words_here","_law_place","_law_made"] ["_law_rows_here","_law_cell"] (aL (top 44)):=⟨rfl,rfl,rfl,by decide +kernel,rfl,by decide +kernel,by decide +kernel⟩
theorem z6 (T:Txt mg) (D:bY K mg "_law_changed" (top 44) ["_law_rows_here","_law_cell"]) {d:Ads} (Z:Xt K mg d) (G__law_stream:FnAt P w K mg base "_law_stream" 1 ["_law_cell","_law_many"] (spO K XR0 cN)) (G__law_odd:FnAt P w K mg base "_law_odd" 1 ["_law_rows_here","_law_some"] (spM K XR0 iR)) (G__law_put_on:FnAt P w K mg base "_law_put_on" 1 ["_law_rows_here","_law_way","_law_some"] (spO K XR0 gw)):FnAt P w K mg base "_law_changed" 2 ["_law_rows_here","_law_cell"] (spO K XR0 fV):=by
 refine D.ok bW (fun vs H Q E h=>qm h fun ps r e=>match ps,e with | [_,_],_=>rfl) (fun f cdv A outer s H vs Q E hr h=>?_)
 refine ⟨_,(aA (bc (i:=2) bW.nd rfl (Or.inl rfl) (bN G__law_stream (hr.mono (by decide)) rfl (aj (aP bw (pv 1) au) (aj au aC))))
   (aA (bc (i:=3) bW.nd rfl (Or.inl rfl) (aP bM (aU aM (pv 2) au (fun _ _=>rfl)) au))
   (aA (bc (i:=4) bW.nd rfl (Or.inl rfl) (aP bM (aU aM (pv 2) au (fun _ _=>rfl)) (aZ bF rfl T.b_len (by decide +kernel) (aj (pv 0) aC))))
   (aA (bc (i:=5) bW.nd rfl (Or.inl rfl) (aP bM (aU aM (pv 2) au (fun _ _=>rfl)) (aZ bF rfl T.b_len (by decide +kernel) (aj (pv 0) aC))))
   (aA (bc (i:=6) bW.nd rfl (Or.inl rfl) (eQ PySem.F.plainAttrs_str ZaV ZaW jK (aU aM (pv 0) (pv 4) (fun _ _=>rfl)) (aj bD aC)))
   (aA (bc (i:=7) bW.nd rfl (Or.inl rfl) (aP bM (aU aM (pv 2) au (fun _ _=>rfl)) (aZ bF rfl T.b_len (by decide +kernel) (aj (pv 6) aC))))
   (aA (cB (aY ug (pv 3) au (bC _))
    (aG (vm (bN G__law_odd (hr.mono (by decide)) rfl (aj (pv 0) (aj (pv 2) aC))) (yK (pv 6) (pv 7) set_list)))
    bz)
   (aA (cB (aY (cz hr) (pv 3) au (bC _))
    (aG (bc (i:=6) bW.nd rfl (Or.inl rfl) (aP iY (cO d7 (pv 6) dw (cR (pv 7))) (cO d7 (pv 6) (cR (aP bw (pv 7) au)) dw))))
    bz)
   (aA (cB (aY (cz hr) (pv 3) au (bC _))
    (aA (bc (i:=7) bW.nd rfl (Or.inl rfl) (aP bM (aU aM (pv 2) au (fun _ _=>rfl)) (aP bw (aZ bF rfl T.b_len (by decide +kernel) (aj (pv 6) aC)) au)))
    (aG (bc (i:=6) bW.nd rfl (Or.inl rfl) (aP iY (aP iY (cO d7 (pv 6) dw (cR (pv 7))) (eF (aj (bN G__law_odd (hr.mono (by decide)) rfl (aj (pv 0) (aj (pv 2) aC))) aC))) (cO d7 (pv 6) (cR (pv 7)) dw)))))
    bz)
   (aA (bc (i:=8) bW.nd rfl (Or.inl rfl) (aP iY (aP iY (cO d7 (pv 0) dw (cR (pv 4))) (eF (aj (eQ PySem.F.plainAttrs_str PySem.F.slot_str_join PySem.F.type_str_join sE bD (aj (pv 6) aC)) aC))) (cO d7 (pv 0) (cR (aP bw (pv 4) au)) dw)))
   (aA (cB (aY (cz hr) (pv 3) au (bC _))
    (aA (vm (aU aM (pv 0) (pv 5) (fun _ _=>rfl)) (yK (pv 8) (pv 4) set_list))
    (aG (vm (aU aM (pv 0) (pv 4) (fun _ _=>rfl)) (yK (pv 8) (pv 5) set_list))))
    bz)
   (aA (cB (aY (cz hr) (pv 3) au (bC _))
    (aG (bc (i:=8) bW.nd rfl (Or.inl rfl) (aP iY (cO d7 (pv 8) dw (cR (pv 4))) (cO d7 (pv 8) (cR (aP bw (pv 4) au)) dw))))
    bz)
   (aA (cB (aY (cz hr) (pv 3) au (bC _))
    (aG (bc (i:=8) bW.nd rfl (Or.inl rfl) (aP iY (aP iY (cO d7 (pv 8) dw (cR (pv 4))) (eF (aj (aU aM (pv 0) (pv 5) (fun _ _=>rfl)) aC))) (cO d7 (pv 8) (cR (pv 4)) dw))))
    bz)
   (aA (cB (aY (cz hr) (pv 3) au (bC _))
    (aG (bc (i:=8) bW.nd rfl (Or.inl rfl) (cO d7 (pv 8) dw (cR (aP bw (pv 4) au)))))
    bz)
   (aA (cB (aY (cz hr) (pv 3) au (bC _))
    (aG (bc (i:=8) bW.nd rfl (Or.inl rfl) (cO d7 (pv 8) dw (cR (aP bw au (aP bM (aU aM (pv 2) au (fun _ _=>rfl)) au))))))
    bz)
   (aA (cB (aY (cz hr) (pv 3) au (bC _))
    (aG (dZ (eQ Zar Zas PySem.F.type_list_append cX (pv 8) (aj bD aC))))
    bz)
   (aA (cB (aY (cz hr) (pv 3) au (bC _))
    (aG (vm (aP bw (aU aM (pv 0) (pv 4) (fun _ _=>rfl)) (aU aM (eF (aj bD (aj bD (aj bD (aj bD aC))))) (aP bM (aU aM (pv 2) au (fun _ _=>rfl)) au) (fun _ _=>rfl))) (yK (pv 8) (pv 4) set_list)))
    bz)
   (aG (bI (bN G__law_put_on (hr.mono (by decide)) rfl (aj (pv 8) (aj (pv 3) (aj (pv 2) aC))))))))))))))))))))))),tG (b:=iB) (k:=2) (n:=7) rfl (fun ps r e=>match ps,e with | [_,_],e=>⟨rfl,e⟩) h fun io H0 F0 hio=>?_⟩
 exact (aJ (bJ (cL (jz (az (aq aF.up cG (ak 1) ao) (az ao aR)))) (aN 2))
   (aJ (bJ (aq aF.up cJ (aq aF.up bG (ak 2) ao) ao) (aN 3))
   (aJ (bJ (aq aF.up cJ (aq aF.up bG (ak 2) ao) (bV dF (aQ 0))) (aN 4))
   (aJ (bJ (aq aF.up cJ (aq aF.up bG (ak 2) ao) (bV dF (aQ 0))) (aN 5))
   (aJ (dH (i:=6) trivial (jL (aq aF.up bG (ak 0) (ak 4)) bx))
   (aJ (bJ (aq aF.up cJ (aq aF.up bG (ak 2) ao) (bV dF (aQ 6))) (aN 7))
   (aJ (cD (aW (aq aF.up Hm (ak 3) ao))
    (yX (d8 (az (ak 0) (az (ak 2) aR))) (ak 7))
    bA)
   (aJ (cD (aW (aq aH.up fO (aQ 3) (bf ao)))
    (dH (i:=6) trivial (qG aV.up qH (cU (fP (bH 6) dC (cV (ak 7)))) (cU (fP (bH 6) (cV (aq aF.up cG (ak 7) ao)) dC))))
    bA)
   (aJ (cD (aW (aq aH.up fO (aQ 3) (bf ao)))
    (aJ (bJ (aq aF.up cJ (aq aF.up bG (ak 2) ao) (aq aF.up cG (bV dF (aQ 6)) ao)) (aN 7))
    (dH (i:=6) trivial (qG aV.up qH (cU (qG aV.up qH (cU (fP (bH 6) dC (cV (ak 7)))) (cU (eG (az (d8 (az (ak 0) (az (ak 2) aR))) aR))))) (cU (fP (bH 6) (cV (ak 7)) dC)))))
    bA)
   (aJ (dH (i:=8) trivial (qG aV.up qH (cU (qG aV.up qH (cU (fP (bH 0) dC (cV (ak 4)))) (cU (eG (az (tD bx (bH 6)) aR))))) (cU (fP (bH 0) (cV (aq aF.up cG (ak 4) ao)) dC))))
   (aJ (cD (aW (aq aH.up fO (aQ 3) (bf ao)))
    (aJ (yX (aq aF.up bG (ak 0) (ak 5)) (ak 4))
    (yX (aq aF.up bG (ak 0) (ak 4)) (ak 5)))
    bA)
   (aJ (cD (aW (aq aH.up fO (aQ 3) (bf ao)))
    (dH (i:=8) trivial (qG aV.up qH (cU (fP (bH 8) dC (cV (ak 4)))) (cU (fP (bH 8) (cV (aq aF.up cG (ak 4) ao)) dC))))
    bA)
   (aJ (cD (aW (aq aH.up fO (aQ 3) (bf ao)))
    (dH (i:=8) trivial (qG aV.up qH (cU (qG aV.up qH (cU (fP (bH 8) dC (cV (ak 4)))) (cU (eG (az (aq aF.up bG (ak 0) (ak 5)) aR))))) (cU (fP (bH 8) (cV (ak 4)) dC))))
    bA)
   (aJ (cD (aW (aq aH.up fO (aQ 3) (bf ao)))
    (dH (i:=8) trivial (fP (bH 8) dC (cV (aq aF.up cG (ak 4) ao))))
    bA)
   (aJ (cD (aW (aq aH.up fO (aQ 3) (bf ao)))
    (dH (i:=8) trivial (fP (bH 8) dC (cV (aq aF.up cG ao (aq aF.up cJ (aq aF.up bG (ak 2) ao) ao)))))
    bA)
   (aJ (cD (aW (aq aH.up fO (aQ 3) (bf ao)))
    (gF bx)
    bA)
   (aJ (cD (aW (aq aH.up fO (aQ 3) (bf ao)))
    (yX (aq aF.up cG (aq aF.up bG (ak 0) (ak 4)) (aq aV.up Ow (cU (eG (az bx (az bx (az bx (az bx aR)))))) (aq aF.up cJ (aq aF.up bG (ak 2) ao) ao))) (ak 4))
    bA)
   (CW 8 hio (Ma (jz (az (ak 8) (az (ak 3) (az (ak 2) aR)))))))))))))))))))))))
theorem t6:bZ ["_law_text","_law_sign"] ["_law_text"] (aL (top 45)):=⟨rfl,rfl,rfl,by decide +kernel,rfl,by decide +kernel,by decide +kernel⟩
theorem z7 (T:Txt mg) (D:bY K mg "_law_is_word" (top 45) ["_law_text"]) {d:Ads} (Z:Xt K mg d):FnAt P w K mg base "_law_is_word" 1 ["_law_text"] (spM K XR0 eY):=by
 refine D.ok t6 (fun vs H Q E h=>d9 h fun ps r e=>match ps,e with | [_],_=>rfl) (fun f cdv A outer s H vs Q E hr h=>?_)
 refine ⟨_,(aA (fY ZaM rfl (iZ (pv 0)) (cQ (i:=1) t6.nd rfl (Or.inl rfl))
    (aG (cB (aY (xV hr) (pv 1) bD (by with_unfolding_all rfl))
     (aG (bI Ep))
     bz)))
   (aG (bI (Jg pI pI au (aZ bF rfl T.b_len (by decide +kernel) (aj (pv 0) aC)) au)))),eV (b:=iC) (k:=1) (n:=1) rfl (fun ps r e=>match ps,e with | [_],e=>⟨rfl,e⟩) h fun io H0 F0 hio=>?_⟩
 exact (aJ (gf (m8 (ak 0)) (aN 1)
    (cD (aW (aq aH.up Ft (aQ 1) (bf bx)))
     (bT Fe)
     bA))
   (bT (sO Ax Ax ao (bV dF (aQ 0)) ao)))
theorem jg:bZ ["_law_words_here","_law_names","_law_word","_law_pairs","_law_k"] ["_law_words_here","_law_names"] (aL (top 46)):=⟨rfl,rfl,rfl,by decide +kernel,rfl,by decide +kernel,by decide +kernel⟩
theorem xF (T:Txt mg) (D:bY K mg "_law_read_ink" (top 46) ["_law_words_here","_law_names"]) {d:Ads} (Z:Xt K mg d) (G__law_is_word:FnAt P w K mg base "_law_is_word" 1 ["_law_text"] (spM K XR0 eY)):FnAt P w K mg base "_law_read_ink" 2 ["_law_words_here","_law_names"] (spM K XR0 gC):=by
 refine D.ok jg (fun vs H Q E h=>d9 h fun ps r e=>match ps,e with | [_,_],_=>rfl) (fun f cdv A outer s H vs Q E hr h=>?_)
 refine ⟨_,(aA (fY ZaM rfl (iZ (cO d7 (pv 0) (cR au) dw)) (cQ (i:=2) jg.nd rfl (Or.inl rfl))
    (aG (cB (pA (mX (bN G__law_is_word (hr.mono (by decide)) rfl (aj (pv 2) aC))))
     (aG (bI dN))
     bz)))
   (aA (cB (PW.pt (pq (aY ug (aZ bF rfl T.b_len (by decide +kernel) (aj (pv 0) aC)) au (bC _)) (qW (aY (Dc hr) (aU aM (pv 0) au (fun _ _=>rfl)) (pv 1) (by with_unfolding_all rfl)))))
    (aG (bI dN))
    bz)
   (aA (cB (PW.pt (ph (aY (cz hr) (aU aM (pv 0) au (fun _ _=>rfl)) bD (bC _)) (qj (aY (cz hr) (aZ bF rfl T.b_len (by decide +kernel) (aj (pv 0) aC)) au (bC _)))))
    (aG (bI (fG (aj bD (aj (aU aM (pv 0) au (fun _ _=>rfl)) (aj (aU aM (pv 0) au (fun _ _=>rfl)) aC))))))
    bz)
   (aA (bc (i:=3) jg.nd rfl (Or.inl rfl) (eF aC))
   (aA (fY ZaM rfl (yd rfl T.b_range (aj au (aj (aP yL (aZ bF rfl T.b_len (by decide +kernel) (aj (pv 0) aC)) au) (aj au aC)))) (cQ (i:=4) jg.nd rfl (Or.inl rfl))
    (aA (cB (aY (Dc hr) (aU aM (pv 0) (pv 4) (fun _ _=>rfl)) (ql ["_law_pair_here"] [none] rfl (iZ (pv 3)) (fun _ _ _ _ _=>(jH (i:=0) (by decide +kernel) rfl rfl)) (fun _ _ _ _ _=>qY) (fun _ _ _ _ _=>(aU qp (pvl 0) au (fun _ _=>rfl)))) (by with_unfolding_all rfl))
     (aG (bI dN))
     bz)
    (aG (dZ (eQ Zar Zas PySem.F.type_list_append cX (pv 3) (aj (fG (aj (aU aM (pv 0) (pv 4) (fun _ _=>rfl)) (aj (aU aM (pv 0) (aP bw (pv 4) au) (fun _ _=>rfl)) aC))) aC))))))
   (aA (cB (PW.pt (ph (aY (cz hr) (aU aM (pv 0) au (fun _ _=>rfl)) bD (bC _)) (ph (aY (cz hr) (aP bM (aZ bF rfl T.b_len (by decide +kernel) (aj (pv 0) aC)) au) au (bC _)) (qj (vB pI pI au (aZ bF rfl T.b_len (by decide +kernel) (aj (pv 3) aC)) au)))))
    (aG (bI (fG (aj bD (aj (aU aM (pv 0) au (fun _ _=>rfl)) (aj (lN lu rfl T.b_tuple (by decide +kernel) (aj (pv 3) aC)) aC))))))
    bz)
   (aG (bI dN)))))))),eV (b:=gB) (k:=2) (n:=3) rfl (fun ps r e=>match ps,e with | [_,_],e=>⟨rfl,e⟩) h fun io H0 F0 hio=>?_⟩
 exact (aJ (gf (m8 (cL (fP (bH 0) (cV ao) dC))) (aN 2)
    (cD (pG (m6 (d8 (az (ak 2) aR))))
     (bT dR)
     bA))
   (aJ (cD (pF (aW (aq aF.up Hm (bV dF (aQ 0)) ao)) (aW (aq aH.up Qm (bf (aq aF.up bG (ak 0) ao)) (aQ 1))))
    (bT dR)
    bA)
   (aJ (cD (pD (aW (aq aH.up fO (bf (aq aF.up bG (ak 0) ao)) (bf bx))) (aW (aq aH.up fO (bf (bV dF (aQ 0))) (bf ao))))
    (bT (fZ (az bx (az (aq aF.up bG (ak 0) ao) (az (aq aF.up bG (ak 0) ao) aR)))))
    bA)
   (aJ (dH (i:=3) trivial (eG aR))
   (aJ (gf (Fx (az ao (az (aq aF.up Fp (bV dF (aQ 0)) ao) (az ao aR)))) (aN 4)
    (aJ (cD (aW (aq aH.up Qm (bf (aq aF.up bG (ak 0) (ak 4))) (bf (cL (sZ (vP (bH 3)) (aN 0) (nj 0) q9 (aq aF.up bG (ak 0) ao))))))
     (bT dR)
     bA)
    (gF (fZ (az (aq aF.up bG (ak 0) (ak 4)) (az (aq aF.up bG (ak 0) (aq aF.up cG (ak 4) ao)) aR))))))
   (aJ (cD (pD (aW (aq aH.up fO (bf (aq aF.up bG (ak 0) ao)) (bf bx))) (pD (aW (aq aH.up fO (bf (aq aF.up cJ (bV dF (aQ 0)) ao)) (bf ao))) (aW (sO Ax Ax ao (bV dF (aQ 3)) ao))))
    (bT (fZ (az bx (az (aq aF.up bG (ak 0) ao) (az (bV JL (bH 3)) aR)))))
    bA)
   (bT dR)))))))
theorem mW:bZ ["_law_rows_here","_law_words_here","_law_inks","_law_k","_law_ink_here"] ["_law_rows_here"] (aL (top 47)):=⟨rfl,rfl,rfl,by decide +kernel,rfl,by decide +kernel,by decide +kernel⟩
theorem Jb (T:Txt mg) (D:bY K mg "_law_read" (top 47) ["_law_rows_here"]) {d:Ads} (Z:Xt K mg d) (G__law_is_word:FnAt P w K mg base "_law_is_word" 1 ["_law_text"] (spM K XR0 eY)) (G__law_read_ink:FnAt P w K mg base "_law_read_ink" 2 ["_law_words_here","_law_names"] (spM K XR0 gC)):FnAt P w K mg base "_law_read" 3 ["_law_rows_here"] (spM K XR0 kZ):=by
 refine D.ok mW (fun vs H Q E h=>d9 h fun ps r e=>match ps,e with | [_],_=>rfl) (fun f cdv A outer s H vs Q E hr h=>?_)
 refine ⟨_,(aA (bc (i:=1) mW.nd rfl (Or.inl rfl) (eQ PySem.F.plainAttrs_str ZaV ZaW jK (aU aM (pv 0) au (fun _ _=>rfl)) (aj bD aC)))
   (aA (cB (PW.pt (pq (aY (Jy hr) (aZ bF rfl T.b_len (by decide +kernel) (aj (pv 1) aC)) au (bC _)) (pq (aY (Jy hr) (aU aM (pv 1) au (fun _ _=>rfl)) bD (bC _)) (qW (pA (mX (bN G__law_is_word (hr.mono (by decide)) rfl (aj (aU aM (pv 1) au (fun _ _=>rfl)) aC))))))))
    (aG (bI (fG (aj dN (aj au aC)))))
    bz)
   (aA (bc (i:=2) mW.nd rfl (Or.inl rfl) (eF aC))
   (aA (fY ZaM rfl (GC rfl T.b_range (aj au (aj (aZ bF rfl T.b_len (by decide +kernel) (aj (pv 0) aC)) aC))) (cQ (i:=3) mW.nd rfl (Or.inl rfl))
    (aA (bc (i:=4) mW.nd rfl (Or.inl rfl) (bN G__law_read_ink (hr.mono (by decide)) rfl (aj (eQ PySem.F.plainAttrs_str ZaV ZaW jK (aU aM (pv 0) (pv 3) (fun _ _=>rfl)) (aj bD aC)) (aj (ql ["_law_one"] [none] rfl (iZ (pv 2)) (fun _ _ _ _ _=>(jH (i:=0) (by decide +kernel) rfl rfl)) (fun _ _ _ _ _=>qY) (fun _ _ _ _ _=>(aU qp (pvl 0) au (fun _ _=>rfl)))) aC))))
    (aA (cB (PW.pt (pq (aY vA (pv 4) dN (bC _)) (qW (aY RL (pv 3) au (bC _)))))
     (aG (bI (fG (aj dN (aj (pv 3) aC)))))
     bz)
    (aG (dZ (eQ Zar Zas PySem.F.type_list_append cX (pv 2) (aj (pv 4) aC)))))))
   (aA (cB (aY (cz hr) (pv 2) (eF aC) (bC _))
    (aG (bI (fG (aj dN (aj au aC)))))
    bz)
   (aG (bI (fG (aj (fG (aj (aU aM (pv 1) au (fun _ _=>rfl)) (aj (pv 2) aC))) (aj dN aC)))))))))),eV (b:=fW) (k:=1) (n:=4) rfl (fun ps r e=>match ps,e with | [_],e=>⟨rfl,e⟩) h fun io H0 F0 hio=>?_⟩
 exact (aJ (bJ (cL (jL (aq aF.up bG (ak 0) ao) bx)) (aN 1))
   (aJ (cD (pF (aW (aq aH.up SQ (bf (bV dF (aQ 1))) (bf ao))) (pF (aW (aq aH.up SQ (bf (aq aF.up bG (ak 1) ao)) (bf bx))) (pG (m6 (d8 (az (aq aF.up bG (ak 1) ao) aR))))))
    (bT (fZ (az dR (az ao aR))))
    bA)
   (aJ (dH (i:=2) trivial (eG aR))
   (aJ (gf (Mq (az ao (az (bV dF (aQ 0)) aR))) (aN 3)
    (aJ (bJ (d8 (az (cL (jL (aq aF.up bG (ak 0) (ak 3)) bx)) (az (cL (sZ (vP (bH 2)) (aN 0) (nj 0) q9 (aq aF.up bG (ak 0) ao))) aR))) (aN 4))
    (aJ (cD (pF (aW (aq aH.up Az (aQ 4) dR)) (aW (aq aF.up T8 (ak 3) ao)))
     (bT (fZ (az dR (az (ak 3) aR))))
     bA)
    (gF (ak 4)))))
   (aJ (cD (aW (aq aH.up fO (aQ 2) (bf (cL (eG aR)))))
    (bT (fZ (az dR (az ao aR))))
    bA)
   (CW 2 hio (bT (fZ (az (fZ (az (aq aF.up bG (ak 1) ao) (az (ak 2) aR))) (az dR aR))))))))))
theorem Em:bZ ["_law_error"] ["_law_error"] (aL (top 48)):=⟨rfl,rfl,rfl,by decide +kernel,rfl,by decide +kernel,by decide +kernel⟩
theorem En (T:Txt mg) (D:bY K mg "_law_other" (top 48) ["_law_error"]) {d:Ads} (Z:Xt K mg d):FnAt P w K mg base "_law_other" 1 ["_law_error"] (spM K XR0 jE):=by
 refine D.ok Em (fun vs H Q E h=>d9 h fun ps r e=>match ps,e with | [_],_=>rfl) (fun f cdv A outer s H vs Q E hr h=>?_)
 refine ⟨_,(aA (cB (mX (aZ (yp (Ts:=[d.x_NoSet,d.x_NoPicture,d.x_NoStack,d.x_Kept,d.x_NoDeed,d.x_NoPlan,d.x_TooMany])) rfl T.b_isinstance (by decide +kernel) (aj (pv 0) (aj (fG (aj (j6 rfl Z.g_NoSet) (aj (j6 rfl Z.g_NoPicture) (aj (j6 rfl Z.g_NoStack) (aj (j6 rfl Z.g_Kept) (aj (j6 rfl Z.g_NoDeed) (aj (j6 rfl Z.g_NoPlan) (aj (j6 rfl Z.g_TooMany) aC)))))))) aC))))
    (aG (bI Ep))
    bz)
   (aG (bI (aZ (yp (Ts:=[d.x_NoName,d.x_Twice,d.x_Order,d.x_Wrong,d.x_NoStroke,d.x_NoRow])) rfl T.b_isinstance (by decide +kernel) (aj (pv 0) (aj (fG (aj (j6 rfl Z.g_NoName) (aj (j6 rfl Z.g_Twice) (aj (j6 rfl Z.g_Order) (aj (j6 rfl Z.g_Wrong) (aj (j6 rfl Z.g_NoStroke) (aj (j6 rfl Z.g_NoRow) aC))))))) aC)))))),eV (b:=jD) (k:=1) (n:=0) rfl (fun ps r e=>match ps,e with | [_],e=>⟨rfl,e⟩) h fun io H0 F0 hio=>?_⟩
 exact (aJ (cD (m6 (FN (Ts:=[d.x_NoSet,d.x_NoPicture,d.x_NoStack,d.x_Kept,d.x_NoDeed,d.x_NoPlan,d.x_TooMany]) (Rm Z) Z.not0 (by rw [sizeLine_eq];simp) (fun _ _ _ h=>h) (aQ 0)))
    (bT Fe)
    bA)
   (bT (FN (Ts:=[d.x_NoName,d.x_Twice,d.x_Order,d.x_Wrong,d.x_NoStroke,d.x_NoRow]) (Ro Z) Z.not1 (by rw [sizeLine_eq];simp) (fun _ _ _ h=>h) (aQ 0))))
theorem ou:bZ ["_law_script","_law_rows_here","_law_due","_law_row","_law_error","_law_found","e"] ["_law_script"] (aL (top 49)):=⟨rfl,rfl,rfl,by decide +kernel,rfl,by decide +kernel,by decide +kernel⟩
theorem Rp (T:Txt mg) {f:Addr}{fd:FuncData} (F:Fun K "law" "law" (top 49) f fd) {d:Ads} (Z:Xt K mg d) (G__law_changed:FnAt P w K mg base "_law_changed" 2 ["_law_rows_here","_law_cell"] (spO K XR0 fV)) (G__law_rows:FnAt P w K mg base "_law_rows" 1 ["_law_bench_here"] (spO K XR0 kh)) (G__law_bench:FnAt P w K mg base "_law_bench" 3 ["_law_script"] (spM K XR0 gY)) (G__law_window:FnAt P w K mg base "_law_window" 1 ["_law_cell","_law_turn"] (spM K XR0 gr)) (G__law_cell_at:FnAt P w K mg base "_law_cell_at" 1 ["_law_script","_law_k"] (spM K XR0 dq)) (G__law_read:FnAt P w K mg base "_law_read" 3 ["_law_rows_here"] (spM K XR0 kZ)) (G_read_bench:wz P w K mg base "read_bench" 5 ["text"] (spM K (XRS K) dI)) (G__law_other:FnAt P w K mg base "_law_other" 1 ["_law_error"] (spM K XR0 jE)):lr P w K mg base CX0 6 f fd ["_law_script"] (spM K XR0 yt):=by
 refine F.ok ou (fun vs H Q E h=>d9 h fun ps r e=>match ps,e with | [_],_=>rfl) (fun cdv A outer s H vs Q E hr h=>?_)
 refine ⟨_,(aA (bc (i:=1) ou.nd rfl (Or.inl rfl) (bN G__law_changed (hr.mono (by decide)) rfl (aj (bN G__law_rows (hr.mono (by decide)) rfl (aj (bN G__law_bench (hr.mono (by decide)) rfl (aj (pv 0) aC)) aC)) (aj (bN G__law_window (hr.mono (by decide)) rfl (aj (bN G__law_cell_at (hr.mono (by decide)) rfl (aj (pv 0) (aj au aC))) (aj au aC))) aC))))
   (aA (vm (bN G__law_read (hr.mono (by decide)) rfl (aj (pv 1) aC)) (vh (n:=2) rfl (gj (cQ (i:=2) ou.nd rfl (Or.inl rfl)) (gj (cQ (i:=3) ou.nd rfl (Or.inl rfl)) rY))))
   (aA (bc (i:=4) ou.nd rfl (Or.inl rfl) dN)
   (aA (bc (i:=5) ou.nd rfl (Or.inl rfl) dN)
   (aA (QD rfl rfl (Kp (i:=5) ou.nd rfl (Or.inl rfl) (HB G_read_bench (hr.mono (by decide)) rfl (aj (eQ PySem.F.plainAttrs_str PySem.F.slot_str_join PySem.F.type_str_join sE bD (aj (pv 1) aC)) aC)))
    (Tj rfl Z.g_BlockError Z.ca_BlockError ou.nd (i:=6) rfl rfl (fun _=>(aG (bc (i:=4) ou.nd rfl (Or.inl rfl) (pv 6)))) QC))
   (aA (cB (aY Es (pv 2) dN (bC _))
    (aG (bI (yJ (uW vA (pv 4) dN (bC _)) (yJ (aZ tu rfl T.b_isinstance (by decide +kernel) (aj (pv 5) (aj (Al rfl T.b_tuple (n:="tuple") (by decide +kernel)) aC))) (Je (uW (cz hr) (pv 5) (pv 2) (bC _)))))))
    bz)
   (aA (cB (PW.pt (pq (pA (mX (aZ (Bw (T:=.ref d.x_NoBench) (Tv:=.ref d.x_NoBench) rfl (fun _ h=>h)) rfl T.b_isinstance (by decide +kernel) (aj (pv 4) (aj (j6 rfl Z.g_NoBench) aC))))) (pq (pA (mX (aZ (Bw (T:=.ty "ValueError") (Tv:=.type "ValueError") rfl (fun _ h=>h)) rfl T.b_isinstance (by decide +kernel) (aj (pv 4) (aj (Al rfl T.b_ValueError (n:="ValueError") (by decide +kernel)) aC))))) (qW (mX (bN G__law_other (hr.mono (by decide)) rfl (aj (pv 4) aC)))))))
    (aG (bI Ep))
    bz)
   (aG (bI (yJ (aZ tu rfl T.b_isinstance (by decide +kernel) (aj (wA K rfl (pv 4) rfl) (aj (Al rfl T.b_int (n:="int") (by decide +kernel)) aC))) (yJ (Pn (aZ tu rfl T.b_isinstance (by decide +kernel) (aj (wA K rfl (pv 4) rfl) (aj (Al rfl T.b_bool (n:="bool") (by decide +kernel)) aC)))) (Je (uW (cz hr) (wA K rfl (pv 4) rfl) (pv 3) (bC _)))))))))))))),eV (b:=Gj) (k:=1) (n:=6) rfl (fun ps r e=>match ps,e with | [_],e=>⟨rfl,e⟩) h fun io H0 F0 hio=>?_⟩
 exact (aJ (bJ (cL (jz (az (cL (jz (az (d8 (az (ak 0) aR)) aR))) (az (d8 (az (d8 (az (ak 0) (az ao aR))) (az ao aR))) aR)))) (aN 1))
   (aJ (bJ (d8 (az (ak 1) aR)) (vL (gm (aN 2) (gm (aN 3) sU))))
   (aJ (bJ dR (aN 4))
   (aJ (bJ dR (aN 5))
   (aJ (QH (M5 5 (Kq (az (tD bx (bH 1)) aR)))
    (Tq Z.n_BlockError (uz Z) (bJ (ak 6) (aN 4)) QJ))
   (aJ (cD (aW (aq aH.up JC (aQ 2) dR))
    (bT (yU (aq aH.up Az (aQ 4) dR) (yU (zp aH.up Ms (aQ 5) Ff) (aq aH.up fO (aQ 5) (aQ 2)))))
    bA)
   (aJ (cD (pF (pG (m6 (KC (T:=.ref d.x_NoBench) (xu Z) Z.no_NoBench (aQ 4)))) (pF (pG (m6 (KC (T:=.ty "ValueError") (uA Z) Z.nob_ValueError (aQ 4)))) (m6 (d8 (az (ak 4) aR)))))
    (bT Fe)
    bA)
   (bT (yU (zp aH.up Ms (bf (zG (uB Z) (ak 4))) Ff) (yU (Qg (zp aH.up Ms (bf (zG (uB Z) (ak 4))) Ff)) (aq aH.up fO (bf (zG (uB Z) (ak 4))) (aQ 3))))))))))))
end
theorem Rq {l:PySem.W.OpenLaw}{w:World}{K:PySem.W.Frag}{h:Heap}{mg:Str->Option Value}{fa f0 f1 f2 f3 f4 f5 f6 f7 f8 f9 f10 f11 f12 f13 f14 f15 f16 f17 f18 f19 f20 f21 f22 f23:Addr} (X:K.In h) (G:h.Ns mainGlobals mg) (hfa:mg "law"=some (.ref fa))
  {od0 an0 od1 an1 od2 an2 od3 an3 od4 an4 od5 an5 od6 an6 od7 an7 od8 an8 od9 an9 od10 an10 od11 an11 od12 an12 od13 an13 od14 an14 od15 an15 od16 an16 od17 an17 od18 an18 od19 an19 od20 an20 od21 an21 od22 an22 od23 an23:Option Addr}{sl0 sl1 sl2 sl3 sl4 sl5 sl6 sl7 sl8 sl9 sl10 sl11 sl12 sl13 sl14 sl15 sl16 sl17 sl18 sl19 sl20 sl21 sl22 sl23:Array (Option Value)}{oc0 kV0 dc0 pm0 cd0 ct0 oc1 kV1 dc1 pm1 cd1 ct1 oc2 kV2 dc2 pm2 cd2 ct2 oc3 kV3 dc3 pm3 cd3 ct3 oc4 kV4 dc4 pm4 cd4 ct4 oc5 kV5 dc5 pm5 cd5 ct5 oc6 kV6 dc6 pm6 cd6 ct6 oc7 kV7 dc7 pm7 cd7 ct7 oc8 kV8 dc8 pm8 cd8 ct8 oc9 kV9 dc9 pm9 cd9 ct9 oc10 kV10 dc10 pm10 cd10 ct10 oc11 kV11 dc11 pm11 cd11 ct11 oc12 kV12 dc12 pm12 cd12 ct12 oc13 kV13 dc13 pm13 cd13 ct13 oc14 kV14 dc14 pm14 cd14 ct14 oc15 kV15 dc15 pm15 cd15 ct15 oc16 kV16 dc16 pm16 cd16 ct16 oc17 kV17 dc17 pm17 cd17 ct17 oc18 kV18 dc18 pm18 cd18 ct18 oc19 kV19 dc19 pm19 cd19 ct19 oc20 kV20 dc20 pm20 cd20 ct20 oc21 kV21 dc21 pm21 cd21 ct21 oc22 kV22 dc22 pm22 cd22 ct22 oc23 kV23 dc23 pm23 cd23 ct23:Value}{t_COVER t_GLAZE t_LETTERS t_LONGEST_WORD t_MOST_INKS t_MOST_PAIRS t_PAPER:Tok}
  (a0:PySem.W.nsIn K mainGlobals "is_word"=some (some (.ref f0))) (l0:K.lookup f0=some ⟨oc0,od0,.func (PySem.W.fnOf "is_word" "is_word" (b7 (top 21)) (bQ (top 21)) (aL (top 21)) .none kV0 dc0 pm0 an0 cd0 ct0),sl0⟩) (c0:PySem.W.codeIn K cd0 "is_word"=true) (k0:PySem.W.keepIn K (.ref f0)=true)
  (a1:PySem.W.nsIn K mainGlobals "paper_of"=some (some (.ref f1))) (l1:K.lookup f1=some ⟨oc1,od1,.func (PySem.W.fnOf "paper_of" "paper_of" (b7 (top 26)) (bQ (top 26)) (aL (top 26)) .none kV1 dc1 pm1 an1 cd1 ct1),sl1⟩) (c1:PySem.W.codeIn K cd1 "paper_of"=true) (k1:PySem.W.keepIn K (.ref f1)=true)
  (a2:PySem.W.nsIn K mainGlobals "pairs_of"=some (some (.ref f2))) (l2:K.lookup f2=some ⟨oc2,od2,.func (PySem.W.fnOf "pairs_of" "pairs_of" (b7 (top 27)) (bQ (top 27)) (aL (top 27)) .none kV2 dc2 pm2 an2 cd2 ct2),sl2⟩) (c2:PySem.W.codeIn K cd2 "pairs_of"=true) (k2:PySem.W.keepIn K (.ref f2)=true)
  (a3:PySem.W.nsIn K mainGlobals "glaze_of"=some (some (.ref f3))) (l3:K.lookup f3=some ⟨oc3,od3,.func (PySem.W.fnOf "glaze_of" "glaze_of" (b7 (top 28)) (bQ (top 28)) (aL (top 28)) .none kV3 dc3 pm3 an3 cd3 ct3),sl3⟩) (c3:PySem.W.codeIn K cd3 "glaze_of"=true) (k3:PySem.W.keepIn K (.ref f3)=true)
  (a4:PySem.W.nsIn K mainGlobals "ink_of"=some (some (.ref f4))) (l4:K.lookup f4=some ⟨oc4,od4,.func (PySem.W.fnOf "ink_of" "ink_of" (b7 (top 29)) (bQ (top 29)) (aL (top 29)) .none kV4 dc4 pm4 an4 cd4 ct4),sl4⟩) (c4:PySem.W.codeIn K cd4 "ink_of"=true) (k4:PySem.W.keepIn K (.ref f4)=true)
  (a5:PySem.W.nsIn K mainGlobals "number_of_ink"=some (some (.ref f5))) (l5:K.lookup f5=some ⟨oc5,od5,.func (PySem.W.fnOf "number_of_ink" "number_of_ink" (b7 (top 30)) (bQ (top 30)) (aL (top 30)) .none kV5 dc5 pm5 an5 cd5 ct5),sl5⟩) (c5:PySem.W.codeIn K cd5 "number_of_ink"=true) (k5:PySem.W.keepIn K (.ref f5)=true)
  (a6:PySem.W.nsIn K mainGlobals "read_inks"=some (some (.ref f6))) (l6:K.lookup f6=some ⟨oc6,od6,.func (PySem.W.fnOf "read_inks" "read_inks" (b7 (top 31)) (bQ (top 31)) (aL (top 31)) .none kV6 dc6 pm6 an6 cd6 ct6),sl6⟩) (c6:PySem.W.codeIn K cd6 "read_inks"=true) (k6:PySem.W.keepIn K (.ref f6)=true)
  (a7:PySem.W.nsIn K mainGlobals "read_bench"=some (some (.ref f7))) (l7:K.lookup f7=some ⟨oc7,od7,.func (PySem.W.fnOf "read_bench" "read_bench" (b7 (top 32)) (bQ (top 32)) (aL (top 32)) .none kV7 dc7 pm7 an7 cd7 ct7),sl7⟩) (c7:PySem.W.codeIn K cd7 "read_bench"=true) (k7:PySem.W.keepIn K (.ref f7)=true)
  (a8:PySem.W.nsIn K mainGlobals "_law_cell_at"=some (some (.ref f8))) (l8:K.lookup f8=some ⟨oc8,od8,.func (PySem.W.fnOf "_law_cell_at" "_law_cell_at" (b7 (top 34)) (bQ (top 34)) (aL (top 34)) .none kV8 dc8 pm8 an8 cd8 ct8),sl8⟩) (c8:PySem.W.codeIn K cd8 "_law_cell_at"=true) (k8:PySem.W.keepIn K (.ref f8)=true)
  (a9:PySem.W.nsIn K mainGlobals "_law_window"=some (some (.ref f9))) (l9:K.lookup f9=some ⟨oc9,od9,.func (PySem.W.fnOf "_law_window" "_law_window" (b7 (top 35)) (bQ (top 35)) (aL (top 35)) .none kV9 dc9 pm9 an9 cd9 ct9),sl9⟩) (c9:PySem.W.codeIn K cd9 "_law_window"=true) (k9:PySem.W.keepIn K (.ref f9)=true)
  (a10:PySem.W.nsIn K mainGlobals "_law_stream"=some (some (.ref f10))) (l10:K.lookup f10=some ⟨oc10,od10,.func (PySem.W.fnOf "_law_stream" "_law_stream" (b7 (top 36)) (bQ (top 36)) (aL (top 36)) .none kV10 dc10 pm10 an10 cd10 ct10),sl10⟩) (c10:PySem.W.codeIn K cd10 "_law_stream"=true) (k10:PySem.W.keepIn K (.ref f10)=true)
  (a11:PySem.W.nsIn K mainGlobals "_law_words"=some (some (.ref f11))) (l11:K.lookup f11=some ⟨oc11,od11,.func (PySem.W.fnOf "_law_words" "_law_words" (b7 (top 37)) (bQ (top 37)) (aL (top 37)) .none kV11 dc11 pm11 an11 cd11 ct11),sl11⟩) (c11:PySem.W.codeIn K cd11 "_law_words"=true) (k11:PySem.W.keepIn K (.ref f11)=true)
  (a12:PySem.W.nsIn K mainGlobals "_law_pair"=some (some (.ref f12))) (l12:K.lookup f12=some ⟨oc12,od12,.func (PySem.W.fnOf "_law_pair" "_law_pair" (b7 (top 38)) (bQ (top 38)) (aL (top 38)) .none kV12 dc12 pm12 an12 cd12 ct12),sl12⟩) (c12:PySem.W.codeIn K cd12 "_law_pair"=true) (k12:PySem.W.keepIn K (.ref f12)=true)
  (a13:PySem.W.nsIn K mainGlobals "_law_ink"=some (some (.ref f13))) (l13:K.lookup f13=some ⟨oc13,od13,.func (PySem.W.fnOf "_law_ink" "_law_ink" (b7 (top 39)) (bQ (top 39)) (aL (top 39)) .none kV13 dc13 pm13 an13 cd13 ct13),sl13⟩) (c13:PySem.W.codeIn K cd13 "_law_ink"=true) (k13:PySem.W.keepIn K (.ref f13)=true)
  (a14:PySem.W.nsIn K mainGlobals "_law_bench"=some (some (.ref f14))) (l14:K.lookup f14=some ⟨oc14,od14,.func (PySem.W.fnOf "_law_bench" "_law_bench" (b7 (top 40)) (bQ (top 40)) (aL (top 40)) .none kV14 dc14 pm14 an14 cd14 ct14),sl14⟩) (c14:PySem.W.codeIn K cd14 "_law_bench"=true) (k14:PySem.W.keepIn K (.ref f14)=true)
  (a15:PySem.W.nsIn K mainGlobals "_law_rows"=some (some (.ref f15))) (l15:K.lookup f15=some ⟨oc15,od15,.func (PySem.W.fnOf "_law_rows" "_law_rows" (b7 (top 41)) (bQ (top 41)) (aL (top 41)) .none kV15 dc15 pm15 an15 cd15 ct15),sl15⟩) (c15:PySem.W.codeIn K cd15 "_law_rows"=true) (k15:PySem.W.keepIn K (.ref f15)=true)
  (a16:PySem.W.nsIn K mainGlobals "_law_odd"=some (some (.ref f16))) (l16:K.lookup f16=some ⟨oc16,od16,.func (PySem.W.fnOf "_law_odd" "_law_odd" (b7 (top 42)) (bQ (top 42)) (aL (top 42)) .none kV16 dc16 pm16 an16 cd16 ct16),sl16⟩) (c16:PySem.W.codeIn K cd16 "_law_odd"=true) (k16:PySem.W.keepIn K (.ref f16)=true)
  (a17:PySem.W.nsIn K mainGlobals "_law_put_on"=some (some (.ref f17))) (l17:K.lookup f17=some ⟨oc17,od17,.func (PySem.W.fnOf "_law_put_on" "_law_put_on" (b7 (top 43)) (bQ (top 43)) (aL (top 43)) .none kV17 dc17 pm17 an17 cd17 ct17),sl17⟩) (c17:PySem.W.codeIn K cd17 "_law_put_on"=true) (k17:PySem.W.keepIn K (.ref f17)=true)
  (a18:PySem.W.nsIn K mainGlobals "_law_changed"=some (some (.ref f18))) (l18:K.lookup f18=some ⟨oc18,od18,.func (PySem.W.fnOf "_law_changed" "_law_changed" (b7 (top 44)) (bQ (top 44)) (aL (top 44)) .none kV18 dc18 pm18 an18 cd18 ct18),sl18⟩) (c18:PySem.W.codeIn K cd18 "_law_changed"=true) (k18:PySem.W.keepIn K (.ref f18)=true)
  (a19:PySem.W.nsIn K mainGlobals "_law_is_word"=some (some (.ref f19))) (l19:K.lookup f19=some ⟨oc19,od19,.func (PySem.W.fnOf "_law_is_word" "_law_is_word" (b7 (top 45)) (bQ (top 45)) (aL (top 45)) .none kV19 dc19 pm19 an19 cd19 ct19),sl19⟩) (c19:PySem.W.codeIn K cd19 "_law_is_word"=true) (k19:PySem.W.keepIn K (.ref f19)=true)
  (a20:PySem.W.nsIn K mainGlobals "_law_read_ink"=some (some (.ref f20))) (l20:K.lookup f20=some ⟨oc20,od20,.func (PySem.W.fnOf "_law_read_ink" "_law_read_ink" (b7 (top 46)) (bQ (top 46)) (aL (top 46)) .none kV20 dc20 pm20 an20 cd20 ct20),sl20⟩) (c20:PySem.W.codeIn K cd20 "_law_read_ink"=true) (k20:PySem.W.keepIn K (.ref f20)=true)
  (a21:PySem.W.nsIn K mainGlobals "_law_read"=some (some (.ref f21))) (l21:K.lookup f21=some ⟨oc21,od21,.func (PySem.W.fnOf "_law_read" "_law_read" (b7 (top 47)) (bQ (top 47)) (aL (top 47)) .none kV21 dc21 pm21 an21 cd21 ct21),sl21⟩) (c21:PySem.W.codeIn K cd21 "_law_read"=true) (k21:PySem.W.keepIn K (.ref f21)=true)
  (a22:PySem.W.nsIn K mainGlobals "_law_other"=some (some (.ref f22))) (l22:K.lookup f22=some ⟨oc22,od22,.func (PySem.W.fnOf "_law_other" "_law_other" (b7 (top 48)) (bQ (top 48)) (aL (top 48)) .none kV22 dc22 pm22 an22 cd22 ct22),sl22⟩) (c22:PySem.W.codeIn K cd22 "_law_other"=true) (k22:PySem.W.keepIn K (.ref f22)=true)
  (a23:PySem.W.nsIn K mainGlobals "law"=some (some (.ref f23))) (l23:K.lookup f23=some ⟨oc23,od23,.func (PySem.W.fnOf "law" "law" (b7 (top 49)) (bQ (top 49)) (aL (top 49)) .none kV23 dc23 pm23 an23 cd23 ct23),sl23⟩) (c23:PySem.W.codeIn K cd23 "law"=true) (k23:PySem.W.keepIn K (.ref f23)=true)
  {x_NoBench x_NoSet x_NoPicture x_NoStack x_Kept x_NoDeed x_NoPlan x_TooMany x_NoName x_Twice x_Order x_Wrong x_NoStroke x_NoRow x_BlockError y_NoBench:Addr}
  {dd_NoBench iod_NoBench ian_NoBench:Option Addr}{cd_NoBench:ClassData}{k0_NoBench k1_NoBench k2_NoBench k3_NoBench k5_NoBench:Option Value}{bm_NoBench:List Value}{isl_NoBench:Array (Option Value)}{ioc_NoBench ikV_NoBench idc_NoBench ipm_NoBench icd_NoBench ict_NoBench:Value}
  {qoc_Kept:Value}{qod_Kept:Option Addr}{qcd_Kept:ClassData}{qsl_Kept:Array (Option Value)}
  {qoc_NoBench:Value}{qod_NoBench:Option Addr}{qcd_NoBench:ClassData}{qsl_NoBench:Array (Option Value)}
  {qoc_NoDeed:Value}{qod_NoDeed:Option Addr}{qcd_NoDeed:ClassData}{qsl_NoDeed:Array (Option Value)}
  {qoc_NoName:Value}{qod_NoName:Option Addr}{qcd_NoName:ClassData}{qsl_NoName:Array (Option Value)}
  {qoc_NoPicture:Value}{qod_NoPicture:Option Addr}{qcd_NoPicture:ClassData}{qsl_NoPicture:Array (Option Value)}
  {qoc_NoPlan:Value}{qod_NoPlan:Option Addr}{qcd_NoPlan:ClassData}{qsl_NoPlan:Array (Option Value)}
  {qoc_NoRow:Value}{qod_NoRow:Option Addr}{qcd_NoRow:ClassData}{qsl_NoRow:Array (Option Value)}
  {qoc_NoSet:Value}{qod_NoSet:Option Addr}{qcd_NoSet:ClassData}{qsl_NoSet:Array (Option Value)}
  {qoc_NoStack:Value}{qod_NoStack:Option Addr}{qcd_NoStack:ClassData}{qsl_NoStack:Array (Option Value)}
  {qoc_NoStroke:Value}{qod_NoStroke:Option Addr}{qcd_NoStroke:ClassData}{qsl_NoStroke:Array (Option Value)}
  {qoc_Order:Value}{qod_Order:Option Addr}{qcd_Order:ClassData}{qsl_Order:Array (Option Value)}
  {qoc_TooMany:Value}{qod_TooMany:Option Addr}{qcd_TooMany:ClassData}{qsl_TooMany:Array (Option Value)}
  {qoc_Twice:Value}{qod_Twice:Option Addr}{qcd_Twice:ClassData}{qsl_Twice:Array (Option Value)}
  {qoc_Wrong:Value}{qod_Wrong:Option Addr}{qcd_Wrong:ClassData}{qsl_Wrong:Array (Option Value)}
  {toc_BlockError:Value}{tod_BlockError:Option Addr}{tcd_BlockError:ClassData}{tsl_BlockError:Array (Option Value)}
  (z_ValueError:PySem.W.nsIn K mainGlobals "ValueError"=some none) (z_all:PySem.W.nsIn K mainGlobals "all"=some none) (z_bool:PySem.W.nsIn K mainGlobals "bool"=some none) (z_dict:PySem.W.nsIn K mainGlobals "dict"=some none) (z_enumerate:PySem.W.nsIn K mainGlobals "enumerate"=some none) (z_int:PySem.W.nsIn K mainGlobals "int"=some none) (z_isinstance:PySem.W.nsIn K mainGlobals "isinstance"=some none) (z_len:PySem.W.nsIn K mainGlobals "len"=some none) (z_list:PySem.W.nsIn K mainGlobals "list"=some none) (z_range:PySem.W.nsIn K mainGlobals "range"=some none) (z_str:PySem.W.nsIn K mainGlobals "str"=some none) (z_tuple:PySem.W.nsIn K mainGlobals "tuple"=some none) (y_COVER:PySem.W.nsIn K mainGlobals "COVER"=some (some (.str "cover" t_COVER))) (y_GLAZE:PySem.W.nsIn K mainGlobals "GLAZE"=some (some (.str "glaze" t_GLAZE))) (y_LETTERS:PySem.W.nsIn K mainGlobals "LETTERS"=some (some (.str "abcdefghijklmnopqrstuvwxyz" t_LETTERS))) (y_LONGEST_WORD:PySem.W.nsIn K mainGlobals "LONGEST_WORD"=some (some (.int 8 t_LONGEST_WORD))) (y_MOST_INKS:PySem.W.nsIn K mainGlobals "MOST_INKS"=some (some (.int 8 t_MOST_INKS))) (y_MOST_PAIRS:PySem.W.nsIn K mainGlobals "MOST_PAIRS"=some (some (.int 8 t_MOST_PAIRS))) (y_PAPER:PySem.W.nsIn K mainGlobals "PAPER"=some (some (.str "paper" t_PAPER))) (nx_NoBench:PySem.W.nsIn K mainGlobals "NoBench"=some (some (.ref x_NoBench))) (nx_NoSet:PySem.W.nsIn K mainGlobals "NoSet"=some (some (.ref x_NoSet))) (nx_NoPicture:PySem.W.nsIn K mainGlobals "NoPicture"=some (some (.ref x_NoPicture))) (nx_NoStack:PySem.W.nsIn K mainGlobals "NoStack"=some (some (.ref x_NoStack))) (nx_Kept:PySem.W.nsIn K mainGlobals "Kept"=some (some (.ref x_Kept))) (nx_NoDeed:PySem.W.nsIn K mainGlobals "NoDeed"=some (some (.ref x_NoDeed))) (nx_NoPlan:PySem.W.nsIn K mainGlobals "NoPlan"=some (some (.ref x_NoPlan))) (nx_TooMany:PySem.W.nsIn K mainGlobals "TooMany"=some (some (.ref x_TooMany))) (nx_NoName:PySem.W.nsIn K mainGlobals "NoName"=some (some (.ref x_NoName))) (nx_Twice:PySem.W.nsIn K mainGlobals "Twice"=some (some (.ref x_Twice))) (nx_Order:PySem.W.nsIn K mainGlobals "Order"=some (some (.ref x_Order))) (nx_Wrong:PySem.W.nsIn K mainGlobals "Wrong"=some (some (.ref x_Wrong))) (nx_NoStroke:PySem.W.nsIn K mainGlobals "NoStroke"=some (some (.ref x_NoStroke))) (nx_NoRow:PySem.W.nsIn K mainGlobals "NoRow"=some (some (.ref x_NoRow))) (nx_BlockError:PySem.W.nsIn K mainGlobals "BlockError"=some (some (.ref x_BlockError))) (lx_NoBench:K.lookup x_NoBench=some ⟨.type "type",dd_NoBench,.cls cd_NoBench,#[k0_NoBench,k1_NoBench,k2_NoBench,k3_NoBench,some (.builtin "ValueError.__new__"),k5_NoBench]⟩) (h1_NoBench:cd_NoBench.hasDel=false) (h2_NoBench:cd_NoBench.hasDict=true) (h3_NoBench:cd_NoBench.mro=.ref x_NoBench::bm_NoBench) (h4_NoBench:iK bm_NoBench=true) (h5_NoBench:cd_NoBench.name="NoBench") (sa_NoBench:PySem.W.findIn K (.ref x_NoBench) "__setattr__"=some (some (.builtin "object.__setattr__"))) (in_NoBench:PySem.W.findIn K (.ref x_NoBench) "__init__"=some (some (.ref y_NoBench))) (fn_NoBench:PySem.W.typeIn K (.ref y_NoBench)=some (.type "function")) (kp_NoBench:PySem.W.keepIn K (.ref x_NoBench)=true) (li_NoBench:K.lookup y_NoBench=some ⟨ioc_NoBench,iod_NoBench,.func (PySem.W.fnOf "__init__" "NoBench.__init__" (b7 (inClass (top 3) 0)) (bQ (inClass (top 3) 0)) (aL (inClass (top 3) 0)) .none ikV_NoBench idc_NoBench ipm_NoBench ian_NoBench icd_NoBench ict_NoBench),isl_NoBench⟩) (ci_NoBench:PySem.W.codeIn K icd_NoBench "NoBench.__init__"=true) (kj_NoBench:PySem.W.keepIn K (.ref y_NoBench)=true) (xa_NoBench:PySem.W.findIn K (.ref x_NoBench) "__getattribute__"=some (some (.builtin "BaseException.__getattribute__"))) (xg_NoBench:PySem.W.findIn K (.ref x_NoBench) "__getattr__"=some none) (xh_NoBench:PySem.W.subIn K (.ref x_NoBench) (.type "BaseException")=some true) (sf_NoBench:PySem.W.subIn K (.ref x_NoBench) (.ref x_NoBench)=some true) (xb_NoBench:PySem.W.hasDictIn K x_NoBench=true) (xc_NoBench:PySem.W.findIn K (.ref x_NoBench) "__class__"=some (some (.builtin "object.__class__"))) (xd_NoBench:PySem.W.specialIn K (.builtin "object.__class__") "__get__"=some (some (.builtin "getset_descriptor.__get__"))) (xe_NoBench:PySem.W.takesIn K (.builtin "object.__class__")=some true) (xf_NoBench:PySem.W.mroIn K x_NoBench (.type "object")=some true) (fl_NoBench_row:PySem.W.findIn K (.ref x_NoBench) "row"=some none) (tl_BlockError:K.lookup x_BlockError=some ⟨toc_BlockError,tod_BlockError,.cls tcd_BlockError,tsl_BlockError⟩) (tn_BlockError:PySem.W.instIn K (.ref x_BlockError) (.type "tuple")=some false) (tb_BlockError:PySem.W.subIn K (.ref x_BlockError) (.type "BaseException")=some true) (s_NoBench_BlockError:PySem.W.subIn K (.ref x_NoBench) (.ref x_BlockError)=some true) (ql_Kept:K.lookup x_Kept=some ⟨qoc_Kept,qod_Kept,.cls qcd_Kept,qsl_Kept⟩) (qt_Kept:PySem.W.typeIn K (.ref x_Kept)=some (.type "type")) (qn_Kept:PySem.W.subIn K (.type "NoneType") (.ref x_Kept)=some false) (qs_NoBench_Kept:PySem.W.subIn K (.ref x_NoBench) (.ref x_Kept)=some false) (ql_NoBench:K.lookup x_NoBench=some ⟨qoc_NoBench,qod_NoBench,.cls qcd_NoBench,qsl_NoBench⟩) (qt_NoBench:PySem.W.typeIn K (.ref x_NoBench)=some (.type "type")) (qn_NoBench:PySem.W.subIn K (.type "NoneType") (.ref x_NoBench)=some false) (qs_NoBench_NoBench:PySem.W.subIn K (.ref x_NoBench) (.ref x_NoBench)=some true) (ql_NoDeed:K.lookup x_NoDeed=some ⟨qoc_NoDeed,qod_NoDeed,.cls qcd_NoDeed,qsl_NoDeed⟩) (qt_NoDeed:PySem.W.typeIn K (.ref x_NoDeed)=some (.type "type")) (qn_NoDeed:PySem.W.subIn K (.type "NoneType") (.ref x_NoDeed)=some false) (qs_NoBench_NoDeed:PySem.W.subIn K (.ref x_NoBench) (.ref x_NoDeed)=some false) (ql_NoName:K.lookup x_NoName=some ⟨qoc_NoName,qod_NoName,.cls qcd_NoName,qsl_NoName⟩) (qt_NoName:PySem.W.typeIn K (.ref x_NoName)=some (.type "type")) (qn_NoName:PySem.W.subIn K (.type "NoneType") (.ref x_NoName)=some false) (qs_NoBench_NoName:PySem.W.subIn K (.ref x_NoBench) (.ref x_NoName)=some false) (ql_NoPicture:K.lookup x_NoPicture=some ⟨qoc_NoPicture,qod_NoPicture,.cls qcd_NoPicture,qsl_NoPicture⟩) (qt_NoPicture:PySem.W.typeIn K (.ref x_NoPicture)=some (.type "type")) (qn_NoPicture:PySem.W.subIn K (.type "NoneType") (.ref x_NoPicture)=some false) (qs_NoBench_NoPicture:PySem.W.subIn K (.ref x_NoBench) (.ref x_NoPicture)=some false) (ql_NoPlan:K.lookup x_NoPlan=some ⟨qoc_NoPlan,qod_NoPlan,.cls qcd_NoPlan,qsl_NoPlan⟩) (qt_NoPlan:PySem.W.typeIn K (.ref x_NoPlan)=some (.type "type")) (qn_NoPlan:PySem.W.subIn K (.type "NoneType") (.ref x_NoPlan)=some false) (qs_NoBench_NoPlan:PySem.W.subIn K (.ref x_NoBench) (.ref x_NoPlan)=some false) (ql_NoRow:K.lookup x_NoRow=some ⟨qoc_NoRow,qod_NoRow,.cls qcd_NoRow,qsl_NoRow⟩) (qt_NoRow:PySem.W.typeIn K (.ref x_NoRow)=some (.type "type")) (qn_NoRow:PySem.W.subIn K (.type "NoneType") (.ref x_NoRow)=some false) (qs_NoBench_NoRow:PySem.W.subIn K (.ref x_NoBench) (.ref x_NoRow)=some false) (ql_NoSet:K.lookup x_NoSet=some ⟨qoc_NoSet,qod_NoSet,.cls qcd_NoSet,qsl_NoSet⟩) (qt_NoSet:PySem.W.typeIn K (.ref x_NoSet)=some (.type "type")) (qn_NoSet:PySem.W.subIn K (.type "NoneType") (.ref x_NoSet)=some false) (qs_NoBench_NoSet:PySem.W.subIn K (.ref x_NoBench) (.ref x_NoSet)=some false) (ql_NoStack:K.lookup x_NoStack=some ⟨qoc_NoStack,qod_NoStack,.cls qcd_NoStack,qsl_NoStack⟩) (qt_NoStack:PySem.W.typeIn K (.ref x_NoStack)=some (.type "type")) (qn_NoStack:PySem.W.subIn K (.type "NoneType") (.ref x_NoStack)=some false) (qs_NoBench_NoStack:PySem.W.subIn K (.ref x_NoBench) (.ref x_NoStack)=some false) (ql_NoStroke:K.lookup x_NoStroke=some ⟨qoc_NoStroke,qod_NoStroke,.cls qcd_NoStroke,qsl_NoStroke⟩) (qt_NoStroke:PySem.W.typeIn K (.ref x_NoStroke)=some (.type "type")) (qn_NoStroke:PySem.W.subIn K (.type "NoneType") (.ref x_NoStroke)=some false) (qs_NoBench_NoStroke:PySem.W.subIn K (.ref x_NoBench) (.ref x_NoStroke)=some false) (ql_Order:K.lookup x_Order=some ⟨qoc_Order,qod_Order,.cls qcd_Order,qsl_Order⟩) (qt_Order:PySem.W.typeIn K (.ref x_Order)=some (.type "type")) (qn_Order:PySem.W.subIn K (.type "NoneType") (.ref x_Order)=some false) (qs_NoBench_Order:PySem.W.subIn K (.ref x_NoBench) (.ref x_Order)=some false) (ql_TooMany:K.lookup x_TooMany=some ⟨qoc_TooMany,qod_TooMany,.cls qcd_TooMany,qsl_TooMany⟩) (qt_TooMany:PySem.W.typeIn K (.ref x_TooMany)=some (.type "type")) (qn_TooMany:PySem.W.subIn K (.type "NoneType") (.ref x_TooMany)=some false) (qs_NoBench_TooMany:PySem.W.subIn K (.ref x_NoBench) (.ref x_TooMany)=some false) (ql_Twice:K.lookup x_Twice=some ⟨qoc_Twice,qod_Twice,.cls qcd_Twice,qsl_Twice⟩) (qt_Twice:PySem.W.typeIn K (.ref x_Twice)=some (.type "type")) (qn_Twice:PySem.W.subIn K (.type "NoneType") (.ref x_Twice)=some false) (qs_NoBench_Twice:PySem.W.subIn K (.ref x_NoBench) (.ref x_Twice)=some false) (ql_Wrong:K.lookup x_Wrong=some ⟨qoc_Wrong,qod_Wrong,.cls qcd_Wrong,qsl_Wrong⟩) (qt_Wrong:PySem.W.typeIn K (.ref x_Wrong)=some (.type "type")) (qn_Wrong:PySem.W.subIn K (.type "NoneType") (.ref x_Wrong)=some false) (qs_NoBench_Wrong:PySem.W.subIn K (.ref x_NoBench) (.ref x_Wrong)=some false) (qb_NoBench_ValueError:PySem.W.subIn K (.ref x_NoBench) (.type "ValueError")=some true) :
  ∃ fd:FuncData,(∀ (s:Shared) (v:Value),BindsTo s fd ⟨[v],[]⟩ [("_law_script",v)])∧∀ base:Heap,K.In base->base.Ns mainGlobals mg->lr l.prog w K mg base CX0 6 fa fd ["_law_script"] (spM K XR0 yt):=by
 have e:=hfa.symm.trans (Zai X G a23)
 cases e
 have T:Txt mg:=⟨trivial,ZaN X G z_ValueError,ZaN X G z_all,ZaN X G z_bool,ZaN X G z_dict,ZaN X G z_enumerate,ZaN X G z_int,ZaN X G z_isinstance,ZaN X G z_len,ZaN X G z_list,ZaN X G z_range,ZaN X G z_str,ZaN X G z_tuple,⟨_,Zai X G y_COVER⟩,⟨_,Zai X G y_GLAZE⟩,⟨_,Zai X G y_LETTERS⟩,⟨_,Zai X G y_LONGEST_WORD⟩,⟨_,Zai X G y_MOST_INKS⟩,⟨_,Zai X G y_MOST_PAIRS⟩,⟨_,Zai X G y_PAPER⟩⟩
 have FX_NoBench:=dD (st:=inClass (top 3) 0) li_NoBench ci_NoBench kj_NoBench
 have Y_NoBench:=QM lx_NoBench h1_NoBench h2_NoBench h3_NoBench h4_NoBench sa_NoBench in_NoBench fn_NoBench kp_NoBench
 have U_NoBench:Nb K mg "NoBench" ["row"] x_NoBench:=⟨⟨_,_,_,["self","row"],Y_NoBench,FX_NoBench.binds (ps:=["self","row"]) fun _ _ _ _ _ _ us hl=>by obtain ⟨_,_,rfl⟩:=xm hl;rfl,fun P w base=>zW FX_NoBench Y_NoBench.toXCls fl_NoBench_row⟩,QQ nx_NoBench lx_NoBench h5_NoBench,⟨xa_NoBench,xg_NoBench,xh_NoBench,xb_NoBench,xc_NoBench,xd_NoBench,xe_NoBench,xf_NoBench⟩,Zai X G nx_NoBench,fun f hf=>by
  simp only [Zao,List.mem_nil_iff,or_false] at hf
  rcases hf with rfl
  ·exact fl_NoBench_row⟩
 have QN_Kept:PySem.W.kitOne K (.type "NoneType") (.ref x_Kept)=some false:=bu ⟨⟨_,_,_,_,ql_Kept⟩,qt_Kept⟩ qn_Kept (fun h=>by cases h)
 have QS_NoBench_Kept:PySem.W.kitOne K (.ref x_NoBench) (.ref x_Kept)=some false:=bu ⟨⟨_,_,_,_,ql_Kept⟩,qt_Kept⟩ qs_NoBench_Kept (fun h=>by rw [←ZaT h,sf_NoBench] at qs_NoBench_Kept;cases qs_NoBench_Kept)
 have QN_NoBench:PySem.W.kitOne K (.type "NoneType") (.ref x_NoBench)=some false:=bu ⟨⟨_,_,_,_,ql_NoBench⟩,qt_NoBench⟩ qn_NoBench (fun h=>by cases h)
 have QS_NoBench_NoBench:PySem.W.kitOne K (.ref x_NoBench) (.ref x_NoBench)=some true:=bu ⟨⟨_,_,_,_,ql_NoBench⟩,qt_NoBench⟩ qs_NoBench_NoBench (fun _=>rfl)
 have QN_NoDeed:PySem.W.kitOne K (.type "NoneType") (.ref x_NoDeed)=some false:=bu ⟨⟨_,_,_,_,ql_NoDeed⟩,qt_NoDeed⟩ qn_NoDeed (fun h=>by cases h)
 have QS_NoBench_NoDeed:PySem.W.kitOne K (.ref x_NoBench) (.ref x_NoDeed)=some false:=bu ⟨⟨_,_,_,_,ql_NoDeed⟩,qt_NoDeed⟩ qs_NoBench_NoDeed (fun h=>by rw [←ZaT h,sf_NoBench] at qs_NoBench_NoDeed;cases qs_NoBench_NoDeed)
 have QN_NoName:PySem.W.kitOne K (.type "NoneType") (.ref x_NoName)=some false:=bu ⟨⟨_,_,_,_,ql_NoName⟩,qt_NoName⟩ qn_NoName (fun h=>by cases h)
 have QS_NoBench_NoName:PySem.W.kitOne K (.ref x_NoBench) (.ref x_NoName)=some false:=bu ⟨⟨_,_,_,_,ql_NoName⟩,qt_NoName⟩ qs_NoBench_NoName (fun h=>by rw [←ZaT h,sf_NoBench] at qs_NoBench_NoName;cases qs_NoBench_NoName)
 have QN_NoPicture:PySem.W.kitOne K (.type "NoneType") (.ref x_NoPicture)=some false:=bu ⟨⟨_,_,_,_,ql_NoPicture⟩,qt_NoPicture⟩ qn_NoPicture (fun h=>by cases h)
 have QS_NoBench_NoPicture:PySem.W.kitOne K (.ref x_NoBench) (.ref x_NoPicture)=some false:=bu ⟨⟨_,_,_,_,ql_NoPicture⟩,qt_NoPicture⟩ qs_NoBench_NoPicture (fun h=>by rw [←ZaT h,sf_NoBench] at qs_NoBench_NoPicture;cases qs_NoBench_NoPicture)
 have QN_NoPlan:PySem.W.kitOne K (.type "NoneType") (.ref x_NoPlan)=some false:=bu ⟨⟨_,_,_,_,ql_NoPlan⟩,qt_NoPlan⟩ qn_NoPlan (fun h=>by cases h)
 have QS_NoBench_NoPlan:PySem.W.kitOne K (.ref x_NoBench) (.ref x_NoPlan)=some false:=bu ⟨⟨_,_,_,_,ql_NoPlan⟩,qt_NoPlan⟩ qs_NoBench_NoPlan (fun h=>by rw [←ZaT h,sf_NoBench] at qs_NoBench_NoPlan;cases qs_NoBench_NoPlan)
 have QN_NoRow:PySem.W.kitOne K (.type "NoneType") (.ref x_NoRow)=some false:=bu ⟨⟨_,_,_,_,ql_NoRow⟩,qt_NoRow⟩ qn_NoRow (fun h=>by cases h)
 have QS_NoBench_NoRow:PySem.W.kitOne K (.ref x_NoBench) (.ref x_NoRow)=some false:=bu ⟨⟨_,_,_,_,ql_NoRow⟩,qt_NoRow⟩ qs_NoBench_NoRow (fun h=>by rw [←ZaT h,sf_NoBench] at qs_NoBench_NoRow;cases qs_NoBench_NoRow)
 have QN_NoSet:PySem.W.kitOne K (.type "NoneType") (.ref x_NoSet)=some false:=bu ⟨⟨_,_,_,_,ql_NoSet⟩,qt_NoSet⟩ qn_NoSet (fun h=>by cases h)
 have QS_NoBench_NoSet:PySem.W.kitOne K (.ref x_NoBench) (.ref x_NoSet)=some false:=bu ⟨⟨_,_,_,_,ql_NoSet⟩,qt_NoSet⟩ qs_NoBench_NoSet (fun h=>by rw [←ZaT h,sf_NoBench] at qs_NoBench_NoSet;cases qs_NoBench_NoSet)
 have QN_NoStack:PySem.W.kitOne K (.type "NoneType") (.ref x_NoStack)=some false:=bu ⟨⟨_,_,_,_,ql_NoStack⟩,qt_NoStack⟩ qn_NoStack (fun h=>by cases h)
 have QS_NoBench_NoStack:PySem.W.kitOne K (.ref x_NoBench) (.ref x_NoStack)=some false:=bu ⟨⟨_,_,_,_,ql_NoStack⟩,qt_NoStack⟩ qs_NoBench_NoStack (fun h=>by rw [←ZaT h,sf_NoBench] at qs_NoBench_NoStack;cases qs_NoBench_NoStack)
 have QN_NoStroke:PySem.W.kitOne K (.type "NoneType") (.ref x_NoStroke)=some false:=bu ⟨⟨_,_,_,_,ql_NoStroke⟩,qt_NoStroke⟩ qn_NoStroke (fun h=>by cases h)
 have QS_NoBench_NoStroke:PySem.W.kitOne K (.ref x_NoBench) (.ref x_NoStroke)=some false:=bu ⟨⟨_,_,_,_,ql_NoStroke⟩,qt_NoStroke⟩ qs_NoBench_NoStroke (fun h=>by rw [←ZaT h,sf_NoBench] at qs_NoBench_NoStroke;cases qs_NoBench_NoStroke)
 have QN_Order:PySem.W.kitOne K (.type "NoneType") (.ref x_Order)=some false:=bu ⟨⟨_,_,_,_,ql_Order⟩,qt_Order⟩ qn_Order (fun h=>by cases h)
 have QS_NoBench_Order:PySem.W.kitOne K (.ref x_NoBench) (.ref x_Order)=some false:=bu ⟨⟨_,_,_,_,ql_Order⟩,qt_Order⟩ qs_NoBench_Order (fun h=>by rw [←ZaT h,sf_NoBench] at qs_NoBench_Order;cases qs_NoBench_Order)
 have QN_TooMany:PySem.W.kitOne K (.type "NoneType") (.ref x_TooMany)=some false:=bu ⟨⟨_,_,_,_,ql_TooMany⟩,qt_TooMany⟩ qn_TooMany (fun h=>by cases h)
 have QS_NoBench_TooMany:PySem.W.kitOne K (.ref x_NoBench) (.ref x_TooMany)=some false:=bu ⟨⟨_,_,_,_,ql_TooMany⟩,qt_TooMany⟩ qs_NoBench_TooMany (fun h=>by rw [←ZaT h,sf_NoBench] at qs_NoBench_TooMany;cases qs_NoBench_TooMany)
 have QN_Twice:PySem.W.kitOne K (.type "NoneType") (.ref x_Twice)=some false:=bu ⟨⟨_,_,_,_,ql_Twice⟩,qt_Twice⟩ qn_Twice (fun h=>by cases h)
 have QS_NoBench_Twice:PySem.W.kitOne K (.ref x_NoBench) (.ref x_Twice)=some false:=bu ⟨⟨_,_,_,_,ql_Twice⟩,qt_Twice⟩ qs_NoBench_Twice (fun h=>by rw [←ZaT h,sf_NoBench] at qs_NoBench_Twice;cases qs_NoBench_Twice)
 have QN_Wrong:PySem.W.kitOne K (.type "NoneType") (.ref x_Wrong)=some false:=bu ⟨⟨_,_,_,_,ql_Wrong⟩,qt_Wrong⟩ qn_Wrong (fun h=>by cases h)
 have QS_NoBench_Wrong:PySem.W.kitOne K (.ref x_NoBench) (.ref x_Wrong)=some false:=bu ⟨⟨_,_,_,_,ql_Wrong⟩,qt_Wrong⟩ qs_NoBench_Wrong (fun h=>by rw [←ZaT h,sf_NoBench] at qs_NoBench_Wrong;cases qs_NoBench_Wrong)
 have Z:Xt K mg ⟨x_NoBench,x_NoSet,x_NoPicture,x_NoStack,x_Kept,x_NoDeed,x_NoPlan,x_TooMany,x_NoName,x_Twice,x_Order,x_Wrong,x_NoStroke,x_NoRow,x_BlockError⟩:=⟨U_NoBench,nx_NoBench,Zai X G nx_NoBench,nx_NoSet,Zai X G nx_NoSet,nx_NoPicture,Zai X G nx_NoPicture,nx_NoStack,Zai X G nx_NoStack,nx_Kept,Zai X G nx_Kept,nx_NoDeed,Zai X G nx_NoDeed,nx_NoPlan,Zai X G nx_NoPlan,nx_TooMany,Zai X G nx_TooMany,nx_NoName,Zai X G nx_NoName,nx_Twice,Zai X G nx_Twice,nx_Order,Zai X G nx_Order,nx_Wrong,Zai X G nx_Wrong,nx_NoStroke,Zai X G nx_NoStroke,nx_NoRow,Zai X G nx_NoRow,nx_BlockError,Zai X G nx_BlockError,⟨⟨_,_,_,_,tl_BlockError⟩,tn_BlockError,tb_BlockError⟩,s_NoBench_BlockError,QN_NoBench,QS_NoBench_NoBench,(by kernel_rfl),(HJ (by kernel_rfl) qb_NoBench_ValueError),(bL QN_NoSet (bL QN_NoPicture (bL QN_NoStack (bL QN_Kept (bL QN_NoDeed (bL QN_NoPlan (bL QN_TooMany nC))))))),(bL QS_NoBench_NoSet (bL QS_NoBench_NoPicture (bL QS_NoBench_NoStack (bL QS_NoBench_Kept (bL QS_NoBench_NoDeed (bL QS_NoBench_NoPlan (bL QS_NoBench_TooMany nC))))))),(bL QN_NoName (bL QN_Twice (bL QN_Order (bL QN_Wrong (bL QN_NoStroke (bL QN_NoRow nC)))))),(bL QS_NoBench_NoName (bL QS_NoBench_Twice (bL QS_NoBench_Order (bL QS_NoBench_Wrong (bL QS_NoBench_NoStroke (bL QS_NoBench_NoRow nC))))))⟩
 have F0:=dD (st:=top 21) l0 c0 k0
 have D0:bY K mg "is_word" (top 21) ["text"]:=⟨⟨_,_,Zai X G a0,F0,F0.binds fun _ _ _ _ _ _ us hl=>by obtain ⟨_,rfl⟩:=um hl;rfl⟩⟩
 have F1:=dD (st:=top 26) l1 c1 k1
 have D1:bY K mg "paper_of" (top 26) ["row"]:=⟨⟨_,_,Zai X G a1,F1,F1.binds fun _ _ _ _ _ _ us hl=>by obtain ⟨_,rfl⟩:=um hl;rfl⟩⟩
 have F2:=dD (st:=top 27) l2 c2 k2
 have D2:bY K mg "pairs_of" (top 27) ["words"]:=⟨⟨_,_,Zai X G a2,F2,F2.binds fun _ _ _ _ _ _ us hl=>by obtain ⟨_,rfl⟩:=um hl;rfl⟩⟩
 have F3:=dD (st:=top 28) l3 c3 k3
 have D3:bY K mg "glaze_of" (top 28) ["words"]:=⟨⟨_,_,Zai X G a3,F3,F3.binds fun _ _ _ _ _ _ us hl=>by obtain ⟨_,rfl⟩:=um hl;rfl⟩⟩
 have F4:=dD (st:=top 29) l4 c4 k4
 have D4:bY K mg "ink_of" (top 29) ["row"]:=⟨⟨_,_,Zai X G a4,F4,F4.binds fun _ _ _ _ _ _ us hl=>by obtain ⟨_,rfl⟩:=um hl;rfl⟩⟩
 have F5:=dD (st:=top 30) l5 c5 k5
 have D5:bY K mg "number_of_ink" (top 30) ["inks","name"]:=⟨⟨_,_,Zai X G a5,F5,F5.binds fun _ _ _ _ _ _ us hl=>by obtain ⟨_,_,rfl⟩:=xm hl;rfl⟩⟩
 have F6:=dD (st:=top 31) l6 c6 k6
 have D6:bY K mg "read_inks" (top 31) ["rows"]:=⟨⟨_,_,Zai X G a6,F6,F6.binds fun _ _ _ _ _ _ us hl=>by obtain ⟨_,rfl⟩:=um hl;rfl⟩⟩
 have F7:=dD (st:=top 32) l7 c7 k7
 have D7:bY K mg "read_bench" (top 32) ["text"]:=⟨⟨_,_,Zai X G a7,F7,F7.binds fun _ _ _ _ _ _ us hl=>by obtain ⟨_,rfl⟩:=um hl;rfl⟩⟩
 have F8:=dD (st:=top 34) l8 c8 k8
 have D8:bY K mg "_law_cell_at" (top 34) ["_law_script","_law_k"]:=⟨⟨_,_,Zai X G a8,F8,F8.binds fun _ _ _ _ _ _ us hl=>by obtain ⟨_,_,rfl⟩:=xm hl;rfl⟩⟩
 have F9:=dD (st:=top 35) l9 c9 k9
 have D9:bY K mg "_law_window" (top 35) ["_law_cell","_law_turn"]:=⟨⟨_,_,Zai X G a9,F9,F9.binds fun _ _ _ _ _ _ us hl=>by obtain ⟨_,_,rfl⟩:=xm hl;rfl⟩⟩
 have F10:=dD (st:=top 36) l10 c10 k10
 have D10:bY K mg "_law_stream" (top 36) ["_law_cell","_law_many"]:=⟨⟨_,_,Zai X G a10,F10,F10.binds fun _ _ _ _ _ _ us hl=>by obtain ⟨_,_,rfl⟩:=xm hl;rfl⟩⟩
 have F11:=dD (st:=top 37) l11 c11 k11
 have D11:bY K mg "_law_words" (top 37) ["_law_cell","_law_many"]:=⟨⟨_,_,Zai X G a11,F11,F11.binds fun _ _ _ _ _ _ us hl=>by obtain ⟨_,_,rfl⟩:=xm hl;rfl⟩⟩
 have F12:=dD (st:=top 38) l12 c12 k12
 have D12:bY K mg "_law_pair" (top 38) ["_law_pairs","_law_colours","_law_some"]:=⟨⟨_,_,Zai X G a12,F12,F12.binds fun _ _ _ _ _ _ us hl=>by obtain ⟨_,_,_,rfl⟩:=Qy hl;rfl⟩⟩
 have F13:=dD (st:=top 39) l13 c13 k13
 have D13:bY K mg "_law_ink" (top 39) ["_law_name","_law_cells","_law_colours"]:=⟨⟨_,_,Zai X G a13,F13,F13.binds fun _ _ _ _ _ _ us hl=>by obtain ⟨_,_,_,rfl⟩:=Qy hl;rfl⟩⟩
 have F14:=dD (st:=top 40) l14 c14 k14
 have D14:bY K mg "_law_bench" (top 40) ["_law_script"]:=⟨⟨_,_,Zai X G a14,F14,F14.binds fun _ _ _ _ _ _ us hl=>by obtain ⟨_,rfl⟩:=um hl;rfl⟩⟩
 have F15:=dD (st:=top 41) l15 c15 k15
 have D15:bY K mg "_law_rows" (top 41) ["_law_bench_here"]:=⟨⟨_,_,Zai X G a15,F15,F15.binds fun _ _ _ _ _ _ us hl=>by obtain ⟨_,rfl⟩:=um hl;rfl⟩⟩
 have F16:=dD (st:=top 42) l16 c16 k16
 have D16:bY K mg "_law_odd" (top 42) ["_law_rows_here","_law_some"]:=⟨⟨_,_,Zai X G a16,F16,F16.binds fun _ _ _ _ _ _ us hl=>by obtain ⟨_,_,rfl⟩:=xm hl;rfl⟩⟩
 have F17:=dD (st:=top 43) l17 c17 k17
 have D17:bY K mg "_law_put_on" (top 43) ["_law_rows_here","_law_way","_law_some"]:=⟨⟨_,_,Zai X G a17,F17,F17.binds fun _ _ _ _ _ _ us hl=>by obtain ⟨_,_,_,rfl⟩:=Qy hl;rfl⟩⟩
 have F18:=dD (st:=top 44) l18 c18 k18
 have D18:bY K mg "_law_changed" (top 44) ["_law_rows_here","_law_cell"]:=⟨⟨_,_,Zai X G a18,F18,F18.binds fun _ _ _ _ _ _ us hl=>by obtain ⟨_,_,rfl⟩:=xm hl;rfl⟩⟩
 have F19:=dD (st:=top 45) l19 c19 k19
 have D19:bY K mg "_law_is_word" (top 45) ["_law_text"]:=⟨⟨_,_,Zai X G a19,F19,F19.binds fun _ _ _ _ _ _ us hl=>by obtain ⟨_,rfl⟩:=um hl;rfl⟩⟩
 have F20:=dD (st:=top 46) l20 c20 k20
 have D20:bY K mg "_law_read_ink" (top 46) ["_law_words_here","_law_names"]:=⟨⟨_,_,Zai X G a20,F20,F20.binds fun _ _ _ _ _ _ us hl=>by obtain ⟨_,_,rfl⟩:=xm hl;rfl⟩⟩
 have F21:=dD (st:=top 47) l21 c21 k21
 have D21:bY K mg "_law_read" (top 47) ["_law_rows_here"]:=⟨⟨_,_,Zai X G a21,F21,F21.binds fun _ _ _ _ _ _ us hl=>by obtain ⟨_,rfl⟩:=um hl;rfl⟩⟩
 have F22:=dD (st:=top 48) l22 c22 k22
 have D22:bY K mg "_law_other" (top 48) ["_law_error"]:=⟨⟨_,_,Zai X G a22,F22,F22.binds fun _ _ _ _ _ _ us hl=>by obtain ⟨_,rfl⟩:=um hl;rfl⟩⟩
 have F23:=dD (st:=top 49) l23 c23 k23
 refine ⟨PySem.W.fnOf "law" "law" (b7 (top 49)) (bQ (top 49)) (aL (top 49)) .none kV23 dc23 pm23 an23 cd23 ct23,fun s v=>.of_eq rfl,fun base _ _=>?_⟩
 have G0:=Ej (P:=l.prog) (w:=w) (base:=base) T D0 Z
 have G1:=Ce (P:=l.prog) (w:=w) (base:=base) T D1 Z G0
 have G2:=Ci (P:=l.prog) (w:=w) (base:=base) T D2 Z
 have G3:=Cj (P:=l.prog) (w:=w) (base:=base) T D3 Z G2
 have G4:=IV (P:=l.prog) (w:=w) (base:=base) T D4 Z G0 G3
 have G5:=uC (P:=l.prog) (w:=w) (base:=base) T D5 Z
 have G6:=zX (P:=l.prog) (w:=w) (base:=base) T D6 Z G4 G5
 have G7:=xx (P:=l.prog) (w:=w) (base:=base) T D7 Z G1 G6
 have G8:=zZ (P:=l.prog) (w:=w) (base:=base) T D8 Z
 have G9:=Ck (P:=l.prog) (w:=w) (base:=base) T D9 Z
 have G10:=Cm (P:=l.prog) (w:=w) (base:=base) T D10 Z
 have G11:=Ek (P:=l.prog) (w:=w) (base:=base) T D11 Z G10
 have G12:=IW (P:=l.prog) (w:=w) (base:=base) T D12 Z
 have G13:=Lf (P:=l.prog) (w:=w) (base:=base) T D13 Z G10 G12
 have G14:=El (P:=l.prog) (w:=w) (base:=base) T D14 Z G10 G8 G11 G13
 have G15:=Ja (P:=l.prog) (w:=w) (base:=base) T D15 Z
 have G16:=Lg (P:=l.prog) (w:=w) (base:=base) T D16 Z
 have G17:=Cp (P:=l.prog) (w:=w) (base:=base) T D17 Z
 have G18:=z6 (P:=l.prog) (w:=w) (base:=base) T D18 Z G10 G16 G17
 have G19:=z7 (P:=l.prog) (w:=w) (base:=base) T D19 Z
 have G20:=xF (P:=l.prog) (w:=w) (base:=base) T D20 Z G19
 have G21:=Jb (P:=l.prog) (w:=w) (base:=base) T D21 Z G19 G20
 have G22:=En (P:=l.prog) (w:=w) (base:=base) T D22 Z
 exact Rp (P:=l.prog) (w:=w) (base:=base) T F23 Z G18 G15 G14 G9 G8 G21 G7 G22
theorem walk {l:PySem.W.OpenLaw}{q:Program}{loose:List Str}{XP:(Str->Option Value)->Heap->Prop}{YP:World->Heap->Prop}{d:DefRec}{K:Params->PySem.W.Frag} (hn:l.most=some 63) (hdf:d.params.defaults=[])
  (hY:∀ (w:World) (h:Heap),YP w h->(K w.params).In h)
  (F:∀ (w:World) (mg:Str->Option Value) (fa:Addr) (h:Heap),(K w.params).In h->h.Ns mainGlobals mg->mg d.name=some (.ref fa) ->
   ∃ fd:FuncData,(∀ (s:Shared) (u:Value),BindsTo s fd ⟨[u],[]⟩ [("_law_script",u)])∧∀ base:Heap,(K w.params).In base->base.Ns mainGlobals mg->lr l.prog w (K w.params) mg base CX0 6 fa fd ["_law_script"] (spM (K w.params) XR0 yt))
  (main:∀ ns:List Int,ns.length≤63->yt [.lst (ns.map PV.int)]=some (.ok (.bl true))) :
  PySem.W.WalkO q loose XP YP l.row.toRowW d [] (fun f vs=>PySem.call f vs) :=
 L2.Lx (n:=63) (k:=6) (x:="_law_script") (CX:=fun _=>CX0) (sp:=fun w=>spM (K w.params) XR0 yt) hn (by decide) hdf ⟨rfl,by decide,by decide⟩ hY F (fun w H a ns hl _ hS=>⟨[.lst (ns.map PV.int)],H,.ok (.bl true),bh.refl _,bR.nil.cons (.lst hS (bR.yS (K:=K w.params) (F:=H) ns).1 (bR.yS ns).2),main ns hl,fun v F' H' _ rv=>Rep.gQ rv⟩) fun _ _ _ _ _ z=>z
end MM
open PySem PySem.W PyProof.Rows
set_option maxRecDepth 100000 in
set_option maxHeartbeats 0 in
theorem PySem.Challenge.cw_lostblock_k10_whole_bench_rows_refused_holds : PySem.Challenge.rw_lostblock_k10_whole_bench_rows_refused.Holds := by
 w_on;o_law;k_head;(case hw=>w_witness2)
 k_fill
 refine MM.walk (l:=PySem.Challenge.rw_lostblock_k10_whole_bench_rows_refused) rfl rfl (fun w h Y=>PySem.W.kIn_of Y) ?F MM.law_main
 case F =>
  intro w mg fa h KX G hmg
  refine' MM.Rq KX G hmg ?a0 ?l0 ?c0 ?k0 ?a1 ?l1 ?c1 ?k1 ?a2 ?l2 ?c2 ?k2 ?a3 ?l3 ?c3 ?k3 ?a4 ?l4 ?c4 ?k4 ?a5 ?l5 ?c5 ?k5 ?a6 ?l6 ?c6 ?k6 ?a7 ?l7 ?c7 ?k7 ?a8 ?l8 ?c8 ?k8 ?a9 ?l9 ?c9 ?k9 ?a10 ?l10 ?c10 ?k10 ?a11 ?l11 ?c11 ?k11 ?a12 ?l12 ?c12 ?k12 ?a13 ?l13 ?c13 ?k13 ?a14 ?l14 ?c14 ?k14 ?a15 ?l15 ?c15 ?k15 ?a16 ?l16 ?c16 ?k16 ?a17 ?l17 ?c17 ?k17 ?a18 ?l18 ?c18 ?k18 ?a19 ?l19 ?c19 ?k19 ?a20 ?l20 ?c20 ?k20 ?a21 ?l21 ?c21 ?k21 ?a22 ?l22 ?c22 ?k22 ?a23 ?l23 ?c23 ?k23 ?z_ValueError ?z_all ?z_bool ?z_dict ?z_enumerate ?z_int ?z_isinstance ?z_len ?z_list ?z_range ?z_str ?z_tuple ?y_COVER ?y_GLAZE ?y_LETTERS ?y_LONGEST_WORD ?y_MOST_INKS ?y_MOST_PAIRS ?y_PAPER ?nx_NoBench ?nx_NoSet ?nx_NoPicture ?nx_NoStack ?nx_Kept ?nx_NoDeed ?nx_NoPlan ?nx_TooMany ?nx_NoName ?nx_Twice ?nx_Order ?nx_Wrong ?nx_NoStroke ?nx_NoRow ?nx_BlockError ?lx_NoBench ?h1_NoBench ?h2_NoBench ?h3_NoBench ?h4_NoBench ?h5_NoBench ?sa_NoBench ?in_NoBench ?fn_NoBench ?kp_NoBench ?li_NoBench ?ci_NoBench ?kj_NoBench ?xa_NoBench ?xg_NoBench ?xh_NoBench ?sf_NoBench ?xb_NoBench ?xc_NoBench ?xd_NoBench ?xe_NoBench ?xf_NoBench ?fl_NoBench_row ?tl_BlockError ?tn_BlockError ?tb_BlockError ?s_NoBench_BlockError ?ql_Kept ?qt_Kept ?qn_Kept ?qs_NoBench_Kept ?ql_NoBench ?qt_NoBench ?qn_NoBench ?qs_NoBench_NoBench ?ql_NoDeed ?qt_NoDeed ?qn_NoDeed ?qs_NoBench_NoDeed ?ql_NoName ?qt_NoName ?qn_NoName ?qs_NoBench_NoName ?ql_NoPicture ?qt_NoPicture ?qn_NoPicture ?qs_NoBench_NoPicture ?ql_NoPlan ?qt_NoPlan ?qn_NoPlan ?qs_NoBench_NoPlan ?ql_NoRow ?qt_NoRow ?qn_NoRow ?qs_NoBench_NoRow ?ql_NoSet ?qt_NoSet ?qn_NoSet ?qs_NoBench_NoSet ?ql_NoStack ?qt_NoStack ?qn_NoStack ?qs_NoBench_NoStack ?ql_NoStroke ?qt_NoStroke ?qn_NoStroke ?qs_NoBench_NoStroke ?ql_Order ?qt_Order ?qn_Order ?qs_NoBench_Order ?ql_TooMany ?qt_TooMany ?qn_TooMany ?qs_NoBench_TooMany ?ql_Twice ?qt_Twice ?qn_Twice ?qs_NoBench_Twice ?ql_Wrong ?qt_Wrong ?qn_Wrong ?qs_NoBench_Wrong ?qb_NoBench_ValueError
  (case a0=>k_is)
  (case l0=>k_is)
  (case c0=>k_is)
  (case k0=>k_is)
  (case a1=>k_is)
  (case l1=>k_is)
  (case c1=>k_is)
  (case k1=>k_is)
  (case a2=>k_is)
  (case l2=>k_is)
  (case c2=>k_is)
  (case k2=>k_is)
  (case a3=>k_is)
  (case l3=>k_is)
  (case c3=>k_is)
  (case k3=>k_is)
  (case a4=>k_is)
  (case l4=>k_is)
  (case c4=>k_is)
  (case k4=>k_is)
  (case a5=>k_is)
  (case l5=>k_is)
  (case c5=>k_is)
  (case k5=>k_is)
  (case a6=>k_is)
  (case l6=>k_is)
  (case c6=>k_is)
  (case k6=>k_is)
  (case a7=>k_is)
  (case l7=>k_is)
  (case c7=>k_is)
  (case k7=>k_is)
  (case a8=>k_is)
  (case l8=>k_is)
  (case c8=>k_is)
  (case k8=>k_is)
  (case a9=>k_is)
  (case l9=>k_is)
  (case c9=>k_is)
  (case k9=>k_is)
  (case a10=>k_is)
  (case l10=>k_is)
  (case c10=>k_is)
  (case k10=>k_is)
  (case a11=>k_is)
  (case l11=>k_is)
  (case c11=>k_is)
  (case k11=>k_is)
  (case a12=>k_is)
  (case l12=>k_is)
  (case c12=>k_is)
  (case k12=>k_is)
  (case a13=>k_is)
  (case l13=>k_is)
  (case c13=>k_is)
  (case k13=>k_is)
  (case a14=>k_is)
  (case l14=>k_is)
  (case c14=>k_is)
  (case k14=>k_is)
  (case a15=>k_is)
  (case l15=>k_is)
  (case c15=>k_is)
  (case k15=>k_is)
  (case a16=>k_is)
  (case l16=>k_is)
  (case c16=>k_is)
  (case k16=>k_is)
  (case a17=>k_is)
  (case l17=>k_is)
  (case c17=>k_is)
  (case k17=>k_is)
  (case a18=>k_is)
  (case l18=>k_is)
  (case c18=>k_is)
  (case k18=>k_is)
  (case a19=>k_is)
  (case l19=>k_is)
  (case c19=>k_is)
  (case k19=>k_is)
  (case a20=>k_is)
  (case l20=>k_is)
  (case c20=>k_is)
  (case k20=>k_is)
  (case a21=>k_is)
  (case l21=>k_is)
  (case c21=>k_is)
  (case k21=>k_is)
  (case a22=>k_is)
  (case l22=>k_is)
  (case c22=>k_is)
  (case k22=>k_is)
  (case a23=>k_is)
  (case l23=>k_is)
  (case c23=>k_is)
  (case k23=>k_is)
  (case z_ValueError=>k_is)
  (case z_all=>k_is)
  (case z_bool=>k_is)
  (case z_dict=>k_is)
  (case z_enumerate=>k_is)
  (case z_int=>k_is)
  (case z_isinstance=>k_is)
  (case z_len=>k_is)
  (case z_list=>k_is)
  (case z_range=>k_is)
  (case z_str=>k_is)
  (case z_tuple=>k_is)
  (case y_COVER=>k_is)
  (case y_GLAZE=>k_is)
  (case y_LETTERS=>k_is)
  (case y_LONGEST_WORD=>k_is)
  (case y_MOST_INKS=>k_is)
  (case y_MOST_PAIRS=>k_is)
  (case y_PAPER=>k_is)
  (case nx_NoBench=>k_is)
  (case nx_NoSet=>k_is)
  (case nx_NoPicture=>k_is)
  (case nx_NoStack=>k_is)
  (case nx_Kept=>k_is)
  (case nx_NoDeed=>k_is)
  (case nx_NoPlan=>k_is)
  (case nx_TooMany=>k_is)
  (case nx_NoName=>k_is)
  (case nx_Twice=>k_is)
  (case nx_Order=>k_is)
  (case nx_Wrong=>k_is)
  (case nx_NoStroke=>k_is)
  (case nx_NoRow=>k_is)
  (case nx_BlockError=>k_is)
  (case lx_NoBench=>k_is)
  (case h1_NoBench=>first | rfl | decide +kernel | k_is)
  (case h2_NoBench=>first | rfl | decide +kernel | k_is)
  (case h3_NoBench=>first | rfl | decide +kernel | k_is)
  (case h4_NoBench=>first | rfl | decide +kernel | k_is)
  (case h5_NoBench=>first | rfl | decide +kernel | k_is)
  (case sa_NoBench=>k_is)
  (case in_NoBench=>k_is)
  (case fn_NoBench=>k_is)
  (case kp_NoBench=>k_is)
  (case li_NoBench=>k_is)
  (case ci_NoBench=>k_is)
  (case kj_NoBench=>k_is)
  (case xa_NoBench=>k_is)
  (case xg_NoBench=>k_is)
  (case xh_NoBench=>k_is)
  (case sf_NoBench=>k_is)
  (case xb_NoBench=>k_is)
  (case xc_NoBench=>k_is)
  (case xd_NoBench=>k_is)
  (case xe_NoBench=>k_is)
  (case xf_NoBench=>k_is)
  (case fl_NoBench_row=>k_is)
  (case tl_BlockError=>k_is)
  (case tn_BlockError=>k_is)
  (case tb_BlockError=>k_is)
  (case s_NoBench_BlockError=>k_is)
  (case ql_Kept=>k_is)
  (case qt_Kept=>k_is)
  (case qn_Kept=>k_is)
  (case qs_NoBench_Kept=>k_is)
  (case ql_NoBench=>k_is)
  (case qt_NoBench=>k_is)
  (case qn_NoBench=>k_is)
  (case qs_NoBench_NoBench=>k_is)
  (case ql_NoDeed=>k_is)
  (case qt_NoDeed=>k_is)
  (case qn_NoDeed=>k_is)
  (case qs_NoBench_NoDeed=>k_is)
  (case ql_NoName=>k_is)
  (case qt_NoName=>k_is)
  (case qn_NoName=>k_is)
  (case qs_NoBench_NoName=>k_is)
  (case ql_NoPicture=>k_is)
  (case qt_NoPicture=>k_is)
  (case qn_NoPicture=>k_is)
  (case qs_NoBench_NoPicture=>k_is)
  (case ql_NoPlan=>k_is)
  (case qt_NoPlan=>k_is)
  (case qn_NoPlan=>k_is)
  (case qs_NoBench_NoPlan=>k_is)
  (case ql_NoRow=>k_is)
  (case qt_NoRow=>k_is)
  (case qn_NoRow=>k_is)
  (case qs_NoBench_NoRow=>k_is)
  (case ql_NoSet=>k_is)
  (case qt_NoSet=>k_is)
  (case qn_NoSet=>k_is)
  (case qs_NoBench_NoSet=>k_is)
  (case ql_NoStack=>k_is)
  (case qt_NoStack=>k_is)
  (case qn_NoStack=>k_is)
  (case qs_NoBench_NoStack=>k_is)
  (case ql_NoStroke=>k_is)
  (case qt_NoStroke=>k_is)
  (case qn_NoStroke=>k_is)
  (case qs_NoBench_NoStroke=>k_is)
  (case ql_Order=>k_is)
  (case qt_Order=>k_is)
  (case qn_Order=>k_is)
  (case qs_NoBench_Order=>k_is)
  (case ql_TooMany=>k_is)
  (case qt_TooMany=>k_is)
  (case qn_TooMany=>k_is)
  (case qs_NoBench_TooMany=>k_is)
  (case ql_Twice=>k_is)
  (case qt_Twice=>k_is)
  (case qn_Twice=>k_is)
  (case qs_NoBench_Twice=>k_is)
  (case ql_Wrong=>k_is)
  (case qt_Wrong=>k_is)
  (case qn_Wrong=>k_is)
  (case qs_NoBench_Wrong=>k_is)
  (case qb_NoBench_ValueError=>k_is)
#print axioms PySem.Challenge.cw_lostblock_k10_whole_bench_rows_refused_holds
